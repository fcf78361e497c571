/-
  The search's open, by contract.
-/
import Derived.Test.YtoajckhnneagnaaDoorJd29
import Derived.Test.YtoajckhnneagnaaDoorJd25
import Derived.Deep.DeepCutAuto
set_option linter.unusedVariables false
set_option linter.unusedSimpArgs false
namespace Go.Proofs.YtoajckhnneagnaaDoor.Sh
open Go Go.RowKit
open Go.Maps (Keyed)

set_option linter.unusedVariables false
set_option linter.unusedSimpArgs false
theorem keep_alloc {w : World} {o X : Obj} {g : Nat} (h : w.heap[g]? = some X) : (w.alloc o).heap[g]? = some X := ((MapKept.heap_alloc w o).2 g (Array.getElem?_eq_some_iff.1 h).1).trans h
theorem keep_drew {w : World} {X : Obj} {g : Nat} (h : w.heap[g]? = some X) : w.drew.heap[g]? = some X := h
theorem keep_set {w : World} {a : Addr} {v : Value} {X : Obj} {g : Nat} (h : w.heap[g]? = some X) (hne : g ≠ a.block) : (w.setCell a v).heap[g]? = some X := (Below.heap_setCell w a v g hne).trans h
noncomputable def opK (pe : List ByteArray) (s : Se) (m : Nat) (r o : Rl) (k : Nat) : Se := (pe.take k).foldl (Se.openX m r o) s
theorem addp_len {s : Se} (p : Pr) (n : Nat) : (s.add p n).kn.length ≤ s.kn.length + 1 ∧ (s.add p n).fr.length ≤ s.fr.length + 1 := by
  unfold Se.add; split <;> simp
theorem opK_succ {pe : List ByteArray} {s : Se} {m : Nat} {r o : Rl} {k : Nat} {y : ByteArray} (h : pe[k]? = some y) : opK pe s m r o (k + 1) = Se.openX m r o (opK pe s m r o k) y := by
  unfold opK; rw [take_snoc_of h, List.foldl_append]; rfl
theorem opK_all {pe : List ByteArray} {s : Se} {m : Nat} {r o : Rl} {k : Nat} (h : pe.length ≤ k) : opK pe s m r o k = pe.foldl (Se.openX m r o) s := by
  unfold opK; rw [List.take_of_length_le h]
theorem openX_yes {s : Se} {m : Nat} {r o : Rl} {y : ByteArray} (h : s.lt m (o, y)) : Se.openX m r o s y = s.add (r, y) m := by unfold Se.openX; rw [if_pos h]
theorem openX_no {s : Se} {m : Nat} {r o : Rl} {y : ByteArray} (h : ¬ s.lt m (o, y)) : Se.openX m r o s y = s := by unfold Se.openX; rw [if_neg h]
theorem pe_get (L : Ly) {k : Nat} (h : k < 17) : L.pe[k]? = some (L.P k) := by unfold Ly.pe; rw [List.getElem?_map, List.getElem?_range h]; rfl
theorem pe_len (L : Ly) : L.pe.length = 17 := by unfold Ly.pe; simp
set_option maxRecDepth 100000 in
theorem ixP (P : Nat → ByteArray) (k : Nat) (hk : k < 17) (W : World) : (Instr.index 62 (.agg #[.string (P 0), .string (P 1), .string (P 2), .string (P 3), .string (P 4), .string (P 5), .string (P 6), .string (P 7), .string (P 8), .string (P 9), .string (P 10), .string (P 11), .string (P 12), .string (P 13), .string (P 14), .string (P 15), .string (P 16)]) (.int .i64 (k : Int))).run Tryd.prog W = .ok (.string (P k)) W := by
  have : k = 0 ∨ k = 1 ∨ k = 2 ∨ k = 3 ∨ k = 4 ∨ k = 5 ∨ k = 6 ∨ k = 7 ∨ k = 8 ∨ k = 9 ∨ k = 10 ∨ k = 11 ∨ k = 12 ∨ k = 13 ∨ k = 14 ∨ k = 15 ∨ k = 16 := by omega
  rcases this with rfl | rfl | rfl | rfl | rfl | rfl | rfl | rfl | rfl | rfl | rfl | rfl | rfl | rfl | rfl | rfl | rfl <;> rfl
theorem new_at {w : World} {o : Array Value} {t : TypeId} {g : Nat} (h : w.heap.size = g) : (w.alloc (.cells o t)).heap[g]? = some (.cells o t (0, 0)) := by subst h; exact heap_alloc_new w _
theorem set_two {w : World} {g : Nat} {a b a' b' : Value} {t : TypeId} (h : w.heap[g]? = some (.cells #[a, b] t (0, 0))) : ((w.setCell ⟨g, 0, none⟩ a').setCell ⟨g, 1, none⟩ b').heap[g]? = some (.cells #[a', b'] t (0, 0)) := by
  rw [heap_setCell_same _ g 1 _ _ b' (heap_setCell_same w g 0 _ _ a' h)]; rfl
theorem ch_z38 (w : World) : (zeroValue 38).run Tryd.prog w = .ok (.slice none 0 0) w := by kernel_rfl
def Mf (i : Nat) : Prop := i = 0 ∨ i = 5 ∨ i = 6 ∨ i = 3 ∨ i = 13
theorem Mf.ofC {i : Nat} (h : Mc i) : Mf i := by unfold Mc at h; unfold Mf; omega
theorem Mf.ofG {i : Nat} (h : Mg 3 i) : Mf i := by unfold Mg at h; unfold Mf; omega
set_option maxHeartbeats 16000000 in
set_option maxRecDepth 100000 in
theorem copn_any {L : Ly} {vF vL : Value} {col : Col} {x : Sx} {w : World} (h : Sea L w vF vL col x) (c : Crd) (hc : mayC c = true) (y : ByteArray) (hyB : okB y) (m : Nat) (hm0 : m ≠ 0) (hm : m ≤ 1000000000) (hic : x.s.ic ≤ 10000000000) (hkn : x.s.kn.length ≤ 10000000000) (hfr : x.s.fr.length ≤ 10000000000) :
    Calls Tryd.prog 68 #[.pointer (some ⟨L.sb, 0, none⟩), .agg c.cells.toArray, .string y, .int .i64 (m : Int)] w fun e w' => e = .returned (.tuple #[]) ∧ ∃ vF' col', Sea L w' vF' vL col' { x with s := x.s.opn L.pe c y m } ∧ Ext Mf w w' col col' := by
  obtain ⟨d, q, nm, kd, wh, ao, an, bo, bn⟩ := c
  obtain ⟨sb, hsb⟩ : ∃ sb, L.sb = sb := ⟨_, rfl⟩
  obtain ⟨b4, hb4⟩ : ∃ b4, L.b4 = b4 := ⟨_, rfl⟩
  have h0 := may_head hc
  have HOC := hid (okC_of hc)
  have HR0 := hid (fun W => roleC_any ⟨d, q, nm, kd, wh, ao, an, bo, bn⟩ (by have := h0.1; omega) (by have := h0; omega) W)
  have HNU := hid (fun W => nnum_any y W)
  obtain ⟨N, hN⟩ : ∃ N, numL y.data.toList = N := ⟨_, rfl⟩
  have HYD : Hid (isD y ↔ N ≠ 0) := hid (by unfold isD; rw [hN])
  have HYB := hid hyB
  rw [hN] at HNU
  simp only at HR0
  obtain ⟨D, hD⟩ : ∃ D, domB d = D := ⟨_, rfl⟩
  have HOR : Hid (okR (D, nm)) := hid ⟨by rw [← hD]; exact ok_dom d, HOC.out.1⟩
  have HRL : Hid (roleOf ⟨d, q, nm, kd, wh, ao, an, bo, bn⟩ = (D, nm)) := hid (by unfold roleOf; rw [hD])
  rw [hD] at HR0
  obtain ⟨w1, hw1⟩ : ∃ w1, w1 = w.alloc (.cells (Crd.cells ⟨d, q, nm, kd, wh, ao, an, bo, bn⟩).toArray 55) := ⟨_, rfl⟩
  obtain ⟨gr, hgr⟩ : ∃ g, w.heap.size = g := ⟨_, rfl⟩
  have HQ1 : Hid (Below w.heap.size w w1) := hid (by rw [hw1]; exact (Below.refl _ _).alloc (Nat.le_refl _) _)
  have HR1 : Hid (CrAt w1 gr ⟨d, q, nm, kd, wh, ao, an, bo, bn⟩) := hid (by rw [hw1, ← hgr]; exact CrAt.new w _)
  have HGR : Hid (col gr = none) := hid (h.free (by omega))
  have HH := hid h
  have HMY := hid hc
  have HSB := hid hsb
  have HB4e := hid hb4
  have HM0 := hid hm0
  have HM : Hid (m ≤ 1000000000) := hid hm
  have HBD : Hid (x.s.ic ≤ 10000000000 ∧ x.s.kn.length ≤ 10000000000 ∧ x.s.fr.length ≤ 10000000000) := hid ⟨hic, hkn, hfr⟩
  rw [hsb]
  clear h hc hD h0 hsb hb4 hic hkn hfr hm0 hm hN hyB
  unfold Crd.cells at hw1 HR0 ⊢
  simp only at hw1 HR0 ⊢
  by_cases hN0 : N = 0
  · have e0 : x.s.opn L.pe ⟨d, q, nm, kd, wh, ao, an, bo, bn⟩ y m = x.s := by unfold Se.opn; rw [if_neg (fun e => HYD.out.1 e hN0)]
    have HE0 := hid e0
    subst hN0
    clear e0
    go_enter Tryd.func68, Tryd.ntmps68
    go_upto_region 1 with fail
    rw [← hw1]
    clear hw1 hgr
    go_wp2_with (go_at_call 80; (refine (HNU.out _).mono ?_); rintro er w2 ⟨rfl, bb⟩; have HB2 := hid (HQ1.out.trans (bb.mono HQ1.out.size)); clear bb)
    refine bodyPost_ret (results_none rfl _ _ _) rfl ?_
    exact ⟨rfl, vF, col, by rw [HE0.out]; exact HH.out.below HB2.out, Ext.of_below _ col HB2.out⟩
  · have e0 : x.s.opn L.pe ⟨d, q, nm, kd, wh, ao, an, bo, bn⟩ y m = L.pe.foldl (Se.openX m (D, nm) (y, bn)) (x.s.toLnk (y, bn) (D, nm)) := by unfold Se.opn; rw [if_pos (HYD.out.2 hN0), HRL.out]
    have HE0 := hid e0
    have n1 : ((N : Int) == 0) = false := beq_eq_false_iff_ne.2 (by omega)
    have n2 : ¬ (N : Int) = 0 := by omega
    clear e0
    go_enter Tryd.func68, Tryd.ntmps68
    go_upto_region 1 with fail
    rw [← hw1]
    clear hw1 hgr
    go_upto_region 2 with (go_at_call 80; (refine (HNU.out _).mono ?_); rintro er w2 ⟨rfl, bb⟩; have HB2 := hid (HQ1.out.trans (bb.mono HQ1.out.size)); have HC2 := hid (HR1.out.kept bb); clear bb)
    have HZ8 := hid (RoleAt.new w2 ⟨#[]⟩ ⟨#[]⟩)
    have HZ9 := hid (RoleAt.new (w2.alloc (.cells #[.string ⟨#[]⟩, .string ⟨#[]⟩] 24)) ⟨#[]⟩ ⟨#[]⟩)
    have HC2L : Hid (gr < w2.heap.size) := hid HC2.out.lt
    have HKS : Hid (∀ W : World, W.heap[gr]? = some (.cells (Crd.cells ⟨d, q, nm, kd, wh, ao, an, bo, bn⟩).toArray 55 (0, 0)) → (fun w' => w'.cell? ⟨gr, 0, none⟩ = some (.int .i64 d) ∧ w'.cell? ⟨gr, 1, none⟩ = some (.int .i64 q) ∧ w'.cell? ⟨gr, 2, none⟩ = some (.string nm) ∧ w'.cell? ⟨gr, 3, none⟩ = some (.int .i64 kd) ∧ w'.cell? ⟨gr, 4, none⟩ = some (.string wh) ∧ w'.cell? ⟨gr, 5, none⟩ = some (.string ao) ∧ w'.cell? ⟨gr, 6, none⟩ = some (.string an) ∧ w'.cell? ⟨gr, 7, none⟩ = some (.string bo) ∧ w'.cell? ⟨gr, 8, none⟩ = some (.string bn)) W) := hid (fun W hW => CrAt.all (show CrAt W gr ⟨d, q, nm, kd, wh, ao, an, bo, bn⟩ from hW))
    have HC2H : Hid (w2.heap[gr]? = some (.cells (Crd.cells ⟨d, q, nm, kd, wh, ao, an, bo, bn⟩).toArray 55 (0, 0))) := hid HC2.out
    go_cut [8, 9] (fun a8 a9 wx => ∃ g8 g9 : Nat, a8 = .pointer (some ⟨g8, 0, none⟩) ∧ a9 = .pointer (some ⟨g9, 0, none⟩) ∧ Hid (RoleAt wx g8 D nm) ∧ Hid (RoleAt wx g9 y bn) ∧ Hid (w.heap.size ≤ g8 ∧ w.heap.size ≤ g9) ∧ Hid (Below w.heap.size w wx))
    case first =>
      go_region_held3 (fun w' => w'.cell? ⟨gr, 0, none⟩ = some (.int .i64 d) ∧ w'.cell? ⟨gr, 1, none⟩ = some (.int .i64 q) ∧ w'.cell? ⟨gr, 2, none⟩ = some (.string nm) ∧ w'.cell? ⟨gr, 3, none⟩ = some (.int .i64 kd) ∧ w'.cell? ⟨gr, 4, none⟩ = some (.string wh) ∧ w'.cell? ⟨gr, 5, none⟩ = some (.string ao) ∧ w'.cell? ⟨gr, 6, none⟩ = some (.string an) ∧ w'.cell? ⟨gr, 7, none⟩ = some (.string bo) ∧ w'.cell? ⟨gr, 8, none⟩ = some (.string bn))
        (first | with_reducible exact HKS.out _ HC2H.out | with_reducible exact HKS.out _ E3.out.1 | exact HKS.out _ (by repeat (first | with_reducible exact HC2H.out | with_reducible exact E3.out.1 | with_reducible refine keep_drew ?_ | with_reducible refine keep_alloc ?_ | with_reducible refine keep_set ?_ (by have := HC2L.out; have zD : w2.drew.heap.size = w2.heap.size := rfl; (try simp only [World.size_alloc, World.size_setCell, zD]); first | omega | (have := E3.out.2; omega)))))
      (first
      | (go_at_call 58; (refine (HR0.out w2.drew).mono ?_); rintro er w3 ⟨rfl, bb⟩; have HC3 := hid (CrAt.kept (w := w2) HC2.out ((Below.refl _ _).drew.trans bb)); have HS3 : Hid (w2.heap.size ≤ w3.heap.size) := hid (by have := bb.size; (try simp at this); omega); have E3 : Hid (w3.heap[gr]? = some (.cells (Crd.cells ⟨d, q, nm, kd, wh, ao, an, bo, bn⟩).toArray 55 (0, 0)) ∧ w2.heap.size ≤ w3.heap.size) := hid ⟨HC3.out, HS3.out⟩; have HB3 := hid (HB2.out.drew.trans (bb.mono HB2.out.size)); clear bb)
      | (go_at_call 58; (refine (HR0.out (w2.alloc (.cells #[.string ⟨#[]⟩, .string ⟨#[]⟩] 24)).drew).mono ?_); rintro er w3 ⟨rfl, bb⟩; have HC3 := hid (CrAt.kept (w := w2) HC2.out (((Below.refl _ _).alloc (Nat.le_refl _) (.cells #[.string ⟨#[]⟩, .string ⟨#[]⟩] 24)).drew.trans (bb.mono (by simp)))); have HS3 : Hid (w2.heap.size ≤ w3.heap.size) := hid (by have := bb.size; (try simp at this); omega); have E3 : Hid (w3.heap[gr]? = some (.cells (Crd.cells ⟨d, q, nm, kd, wh, ao, an, bo, bn⟩).toArray 55 (0, 0)) ∧ w2.heap.size ≤ w3.heap.size) := hid ⟨HC3.out, HS3.out⟩; have HB3 := hid ((HB2.out.alloc HB2.out.size (.cells #[.string ⟨#[]⟩, .string ⟨#[]⟩] 24)).drew.trans (bb.mono (by have := HB2.out.size; simp; omega)));
          have HY8 : Hid (RoleAt w3 w2.heap.size ⟨#[]⟩ ⟨#[]⟩) := hid ((bb.block _ HZ8.out.lt).trans HZ8.out); have y80 := HY8.out.c0; have y81 := HY8.out.c1; have y82 := frozen_of_row w3 w2.heap.size 0 _ _ HY8.out; have y83 := frozen_of_row w3 w2.heap.size 1 _ _ HY8.out; have Hya : Hid (∀ (o : Obj), RoleAt (w3.alloc o) w2.heap.size ⟨#[]⟩ ⟨#[]⟩) := hid (fun o => keep_alloc HY8.out); have ya0 := (fun o => (Hya.out o).c0 : ∀ (o : Obj), World.cell? (w3.alloc o) ⟨w2.heap.size, 0, none⟩ = _); have ya1 := (fun o => (Hya.out o).c1 : ∀ (o : Obj), World.cell? (w3.alloc o) ⟨w2.heap.size, 1, none⟩ = _); have ya2 := (fun o => frozen_of_row _ _ 0 _ _ (Hya.out o) : ∀ (o : Obj), World.frozen? (w3.alloc o) ⟨w2.heap.size, 0, none⟩ = false); have ya3 := (fun o => frozen_of_row _ _ 1 _ _ (Hya.out o) : ∀ (o : Obj), World.frozen? (w3.alloc o) ⟨w2.heap.size, 1, none⟩ = false); have Hyc : Hid (∀ (v v' : Value), RoleAt (((w3.alloc (.cells #[.string ⟨#[]⟩, .string ⟨#[]⟩] 24)).setCell ⟨w2.heap.size, 0, none⟩ v).setCell ⟨w2.heap.size, 1, none⟩ v') w3.heap.size ⟨#[]⟩ ⟨#[]⟩) := hid (fun v v' => keep_set (keep_set (RoleAt.new w3 _ _) (by have := HS3.out; have := HY8.out.lt; simp only; omega)) (by have := HS3.out; have := HY8.out.lt; simp only; omega)); have yc0 := (fun v v' => (Hyc.out v v').c0 : ∀ (v v' : Value), World.cell? (((w3.alloc (.cells #[.string ⟨#[]⟩, .string ⟨#[]⟩] 24)).setCell ⟨w2.heap.size, 0, none⟩ v).setCell ⟨w2.heap.size, 1, none⟩ v') ⟨w3.heap.size, 0, none⟩ = _); have yc1 := (fun v v' => (Hyc.out v v').c1 : ∀ (v v' : Value), World.cell? (((w3.alloc (.cells #[.string ⟨#[]⟩, .string ⟨#[]⟩] 24)).setCell ⟨w2.heap.size, 0, none⟩ v).setCell ⟨w2.heap.size, 1, none⟩ v') ⟨w3.heap.size, 1, none⟩ = _); have yc2 := (fun v v' => frozen_of_row _ _ 0 _ _ (Hyc.out v v') : ∀ (v v' : Value), World.frozen? (((w3.alloc (.cells #[.string ⟨#[]⟩, .string ⟨#[]⟩] 24)).setCell ⟨w2.heap.size, 0, none⟩ v).setCell ⟨w2.heap.size, 1, none⟩ v') ⟨w3.heap.size, 0, none⟩ = false); have yc3 := (fun v v' => frozen_of_row _ _ 1 _ _ (Hyc.out v v') : ∀ (v v' : Value), World.frozen? (((w3.alloc (.cells #[.string ⟨#[]⟩, .string ⟨#[]⟩] 24)).setCell ⟨w2.heap.size, 0, none⟩ v).setCell ⟨w2.heap.size, 1, none⟩ v') ⟨w3.heap.size, 1, none⟩ = false); clear bb)
      | (go_at_call 58; (refine (HR0.out ((w2.alloc (.cells #[.string ⟨#[]⟩, .string ⟨#[]⟩] 24)).alloc (.cells #[.string ⟨#[]⟩, .string ⟨#[]⟩] 24)).drew).mono ?_); rintro er w3 ⟨rfl, bb⟩; have HC3 := hid (CrAt.kept (w := w2) HC2.out ((((Below.refl _ _).alloc (Nat.le_refl _) (.cells #[.string ⟨#[]⟩, .string ⟨#[]⟩] 24)).alloc (by simp) (.cells #[.string ⟨#[]⟩, .string ⟨#[]⟩] 24)).drew.trans (bb.mono (by simp; omega)))); have HS3 : Hid (w2.heap.size ≤ w3.heap.size) := hid (by have := bb.size; (try simp at this); omega); have E3 : Hid (w3.heap[gr]? = some (.cells (Crd.cells ⟨d, q, nm, kd, wh, ao, an, bo, bn⟩).toArray 55 (0, 0)) ∧ w2.heap.size ≤ w3.heap.size) := hid ⟨HC3.out, HS3.out⟩; have HB3 := hid (((HB2.out.alloc HB2.out.size (.cells #[.string ⟨#[]⟩, .string ⟨#[]⟩] 24)).alloc (by have := HB2.out.size; simp; omega) (.cells #[.string ⟨#[]⟩, .string ⟨#[]⟩] 24)).drew.trans (bb.mono (by have := HB2.out.size; simp; omega)));
          have HY8 : Hid (RoleAt w3 w2.heap.size ⟨#[]⟩ ⟨#[]⟩) := hid ((bb.block _ (by simp; omega)).trans (((Below.refl _ _).alloc (Nat.le_refl _) (.cells #[.string ⟨#[]⟩, .string ⟨#[]⟩] 24)).block _ HZ8.out.lt |>.trans HZ8.out)); have HY9 : Hid (RoleAt w3 (w2.heap.size + 1) ⟨#[]⟩ ⟨#[]⟩) := hid (by have h := (bb.block _ HZ9.out.lt).trans HZ9.out; rw [World.size_alloc] at h; exact h); have y80 := HY8.out.c0; have y81 := HY8.out.c1; have y82 := frozen_of_row w3 w2.heap.size 0 _ _ HY8.out; have y83 := frozen_of_row w3 w2.heap.size 1 _ _ HY8.out; have y90 := HY9.out.c0; have y91 := HY9.out.c1; have y92 := frozen_of_row w3 (w2.heap.size + 1) 0 _ _ HY9.out; have y93 := frozen_of_row w3 (w2.heap.size + 1) 1 _ _ HY9.out; have Hyd : Hid (∀ (v v' : Value), RoleAt ((w3.setCell ⟨w2.heap.size, 0, none⟩ v).setCell ⟨w2.heap.size, 1, none⟩ v') (w2.heap.size + 1) ⟨#[]⟩ ⟨#[]⟩) := hid (fun v v' => keep_set (keep_set HY9.out (by simp)) (by simp)); have yd0 := (fun v v' => (Hyd.out v v').c0 : ∀ (v v' : Value), World.cell? ((w3.setCell ⟨w2.heap.size, 0, none⟩ v).setCell ⟨w2.heap.size, 1, none⟩ v') ⟨(w2.heap.size + 1), 0, none⟩ = _); have yd1 := (fun v v' => (Hyd.out v v').c1 : ∀ (v v' : Value), World.cell? ((w3.setCell ⟨w2.heap.size, 0, none⟩ v).setCell ⟨w2.heap.size, 1, none⟩ v') ⟨(w2.heap.size + 1), 1, none⟩ = _); have yd2 := (fun v v' => frozen_of_row _ _ 0 _ _ (Hyd.out v v') : ∀ (v v' : Value), World.frozen? ((w3.setCell ⟨w2.heap.size, 0, none⟩ v).setCell ⟨w2.heap.size, 1, none⟩ v') ⟨(w2.heap.size + 1), 0, none⟩ = false); have yd3 := (fun v v' => frozen_of_row _ _ 1 _ _ (Hyd.out v v') : ∀ (v v' : Value), World.frozen? ((w3.setCell ⟨w2.heap.size, 0, none⟩ v).setCell ⟨w2.heap.size, 1, none⟩ v') ⟨(w2.heap.size + 1), 1, none⟩ = false); have Hye : Hid (∀ (v v' : Value), RoleAt ((w3.setCell ⟨w2.heap.size + 1, 0, none⟩ v).setCell ⟨w2.heap.size + 1, 1, none⟩ v') w2.heap.size ⟨#[]⟩ ⟨#[]⟩) := hid (fun v v' => keep_set (keep_set HY8.out (by simp)) (by simp)); have ye0 := (fun v v' => (Hye.out v v').c0 : ∀ (v v' : Value), World.cell? ((w3.setCell ⟨w2.heap.size + 1, 0, none⟩ v).setCell ⟨w2.heap.size + 1, 1, none⟩ v') ⟨w2.heap.size, 0, none⟩ = _); have ye1 := (fun v v' => (Hye.out v v').c1 : ∀ (v v' : Value), World.cell? ((w3.setCell ⟨w2.heap.size + 1, 0, none⟩ v).setCell ⟨w2.heap.size + 1, 1, none⟩ v') ⟨w2.heap.size, 1, none⟩ = _); have ye2 := (fun v v' => frozen_of_row _ _ 0 _ _ (Hye.out v v') : ∀ (v v' : Value), World.frozen? ((w3.setCell ⟨w2.heap.size + 1, 0, none⟩ v).setCell ⟨w2.heap.size + 1, 1, none⟩ v') ⟨w2.heap.size, 0, none⟩ = false); have ye3 := (fun v v' => frozen_of_row _ _ 1 _ _ (Hye.out v v') : ∀ (v v' : Value), World.frozen? ((w3.setCell ⟨w2.heap.size + 1, 0, none⟩ v).setCell ⟨w2.heap.size + 1, 1, none⟩ v') ⟨w2.heap.size, 1, none⟩ = false); clear bb))
      all_goals
        go_wp2_with fail
        go_meet
        case rel =>
          (try have hy8 := HY8.out); (try have hy9 := HY9.out); (try unfold RoleAt at hy8); (try unfold RoleAt at hy9)
          refine ⟨_, _, rfl, rfl, hid (by unfold RoleAt; repeat (first | with_reducible refine keep_set ?_ (by have := HS3.out; (try have := HY8.out.lt); simp only; omega) | with_reducible refine set_two (a := .string ⟨#[]⟩) (b := .string ⟨#[]⟩) ?_ | with_reducible exact new_at (World.size_alloc _ _) | with_reducible exact new_at rfl | with_reducible refine keep_alloc ?_ | with_reducible exact hy8 | with_reducible exact hy9)), hid (by unfold RoleAt; repeat (first | with_reducible refine keep_set ?_ (by have := HS3.out; (try have := HY8.out.lt); simp only; omega) | with_reducible refine set_two (a := .string ⟨#[]⟩) (b := .string ⟨#[]⟩) ?_ | with_reducible exact new_at (World.size_alloc _ _) | with_reducible exact new_at rfl | with_reducible refine keep_alloc ?_ | with_reducible exact hy8 | with_reducible exact hy9)), hid (by have := HB2.out.size; have := HS3.out; omega), hid ?_⟩
          repeat (first | with_reducible exact HB3.out | with_reducible refine Below.setCell ?_ (by have := HB2.out.size; have := HS3.out; simp only; omega) _ | with_reducible refine Below.alloc ?_ (by have := HB2.out.size; have := HS3.out; (try simp only [World.size_alloc]); omega) _ | with_reducible refine Below.drew ?_)
    case rest =>
      obtain ⟨g8, g9, rfl, rfl, HG8, HG9, HGN, HBc⟩ := hcut
      obtain ⟨w3, hw3⟩ : ∃ x, x = wc := ⟨_, rfl⟩
      subst hw3
      have HS3 := hid (HH.out.below HBc.out)
      have HIC : Hid (x.s.ic ≤ 100000000000) := hid (by have := HBD.out.1; omega)
      have HKY : Hid (okR (y, bn)) := hid ⟨HYB.out, HOC.out.2.2.2.2.2⟩
      have HGS : Hid (∀ g ∈ [sb, g8, g9], g < w3.heap.size ∧ (col g = some (0, .nil) ∨ col g = none)) := hid (fun g hg => by
        simp only [List.mem_cons, List.not_mem_nil, or_false] at hg
        rcases hg with rfl | rfl | rfl
        · exact ⟨by rw [← HSB.out]; exact HS3.out.lt, .inl (by rw [← HSB.out]; exact HS3.out.csb)⟩
        · exact ⟨HG8.out.lt, .inr (HH.out.free HGN.out.1)⟩
        · exact ⟨HG9.out.lt, .inr (HH.out.free HGN.out.2)⟩)
      have HKS : Hid (∀ W, Kp [sb, g8, g9] w3 W → (fun w' => w'.cell? ⟨sb, 20, none⟩ = some (.map (some b4)) ∧ w'.cell? ⟨g8, 0, none⟩ = some (.string D) ∧ w'.cell? ⟨g8, 1, none⟩ = some (.string nm) ∧ w'.cell? ⟨g9, 0, none⟩ = some (.string y) ∧ w'.cell? ⟨g9, 1, none⟩ = some (.string bn)) W) := hid (fun W hW => ⟨by rw [cell_of_row W sb 20 _ _ (0, 0) ((hW sb (by simp)).trans (by rw [← HSB.out]; exact HS3.out.row)), ← HB4e.out]; rfl, by rw [cell_of_row W g8 0 _ _ (0, 0) ((hW g8 (by simp)).trans HG8.out)]; rfl, by rw [cell_of_row W g8 1 _ _ (0, 0) ((hW g8 (by simp)).trans HG8.out)]; rfl, by rw [cell_of_row W g9 0 _ _ (0, 0) ((hW g9 (by simp)).trans HG9.out)]; rfl, by rw [cell_of_row W g9 1 _ _ (0, 0) ((hW g9 (by simp)).trans HG9.out)]; rfl⟩)
      clear HC2 HC2L HC2H HZ8 HZ9 HR0 HNU HQ1 HR1 HB2 HGR
      go_wp2_with fail
      obtain ⟨v, ho, hvl, hvc, hent⟩ := HS3.out.lnk.entry kr_inj klR Tryd.underlying64 ch_z38 (by have := HIC.out; unfold maxLen; omega) (k := (y, bn)) HKY.out (keyR HKY.out)
      unfold rV at hent
      simp only at hent
      obtain ⟨A, cA, rfl, -, -, -⟩ := ho.els
      rw [HB4e.out] at hent
      have hcb : col b4 = some (3, .nil) := by rw [← HB4e.out]; exact HS3.out.c4
      have hbl : b4 < w3.heap.size := HS3.out.dom _ _ hcb
      have hgs : ∀ g ∈ [sb, g8, g9], g < w3.heap.size ∧ g ≠ b4 ∧ some g ≠ (Value.slice A (x.s.lnk (y, bn)).length cA).ownBlock := fun g hg => by
        obtain ⟨q1, q2⟩ := HGS.out g hg
        refine ⟨q1, fun e => ?_, fun e => ?_⟩
        · rcases q2 with q2 | q2
          · rw [e, hcb] at q2; cases q2
          · rw [e, hcb] at q2; cases q2
        · have q3 := hvc _ e.symm
          rcases q2 with q2 | q2
          · rw [q3] at q2; cases q2
          · rw [q3] at q2; cases q2
      have hvb : ∀ g, (Value.slice A (x.s.lnk (y, bn)).length cA).ownBlock = some g → g < w3.heap.size ∧ g ≠ b4 := fun g hg => ⟨(ho.lt g hg).2, fun e => by have h1 := hvc g hg; rw [e, hcb] at h1; simp at h1⟩
      obtain ⟨st1, u1, run1, g1, z1, fin1⟩ := hent w3.drew rfl
      obtain ⟨st2, u2, run2, g2, z2, fin2⟩ := hent (w3.alloc (.cells #[.string D, .string nm] 24)).drew ((MapKept.heap_alloc w3 _).2 _ hbl)
      have zX : (w3.alloc (.cells #[.string D, .string nm] 24)).drew.heap.size = w3.heap.size + 1 := by simp
      have zD : w3.drew.heap.size = w3.heap.size := rfl
      have kpD := hid ((Kp.refl [sb, g8, g9] w3).drew)
      have kpA := hid (((Kp.refl [sb, g8, g9] w3).alloc (fun g hg => (hgs g hg).1) (.cells #[.string D, .string nm] 24)).drew)
      have kp1 := hid (kpD.out.grown g1 (fun g hg => (hgs g hg).1) (fun g hg => by simp only [ne_eq, Option.some.injEq]; exact (hgs g hg).2.1))
      have kp1a := hid (kp1.out.alloc (fun g hg => by have := (hgs g hg).1; omega) (.cells #[.string D, .string nm] 24))
      have kp2 := hid (kpA.out.grown g2 (fun g hg => by have := (hgs g hg).1; omega) (fun g hg => by simp only [ne_eq, Option.some.injEq]; exact (hgs g hg).2.1))
      have oA := hid ((Own.kept ho (w' := u1) fun g hg => g1.block g (hvb g hg).1 (by simp only [ne_eq, Option.some.injEq]; exact (hvb g hg).2)).alloc (.cells #[.string D, .string nm] 24))
      have oB := hid (Own.kept ho (w' := u2) fun g hg => (g2.block g (by have := (hvb g hg).1; omega) (by simp only [ne_eq, Option.some.injEq]; exact (hvb g hg).2)).trans ((MapKept.heap_alloc w3 _).2 g (hvb g hg).1))
      have rA := hid (reads_new u1 #[.string D, .string nm] 24 (0, 0))
      have rB := hid ((reads_newd w3 #[.string D, .string nm] 24 (0, 0)).grown g2 (fun ad e => by cases e; exact ⟨by simp, by simp only [ne_eq, Option.some.injEq]; omega⟩))
      have bA := hid ((((But.refl (fun g => g = b4 ∨ some g = (Value.slice A (x.s.lnk (y, bn)).length cA).ownBlock) w3).drew).then_grown g1 (fun g e => .inr (.inl (Option.some.inj e).symm))).alloc (.cells #[.string D, .string nm] 24))
      have bB := hid ((((But.refl (fun g => g = b4 ∨ some g = (Value.slice A (x.s.lnk (y, bn)).length cA).ownBlock) w3).alloc (.cells #[.string D, .string nm] 24)).drew).then_grown g2 (fun g e => .inr (.inl (Option.some.inj e).symm)))
      have FA := hid fin1
      have FB := hid fin2
      have GS := hid hgs
      have VB := hid hvb
      have Z1 : Hid (u1.heap.size = w3.heap.size ∧ u2.heap.size = w3.heap.size + 1 ∧ (u1.alloc (.cells #[.string D, .string nm] 24)).heap.size = w3.heap.size + 1 ∧ b4 < w3.heap.size) := hid ⟨by omega, by omega, by simp; omega, hbl⟩
      have FBW : Hid (u1.heap[b4]? = (u1.alloc (.cells #[.string D, .string nm] 24)).heap[b4]?) := hid ((MapKept.heap_alloc u1 _).2 _ (by omega)).symm
      have VC := hid hvc
      have hbB : L.B ≤ w3.heap.size := HS3.out.base
      have hll : (x.s.lnk (y, bn)).length ≤ 1000000000000 := by have := HIC.out; omega
      clear fin1 fin2 g1 g2 ho hvc hvl hent hvb hgs zX zD hbl hcb
      go_region_held3 (fun w' => w'.cell? ⟨sb, 20, none⟩ = some (.map (some b4)) ∧ w'.cell? ⟨g8, 0, none⟩ = some (.string D) ∧ w'.cell? ⟨g8, 1, none⟩ = some (.string nm) ∧ w'.cell? ⟨g9, 0, none⟩ = some (.string y) ∧ w'.cell? ⟨g9, 1, none⟩ = some (.string bn))
        (first | exact HKS.out _ kpD.out | exact HKS.out _ kpA.out | exact HKS.out _ kp1.out | exact HKS.out _ kp1a.out | exact HKS.out _ kp2.out | exact HKS.out _ kp5.out | exact HKS.out _ kp6.out)
        ((first | (refine step_appW (E := encR) (by rfl) slR (.tmp 29) (.tmp 31) (by rfl) (B := L.B) (v := .slice A (x.s.lnk (y, bn)).length cA) (l := x.s.lnk (y, bn)) oA.out (by rfl) (ad := ⟨u1.heap.size, 0, none⟩) (c := 1) (D, nm) (by rfl) rA.out hll (by omega) (by have := Z1.out; omega) ?_; intro A' c' w5 ho5 hg5 hl5; obtain ⟨w6, run6, g6, z6, fin6⟩ := FA.out w5 (.slice A' ((x.s.lnk (y, bn)).length + 1) c') ((hg5.block b4 (by have := Z1.out; omega) (fun e => (VB.out b4 e.symm).2 rfl)).trans FBW.out.symm); have kp5 := hid (kp1a.out.grown hg5 (fun g hg => by have := (GS.out g hg).1; have := Z1.out; omega) (fun g hg => (GS.out g hg).2.2)); have kp6 := hid (kp5.out.grown g6 (fun g hg => by have := (GS.out g hg).1; have := Z1.out; have := hg5.size; omega) (fun g hg => by simp only [ne_eq, Option.some.injEq]; exact (GS.out g hg).2.1)); have b6 := hid ((bA.out.then_grown hg5 (fun g e => .inr (.inr e.symm))).then_grown g6 (fun g e => .inr (.inl (Option.some.inj e).symm))); have l6 := hid (loc_of (a := w3.heap.size) hl5 (by have := Z1.out; omega)); have o6 := hid (own_behind ho5 g6 l6.out (fun g e => (VB.out g e).2) (by have := Z1.out; omega)); have F6 := hid fin6; clear fin6 g6 hl5 ho5 hg5) | (refine step_appW (E := encR) (by rfl) slR (.tmp 29) (.tmp 31) (by rfl) (B := L.B) (v := .slice A (x.s.lnk (y, bn)).length cA) (l := x.s.lnk (y, bn)) oB.out (by rfl) (ad := ⟨w3.heap.size, 0, none⟩) (c := 1) (D, nm) (by rfl) rB.out hll (by omega) (by have := Z1.out; omega) ?_; intro A' c' w5 ho5 hg5 hl5; obtain ⟨w6, run6, g6, z6, fin6⟩ := FB.out w5 (.slice A' ((x.s.lnk (y, bn)).length + 1) c') ((hg5.block b4 (by have := Z1.out; omega) (fun e => (VB.out b4 e.symm).2 rfl))); have kp5 := hid (kp2.out.grown hg5 (fun g hg => by have := (GS.out g hg).1; have := Z1.out; omega) (fun g hg => (GS.out g hg).2.2)); have kp6 := hid (kp5.out.grown g6 (fun g hg => by have := (GS.out g hg).1; have := Z1.out; have := hg5.size; omega) (fun g hg => by simp only [ne_eq, Option.some.injEq]; exact (GS.out g hg).2.1)); have b6 := hid ((bB.out.then_grown hg5 (fun g e => .inr (.inr e.symm))).then_grown g6 (fun g e => .inr (.inl (Option.some.inj e).symm))); have l6 := hid (loc_of (a := w3.heap.size) hl5 (by have := Z1.out; omega)); have o6 := hid (own_behind ho5 g6 l6.out (fun g e => (VB.out g e).2) (by have := Z1.out; omega)); have F6 := hid fin6; clear fin6 g6 hl5 ho5 hg5)))
      all_goals
        obtain ⟨h6, x6⟩ := HS3.out.linked (v := .slice A (x.s.lnk (y, bn)).length cA) (v' := .slice A' ((x.s.lnk (y, bn)).length + 1) c') HOR.out VC.out (by rw [HB4e.out]; exact b6.out) l6.out (fun g hg => (o6.out.lt g hg).2) (by rw [HB4e.out]; exact F6.out (D, nm) o6.out (fun g hg h1 h2 => b6.out.block g hg (fun h => h.elim h1 h2)) l6.out)
        have HX6 : ∃ c, Sea L w6 vF vL c { x with s := x.s.toLnk (y, bn) (D, nm) } ∧ Ext (Mg 3) w3 w6 col c := ⟨_, h6, x6⟩
        have HK6 := hid (HKS.out _ kp6.out)
        clear h6 x6 kp6 b6 l6 o6 F6
        clear HKS HGS
        obtain ⟨c6, h6, x6⟩ := HX6
        have HS6 := hid h6
        have HX6 := hid x6
        have PF := hid (fun i (hi : i < 17) => show w6.cell? ⟨sb, i, none⟩ = some (.string (L.P i)) by rw [← HSB.out]; exact h6.per hi)
        have p0 := PF.out 0 (by omega)
        have p1 := PF.out 1 (by omega)
        have p2 := PF.out 2 (by omega)
        have p3 := PF.out 3 (by omega)
        have p4 := PF.out 4 (by omega)
        have p5 := PF.out 5 (by omega)
        have p6 := PF.out 6 (by omega)
        have p7 := PF.out 7 (by omega)
        have p8 := PF.out 8 (by omega)
        have p9 := PF.out 9 (by omega)
        have p10 := PF.out 10 (by omega)
        have p11 := PF.out 11 (by omega)
        have p12 := PF.out 12 (by omega)
        have p13 := PF.out 13 (by omega)
        have p14 := PF.out 14 (by omega)
        have p15 := PF.out 15 (by omega)
        have p16 := PF.out 16 (by omega)
        clear h6 x6
        go_wp2_with fail
        clear p0 p1 p2 p3 p4 p5 p6 p7 p8 p9 p10 p11 p12 p13 p14 p15 p16
        have HC89 : Hid (RoleAt w6 g8 D nm ∧ RoleAt w6 g9 y bn ∧ c6 g8 = none ∧ c6 g9 = none) := hid (by
          have e8 := HH.out.free HGN.out.1
          have e9 := HH.out.free HGN.out.2
          exact ⟨(HX6.out.free HG8.out.lt e8).trans HG8.out, (HX6.out.free HG9.out.lt e9).trans HG9.out, (HX6.out.col _ HG8.out.lt).trans e8, (HX6.out.col _ HG9.out.lt).trans e9⟩)
        have HXX : Hid (Ext Mf w w6 col c6) := hid ((Ext.of_below Mf col HBc.out).trans (HX6.out.mono fun _ => Mf.ofG))
        clear HX6 HG8 HG9 HGN HBc HK6 HS3 HKY HIC
        go_loopw [39] (fun i wr => ∃ (k : Nat) (vFk : Value) (ck : Col), i = .int .i64 (k : Int) ∧ k ≤ 17 ∧ Hid (Sea L wr vFk vL ck { x with s := opK L.pe (x.s.toLnk (y, bn) (D, nm)) m (D, nm) (y, bn) k }) ∧ Hid (Ext Mf w6 wr c6 ck) ∧ Hid ((opK L.pe (x.s.toLnk (y, bn) (D, nm)) m (D, nm) (y, bn) k).kn.length ≤ 10000000000 + k ∧ (opK L.pe (x.s.toLnk (y, bn) (D, nm)) m (D, nm) (y, bn) k).fr.length ≤ 10000000000 + k)) (fun i _ => 17 - (intOf i).toNat)
        case atStart => exact ⟨0, vF, c6, rfl, by omega, HS6, hid (Ext.refl _ _ _), hid (by have := HBD.out; exact ⟨by show x.s.kn.length ≤ _; omega, by show x.s.fr.length ≤ _; omega⟩)⟩
        case round =>
          obtain ⟨k, vFk, ck, rfl, hk, HSK, HXK, HLK⟩ := hrel
          by_cases hlt : k < 17
          · obtain ⟨who, hwho⟩ : ∃ y, L.P k = y := ⟨_, rfl⟩
            have hk0 : (0 : Int) ≤ (k : Int) := Int.natCast_nonneg _
            have hk1 : (k : Int) < 17 := by omega
            have hk2 : ¬ (17 : Int) ≤ (k : Int) := by omega
            have hix := fun W => ixP L.P k hlt W
            rw [hwho] at hix
            have HW := hid hwho
            have HGK : Hid (RoleAt wr g8 D nm ∧ RoleAt wr g9 y bn) := hid ⟨(HXK.out.free HC89.out.1.lt HC89.out.2.2.1).trans HC89.out.1, (HXK.out.free HC89.out.2.1.lt HC89.out.2.2.2).trans HC89.out.2.1⟩
            have hg90 := HGK.out.2.c0
            have hg91 := HGK.out.2.c1
            have HQ7 := hid ((Below.refl wr.heap.size wr).alloc (Nat.le_refl _) (.cells #[.string y, .string bn, .string who] 58))
            have HE7 := hid (els_one wr y bn who 58)
            have HOW : Hid (okB who) := hid (by rw [← hwho]; exact HH.out.pe k hlt)
            have HPG : Hid (L.pe[k]? = some who) := hid (by rw [← hwho]; exact pe_get L hlt)
            have okl : ∀ q ∈ [((y, bn), who)], okP q := fun q hq => by rw [List.mem_singleton] at hq; subst hq; exact ⟨⟨HYB.out, HOC.out.2.2.2.2.2⟩, HOW.out⟩
            clear hwho
            by_cases hx : (opK L.pe (x.s.toLnk (y, bn) (D, nm)) m (D, nm) (y, bn) k).lt m ((y, bn), who)
            · have HA := hid (ahead_yes (HSK.out.below HQ7.out) m HM.out (some ⟨wr.heap.size, 0, none⟩) [((y, bn), who)] 1 1 rfl (by omega) HE7.out okl (fun q hq => by rw [List.mem_singleton] at hq; subst hq; exact hx))
              rw [HSB.out] at HA
              have e9 : opK L.pe (x.s.toLnk (y, bn) (D, nm)) m (D, nm) (y, bn) (k + 1) = (opK L.pe (x.s.toLnk (y, bn) (D, nm)) m (D, nm) (y, bn) k).add ((D, nm), who) m := by rw [opK_succ HPG.out, openX_yes hx]
              have HE9 := hid e9
              clear hx okl e9
              go_wp2_with (first
                | (go_at_call 83; (refine HA.out.mono ?_); rintro er w8 ⟨rfl, bb⟩; have HB8 := hid (HQ7.out.trans (bb.mono HQ7.out.size)); have HS8 := hid (HSK.out.below HB8.out); have r8 : Hid (RoleAt w8 g8 D nm) := hid ((HB8.out.block _ HGK.out.1.lt).trans HGK.out.1); have g80 := r8.out.c0; have g81 := r8.out.c1; clear bb HA)
                | (go_at_call 66; have HAD := cadd_any HS8.out ((D, nm), who) ⟨HOR.out, HOW.out⟩ m HM0.out (by have := HLK.out.1; show (opK L.pe (x.s.toLnk (y, bn) (D, nm)) m (D, nm) (y, bn) k).kn.length ≤ _; omega) (by have := HLK.out.2; show (opK L.pe (x.s.toLnk (y, bn) (D, nm)) m (D, nm) (y, bn) k).fr.length ≤ _; omega); rw [HSB.out] at HAD; (refine HAD.mono ?_); rintro er w9 ⟨rfl, vF9, c9, h9, x9⟩; have HS9 := hid h9; have HX9 := hid x9; clear h9 x9 HAD))
              go_roundw
              case rel => exact ⟨k + 1, vF9, c9, by go_num, by omega, hid (by rw [HE9.out]; exact HS9.out), hid (HXK.out.trans ((Ext.of_below Mf ck HB8.out).trans (HX9.out.mono fun _ => Mf.ofC))), hid (by rw [HE9.out]; have h1 := addp_len (s := opK L.pe (x.s.toLnk (y, bn) (D, nm)) m (D, nm) (y, bn) k) ((D, nm), who) m; have h2 := HLK.out; omega)⟩
              case measure => simp [intOf]; omega
            · have HA := hid (ahead_no (HSK.out.below HQ7.out) m HM.out (some ⟨wr.heap.size, 0, none⟩) [((y, bn), who)] 1 1 rfl (by omega) HE7.out okl (fun e => hx (e _ (by simp))))
              rw [HSB.out] at HA
              have e9 : opK L.pe (x.s.toLnk (y, bn) (D, nm)) m (D, nm) (y, bn) (k + 1) = opK L.pe (x.s.toLnk (y, bn) (D, nm)) m (D, nm) (y, bn) k := by rw [opK_succ HPG.out, openX_no hx]
              have HE9 := hid e9
              clear hx okl e9
              go_wp2_with (go_at_call 83; (refine HA.out.mono ?_); rintro er w8 ⟨rfl, bb⟩; have HB8 := hid (HQ7.out.trans (bb.mono HQ7.out.size)); have HS8 := hid (HSK.out.below HB8.out); clear bb HA)
              go_roundw
              case rel => exact ⟨k + 1, vFk, ck, by go_num, by omega, hid (by rw [HE9.out]; exact HS8.out), hid (HXK.out.trans (Ext.of_below Mf ck HB8.out)), hid (by rw [HE9.out]; have h2 := HLK.out; omega)⟩
              case measure => simp [intOf]; omega
          · obtain rfl : k = 17 := by omega
            go_wp2_with fail
            go_end0
            exact ⟨rfl, vFk, ck, by rw [HE0.out, ← opK_all (k := 17) (by rw [pe_len]; omega)]; exact HSK.out, HXX.out.trans HXK.out⟩
end Go.Proofs.YtoajckhnneagnaaDoor.Sh
