/-
  The search's take, by contract: kind 4.
-/
import Derived.Test.YtoajckhnneagnaaDoorJd25
import Derived.Test.YtoajckhnneagnaaDoorJd26
import Derived.Test.YtoajckhnneagnaaDoorJd18
import Derived.BigQuiet
set_option linter.unusedVariables false
set_option linter.unusedSimpArgs false
namespace Go.Proofs.YtoajckhnneagnaaDoor.Sh
open Go Go.RowKit
open Go.Maps (Keyed)

set_option linter.unusedVariables false
set_option linter.unusedSimpArgs false
set_option maxHeartbeats 16000000 in
set_option maxRecDepth 100000 in
theorem ctake4_any {L : Ly} {vF vL : Value} {col : Col} {x : Sx} {w : World} (h : Sea L w vF vL col x) (c : Crd) (hc : mayC c = true) (hkd : c.kd = 4) (hic : x.s.ic ≤ 10000000000) (hkn : x.s.kn.length ≤ 10000000000) (hfr : x.s.fr.length ≤ 10000000000) :
    Calls Tryd.prog 44 #[.pointer (some ⟨L.sb, 0, none⟩), .agg c.cells.toArray] w fun e w' => e = .returned (.tuple #[]) ∧ ∃ vF' col', Sea L w' vF' vL col' { x with s := x.s.take L.pe c } ∧ Ext (fun _ => True) w w' col col' := by
  obtain ⟨d, q, nm, kd, wh, ao, an, bo, bn⟩ := c
  obtain ⟨sb, hsb⟩ : ∃ sb, L.sb = sb := ⟨_, rfl⟩
  obtain ⟨b2, hb2⟩ : ∃ b2, L.b2 = b2 := ⟨_, rfl⟩
  simp only at hkd
  subst hkd
  have h0 := may_head hc
  have HOC := hid (okC_of hc)
  have HR0 := hid (fun W => roleC_any ⟨d, q, nm, 4, wh, ao, an, bo, bn⟩ (by have := h0.1; omega) (by have := h0; omega) W)
  simp only at HR0
  obtain ⟨D, hD⟩ : ∃ D, domB d = D := ⟨_, rfl⟩
  have HOR : Hid (okR (D, nm)) := hid ⟨by rw [← hD]; exact ok_dom d, HOC.out.1⟩
  have HRL : Hid (roleOf ⟨d, q, nm, 4, wh, ao, an, bo, bn⟩ = (D, nm)) := hid (by unfold roleOf; rw [hD])
  have HFL : Hid (firstOf ⟨d, q, nm, 4, wh, ao, an, bo, bn⟩ = (D, an)) := hid (by unfold firstOf; rw [hD])
  rw [hD] at HR0
  obtain ⟨w1, hw1⟩ : ∃ w1, w1 = w.alloc (.cells (Crd.cells ⟨d, q, nm, 4, wh, ao, an, bo, bn⟩).toArray 55) := ⟨_, rfl⟩
  have HQ1 : Hid (Below w.heap.size w w1) := hid (by rw [hw1]; exact (Below.refl _ _).alloc (Nat.le_refl _) _)
  have HR1 : Hid (CrAt w1 w.heap.size ⟨d, q, nm, 4, wh, ao, an, bo, bn⟩) := hid (by rw [hw1]; exact CrAt.new w _)
  have HH := hid h
  have HMY := hid hc
  have HSB := hid hsb
  have HB2e := hid hb2
  have HAS := hid (fun W vF vL col y (hS : Sea L W vF vL col y) (hy : y.s.ic ≤ 100000000000) => by
    have := cask_any hS (ao, an) ⟨HOC.out.2.2.1, HOC.out.2.2.2.1⟩ ⟨d, q, nm, 4, wh, ao, an, bo, bn⟩ hc hy
    rw [hsb] at this
    unfold Crd.cells at this
    simp only at this
    exact this)
  have HAT := hid (fun W vF vL col y (hS : Sea L W vF vL col y) (hy : y.s.ic ≤ 100000000000) => by
    have := cask_any hS (bo, bn) ⟨HOC.out.2.2.2.2.1, HOC.out.2.2.2.2.2⟩ ⟨d, q, nm, 4, wh, ao, an, bo, bn⟩ hc hy
    rw [hsb] at this
    unfold Crd.cells at this
    simp only at this
    exact this)
  have HIC0 : Hid (x.s.ic ≤ 100000000000) := hid (by omega)
  have HG1 : Hid True := hid trivial
  have HIC1 : Hid (x.s.ic + 1 ≤ 100000000000) := hid (by omega)
  have HIC2 : Hid (x.s.ic + 2 ≤ 100000000000) := hid (by omega)
  rw [hsb]
  clear h hc hD h0 hsb hb2 hic hkn hfr
  unfold Crd.cells at hw1 HR0 ⊢
  simp only at hw1 HR0 ⊢
  go_enter Tryd.func44, Tryd.ntmps44
  go_wp2_with fail
  rw [← hw1]
  clear hw1
  go_wp2_with (first
    | (go_at_call 58; (refine (HR0.out _).mono ?_); rintro er w2 ⟨rfl, bb⟩; have HB2 := hid (HQ1.out.trans (bb.mono HQ1.out.size)); have HC2 := hid (CrAt.kept (HR1.out.kept bb) ((Below.refl w2.heap.size w2).alloc (Nat.le_refl _) (.cells #[.string D, .string nm] 24))); have HRA := hid (RoleAt.new w2 D nm); (obtain ⟨a0, a1, a2, a3, a4, a5, a6, a7, a8⟩ := HC2.out.all); have a9 := HRA.out.c0; have a10 := HRA.out.c1; have n3 : w2.heap.size ≠ w.heap.size := (by have := HB2.out.size; have := HR1.out.lt; have := bb.size; omega); clear bb)
    | (go_at_call 67; clear HG1; (refine (HAS.out _ _ _ _ _ (HH.out.below (HB2.out.alloc HB2.out.size (.cells #[.string D, .string nm] 24))) HIC0.out).mono ?_); rintro er w4 ⟨rfl, col4, hs4, hx4⟩; have HS4 := hid hs4; have HX4 := hid hx4;
        have HC4 : Hid (CrAt w4 w.heap.size ⟨d, q, nm, 4, wh, ao, an, bo, bn⟩) := hid ((hx4.free HC2.out.lt (HH.out.free (Nat.le_refl _))).trans HC2.out); (obtain ⟨a0, a1, a2, a3, a4, a5, a6, a7, a8⟩ := HC4.out.all); clear hs4 hx4)
    | (go_at_call 67; (refine (HAT.out _ _ _ _ _ HS4.out HIC1.out).mono ?_); rintro er w3 ⟨rfl, col3, hs3, hx3⟩; have HS3 := hid hs3; have HX3 := hid ((HX4.out.trans hx3)); clear hs3 hx3))
  obtain ⟨y, hy⟩ : ∃ y, y = { x with s := (x.s.toAsk (ao, an) ⟨d, q, nm, 4, wh, ao, an, bo, bn⟩).toAsk (bo, bn) ⟨d, q, nm, 4, wh, ao, an, bo, bn⟩ } := ⟨_, rfl⟩
  rw [← hy] at HS3
  have HB3 : Hid (Below w.heap.size w (w2.alloc (.cells #[.string D, .string nm] 24))) := hid (HB2.out.alloc HB2.out.size _)
  have HXX : Hid (Ext (fun _ => True) w w3 col col3) := hid ((Ext.of_below (fun _ => True) col HB3.out).trans (HX3.out.mono fun _ _ => trivial))
  have f1 : col w.heap.size = none := HH.out.free (Nat.le_refl _)
  have f2 : col w2.heap.size = none := HH.out.free HB2.out.size
  have c3 : CrAt w3 w.heap.size ⟨d, q, nm, 4, wh, ao, an, bo, bn⟩ := (HX3.out.free HC2.out.lt f1).trans HC2.out
  have r3 : RoleAt w3 w2.heap.size D nm := (HX3.out.free HRA.out.lt f2).trans HRA.out
  have HEQ : Hid (({ x with s := x.s.take L.pe ⟨d, q, nm, 4, wh, ao, an, bo, bn⟩ } : Sx) = { y with s := y.s.toGiv (D, nm) ⟨d, q, nm, 4, wh, ao, an, bo, bn⟩ }) := hid (by rw [hy, ← HRL.out]; rw [take_4 rfl])
  have HIC : Hid (y.s.ic ≤ 100000000000) := hid (by rw [hy]; exact HIC2.out)
  have HGS : Hid (∀ g ∈ [sb, w2.heap.size, w.heap.size], g < w3.heap.size ∧ (col3 g = some (0, .nil) ∨ col3 g = none)) := hid (fun g hg => by
    simp only [List.mem_cons, List.not_mem_nil, or_false] at hg
    rcases hg with rfl | rfl | rfl
    · exact ⟨by rw [← HSB.out]; exact HS3.out.lt, .inl (by rw [← HSB.out]; exact HS3.out.csb)⟩
    · exact ⟨r3.lt, .inr ((HX3.out.col _ HRA.out.lt).trans f2)⟩
    · exact ⟨c3.lt, .inr ((HX3.out.col _ HC2.out.lt).trans f1)⟩)
  have HKS : Hid (∀ W, Kp [sb, w2.heap.size, w.heap.size] w3 W → (fun w' => w'.cell? ⟨sb, 18, none⟩ = some (.map (some b2)) ∧ w'.cell? ⟨w2.heap.size, 0, none⟩ = some (.string D) ∧ w'.cell? ⟨w2.heap.size, 1, none⟩ = some (.string nm) ∧ w'.cell? ⟨w.heap.size, 0, none⟩ = some (.int .i64 d) ∧ w'.cell? ⟨w.heap.size, 1, none⟩ = some (.int .i64 q) ∧ w'.cell? ⟨w.heap.size, 2, none⟩ = some (.string nm) ∧ w'.cell? ⟨w.heap.size, 3, none⟩ = some (.int .i64 4) ∧ w'.cell? ⟨w.heap.size, 4, none⟩ = some (.string wh) ∧ w'.cell? ⟨w.heap.size, 5, none⟩ = some (.string ao) ∧ w'.cell? ⟨w.heap.size, 6, none⟩ = some (.string an) ∧ w'.cell? ⟨w.heap.size, 7, none⟩ = some (.string bo) ∧ w'.cell? ⟨w.heap.size, 8, none⟩ = some (.string bn)) W) := hid (fun W hW => ⟨by rw [cell_of_row W sb 18 _ _ (0, 0) ((hW sb (by simp)).trans (by rw [← HSB.out]; exact HS3.out.row)), ← HB2e.out]; rfl, by rw [cell_of_row W w2.heap.size 0 _ _ (0, 0) ((hW w2.heap.size (by simp)).trans r3)]; rfl, by rw [cell_of_row W w2.heap.size 1 _ _ (0, 0) ((hW w2.heap.size (by simp)).trans r3)]; rfl, by rw [cell_of_row W (w.heap.size) 0 _ _ (0, 0) ((hW w.heap.size (by simp)).trans c3)]; rfl, by rw [cell_of_row W (w.heap.size) 1 _ _ (0, 0) ((hW w.heap.size (by simp)).trans c3)]; rfl, by rw [cell_of_row W (w.heap.size) 2 _ _ (0, 0) ((hW w.heap.size (by simp)).trans c3)]; rfl, by rw [cell_of_row W (w.heap.size) 3 _ _ (0, 0) ((hW w.heap.size (by simp)).trans c3)]; rfl, by rw [cell_of_row W (w.heap.size) 4 _ _ (0, 0) ((hW w.heap.size (by simp)).trans c3)]; rfl, by rw [cell_of_row W (w.heap.size) 5 _ _ (0, 0) ((hW w.heap.size (by simp)).trans c3)]; rfl, by rw [cell_of_row W (w.heap.size) 6 _ _ (0, 0) ((hW w.heap.size (by simp)).trans c3)]; rfl, by rw [cell_of_row W (w.heap.size) 7 _ _ (0, 0) ((hW w.heap.size (by simp)).trans c3)]; rfl, by rw [cell_of_row W (w.heap.size) 8 _ _ (0, 0) ((hW w.heap.size (by simp)).trans c3)]; rfl⟩)
  clear hy f1 f2 c3 r3
  try clear a0 a1 a2 a3 a4 a5 a6 a7 a8
  try clear a9 a10 n3
  obtain ⟨v, ho, hvl, hvc, hent⟩ := HS3.out.giv.entry kr_inj klR Tryd.underlying63 ch_z22 (by have := HIC.out; unfold maxLen; omega) (k := (D, nm)) HOR.out (keyR HOR.out)
  unfold rV at hent
  simp only at hent
  obtain ⟨A, cA, rfl, -, -, -⟩ := ho.els
  rw [HB2e.out] at hent
  have hcb : col3 b2 = some (1, .nil) := by rw [← HB2e.out]; exact HS3.out.c2
  have hbl : b2 < w3.heap.size := HS3.out.dom _ _ hcb
  have hgs : ∀ g ∈ [sb, w2.heap.size, w.heap.size], g < w3.heap.size ∧ g ≠ b2 ∧ some g ≠ (Value.slice A (y.s.giv (D, nm)).length cA).ownBlock := fun g hg => by
    obtain ⟨q1, q2⟩ := HGS.out g hg
    refine ⟨q1, fun e => ?_, fun e => ?_⟩
    · rcases q2 with q2 | q2
      · rw [e, hcb] at q2; cases q2
      · rw [e, hcb] at q2; cases q2
    · have q3 := hvc _ e.symm
      rcases q2 with q2 | q2
      · rw [q3] at q2; cases q2
      · rw [q3] at q2; cases q2
  have hvb : ∀ g, (Value.slice A (y.s.giv (D, nm)).length cA).ownBlock = some g → g < w3.heap.size ∧ g ≠ b2 := fun g hg => ⟨(ho.lt g hg).2, fun e => by have h1 := hvc g hg; rw [e, hcb] at h1; simp at h1⟩
  obtain ⟨st1, u1, run1, g1, z1, fin1⟩ := hent w3.drew rfl
  obtain ⟨st2, u2, run2, g2, z2, fin2⟩ := hent (w3.alloc (.cells #[.int .i64 d, .int .i64 q, .string nm, .int .i64 4, .string wh, .string ao, .string an, .string bo, .string bn] 55)).drew ((MapKept.heap_alloc w3 _).2 _ hbl)
  have zX : (w3.alloc (.cells #[.int .i64 d, .int .i64 q, .string nm, .int .i64 4, .string wh, .string ao, .string an, .string bo, .string bn] 55)).drew.heap.size = w3.heap.size + 1 := by simp
  have zD : w3.drew.heap.size = w3.heap.size := rfl
  have kpD := hid ((Kp.refl [sb, w2.heap.size, w.heap.size] w3).drew)
  have kpA := hid (((Kp.refl [sb, w2.heap.size, w.heap.size] w3).alloc (fun g hg => (hgs g hg).1) (.cells #[.int .i64 d, .int .i64 q, .string nm, .int .i64 4, .string wh, .string ao, .string an, .string bo, .string bn] 55)).drew)
  have kp1 := hid (kpD.out.grown g1 (fun g hg => (hgs g hg).1) (fun g hg => by simp only [ne_eq, Option.some.injEq]; exact (hgs g hg).2.1))
  have kp1a := hid (kp1.out.alloc (fun g hg => by have := (hgs g hg).1; omega) (.cells #[.int .i64 d, .int .i64 q, .string nm, .int .i64 4, .string wh, .string ao, .string an, .string bo, .string bn] 55))
  have kp2 := hid (kpA.out.grown g2 (fun g hg => by have := (hgs g hg).1; omega) (fun g hg => by simp only [ne_eq, Option.some.injEq]; exact (hgs g hg).2.1))
  have oA := hid ((Own.kept ho (w' := u1) fun g hg => g1.block g (hvb g hg).1 (by simp only [ne_eq, Option.some.injEq]; exact (hvb g hg).2)).alloc (.cells #[.int .i64 d, .int .i64 q, .string nm, .int .i64 4, .string wh, .string ao, .string an, .string bo, .string bn] 55))
  have oB := hid (Own.kept ho (w' := u2) fun g hg => (g2.block g (by have := (hvb g hg).1; omega) (by simp only [ne_eq, Option.some.injEq]; exact (hvb g hg).2)).trans ((MapKept.heap_alloc w3 _).2 g (hvb g hg).1))
  have rA := hid (reads_new u1 #[.int .i64 d, .int .i64 q, .string nm, .int .i64 4, .string wh, .string ao, .string an, .string bo, .string bn] 55 (0, 0))
  have rB := hid ((reads_newd w3 #[.int .i64 d, .int .i64 q, .string nm, .int .i64 4, .string wh, .string ao, .string an, .string bo, .string bn] 55 (0, 0)).grown g2 (fun ad e => by cases e; exact ⟨by simp, by simp only [ne_eq, Option.some.injEq]; omega⟩))
  have bA := hid ((((But.refl (fun g => g = b2 ∨ some g = (Value.slice A (y.s.giv (D, nm)).length cA).ownBlock) w3).drew).then_grown g1 (fun g e => .inr (.inl (Option.some.inj e).symm))).alloc (.cells #[.int .i64 d, .int .i64 q, .string nm, .int .i64 4, .string wh, .string ao, .string an, .string bo, .string bn] 55))
  have bB := hid ((((But.refl (fun g => g = b2 ∨ some g = (Value.slice A (y.s.giv (D, nm)).length cA).ownBlock) w3).alloc (.cells #[.int .i64 d, .int .i64 q, .string nm, .int .i64 4, .string wh, .string ao, .string an, .string bo, .string bn] 55)).drew).then_grown g2 (fun g e => .inr (.inl (Option.some.inj e).symm)))
  have FA := hid fin1
  have FB := hid fin2
  have GS := hid hgs
  have VB := hid hvb
  have Z1 : Hid (u1.heap.size = w3.heap.size ∧ u2.heap.size = w3.heap.size + 1 ∧ (u1.alloc (.cells #[.int .i64 d, .int .i64 q, .string nm, .int .i64 4, .string wh, .string ao, .string an, .string bo, .string bn] 55)).heap.size = w3.heap.size + 1 ∧ b2 < w3.heap.size) := hid ⟨by omega, by omega, by simp; omega, hbl⟩
  have FBW : Hid (u1.heap[b2]? = (u1.alloc (.cells #[.int .i64 d, .int .i64 q, .string nm, .int .i64 4, .string wh, .string ao, .string an, .string bo, .string bn] 55)).heap[b2]?) := hid ((MapKept.heap_alloc u1 _).2 _ (by omega)).symm
  have VC := hid hvc
  have hbB : L.B ≤ w3.heap.size := HS3.out.base
  have hll : (y.s.giv (D, nm)).length ≤ 1000000000000 := by have := HIC.out; omega
  clear fin1 fin2 g1 g2 ho hvc hvl hent hvb hgs zX zD hbl hcb
  go_region_held3 (fun w' => w'.cell? ⟨sb, 18, none⟩ = some (.map (some b2)) ∧ w'.cell? ⟨w2.heap.size, 0, none⟩ = some (.string D) ∧ w'.cell? ⟨w2.heap.size, 1, none⟩ = some (.string nm) ∧ w'.cell? ⟨w.heap.size, 0, none⟩ = some (.int .i64 d) ∧ w'.cell? ⟨w.heap.size, 1, none⟩ = some (.int .i64 q) ∧ w'.cell? ⟨w.heap.size, 2, none⟩ = some (.string nm) ∧ w'.cell? ⟨w.heap.size, 3, none⟩ = some (.int .i64 4) ∧ w'.cell? ⟨w.heap.size, 4, none⟩ = some (.string wh) ∧ w'.cell? ⟨w.heap.size, 5, none⟩ = some (.string ao) ∧ w'.cell? ⟨w.heap.size, 6, none⟩ = some (.string an) ∧ w'.cell? ⟨w.heap.size, 7, none⟩ = some (.string bo) ∧ w'.cell? ⟨w.heap.size, 8, none⟩ = some (.string bn))
    (first | exact HKS.out _ kpD.out | exact HKS.out _ kpA.out | exact HKS.out _ kp1.out | exact HKS.out _ kp1a.out | exact HKS.out _ kp2.out | exact HKS.out _ kp5.out | exact HKS.out _ kp6.out)
    ((first | (refine step_appW (E := encC) (by rfl) slC (.tmp 60) (.tmp 62) (by rfl) (B := L.B) (v := .slice A (y.s.giv (D, nm)).length cA) (l := y.s.giv (D, nm)) oA.out (by rfl) (ad := ⟨u1.heap.size, 0, none⟩) (c := 1) (⟨d, q, nm, 4, wh, ao, an, bo, bn⟩ : Crd) (by rfl) rA.out hll (by omega) (by have := Z1.out; omega) ?_; intro A' c' w5 ho5 hg5 hl5; obtain ⟨w6, run6, g6, z6, fin6⟩ := FA.out w5 (.slice A' ((y.s.giv (D, nm)).length + 1) c') ((hg5.block b2 (by have := Z1.out; omega) (fun e => (VB.out b2 e.symm).2 rfl)).trans FBW.out.symm); have kp5 := hid (kp1a.out.grown hg5 (fun g hg => by have := (GS.out g hg).1; have := Z1.out; omega) (fun g hg => (GS.out g hg).2.2)); have kp6 := hid (kp5.out.grown g6 (fun g hg => by have := (GS.out g hg).1; have := Z1.out; have := hg5.size; omega) (fun g hg => by simp only [ne_eq, Option.some.injEq]; exact (GS.out g hg).2.1)); have b6 := hid ((bA.out.then_grown hg5 (fun g e => .inr (.inr e.symm))).then_grown g6 (fun g e => .inr (.inl (Option.some.inj e).symm))); have l6 := hid (loc_of (a := w3.heap.size) hl5 (by have := Z1.out; omega)); have o6 := hid (own_behind ho5 g6 l6.out (fun g e => (VB.out g e).2) (by have := Z1.out; omega)); have F6 := hid fin6; clear fin6 g6 hl5 ho5 hg5) | (refine step_appW (E := encC) (by rfl) slC (.tmp 60) (.tmp 62) (by rfl) (B := L.B) (v := .slice A (y.s.giv (D, nm)).length cA) (l := y.s.giv (D, nm)) oB.out (by rfl) (ad := ⟨w3.heap.size, 0, none⟩) (c := 1) (⟨d, q, nm, 4, wh, ao, an, bo, bn⟩ : Crd) (by rfl) rB.out hll (by omega) (by have := Z1.out; omega) ?_; intro A' c' w5 ho5 hg5 hl5; obtain ⟨w6, run6, g6, z6, fin6⟩ := FB.out w5 (.slice A' ((y.s.giv (D, nm)).length + 1) c') ((hg5.block b2 (by have := Z1.out; omega) (fun e => (VB.out b2 e.symm).2 rfl))); have kp5 := hid (kp2.out.grown hg5 (fun g hg => by have := (GS.out g hg).1; have := Z1.out; omega) (fun g hg => (GS.out g hg).2.2)); have kp6 := hid (kp5.out.grown g6 (fun g hg => by have := (GS.out g hg).1; have := Z1.out; have := hg5.size; omega) (fun g hg => by simp only [ne_eq, Option.some.injEq]; exact (GS.out g hg).2.1)); have b6 := hid ((bB.out.then_grown hg5 (fun g e => .inr (.inr e.symm))).then_grown g6 (fun g e => .inr (.inl (Option.some.inj e).symm))); have l6 := hid (loc_of (a := w3.heap.size) hl5 (by have := Z1.out; omega)); have o6 := hid (own_behind ho5 g6 l6.out (fun g e => (VB.out g e).2) (by have := Z1.out; omega)); have F6 := hid fin6; clear fin6 g6 hl5 ho5 hg5)))
  all_goals
    obtain ⟨h6, x6⟩ := HS3.out.gived (v := .slice A (y.s.giv (D, nm)).length cA) (v' := .slice A' ((y.s.giv (D, nm)).length + 1) c') HMY.out VC.out (by rw [HB2e.out]; exact b6.out) l6.out (fun g hg => (o6.out.lt g hg).2) (by rw [HB2e.out]; exact F6.out (⟨d, q, nm, 4, wh, ao, an, bo, bn⟩ : Crd) o6.out (fun g hg h1 h2 => b6.out.block g hg (fun h => h.elim h1 h2)) l6.out)
    go_wp2_with fail
    go_end0
    exact ⟨rfl, vF, _, by rw [HEQ.out]; exact h6, HXX.out.trans (x6.mono fun _ _ => trivial)⟩
end Go.Proofs.YtoajckhnneagnaaDoor.Sh
namespace Go.Proofs.YtoajckhnneagnaaDoor.Sh
open Go Go.RowKit
open Go.Maps (Keyed)

set_option linter.unusedVariables false
set_option linter.unusedSimpArgs false
def ahdV (T : Bool) (A : Option Addr) (np c : Nat) : Value := .tuple #[bif T then .slice A np c else .slice none 0 0, .bool T]
set_option maxHeartbeats 4000000 in
set_option maxRecDepth 100000 in
theorem ahead_any {L : Ly} {vF vL : Value} {col : Col} {x : Sx} {w : World} (h : Sea L w vF vL col x) (m : Nat) (hm : m ≤ 1000000000) (A : Option Addr) (ps : List Pr) (np c : Nat) (hn : ps.length = np) (hnp : np ≤ 10) (he : Els encP w w.heap.size A ps) (hok : ∀ q ∈ ps, okP q) (T : Bool) (hT : T = true ↔ ∀ q ∈ ps, x.s.lt m q) :
    Calls Tryd.prog 83 #[.pointer (some ⟨L.sb, 0, none⟩), .int .i64 (m : Int), .slice A np c] w fun e w' => e = .returned (ahdV T A np c) ∧ Below w.heap.size w w' := by
  obtain ⟨sb, hsb⟩ : ∃ sb, L.sb = sb := ⟨_, rfl⟩
  obtain ⟨b5, hb5⟩ : ∃ b5, L.b5 = b5 := ⟨_, rfl⟩
  have HS := hid (fun W (hW : Below w.heap.size w W) => h.below hW)
  have HN := hid hn
  have HE := hid (fun W (hW : Below w.heap.size w W) => he.below hW)
  have HOK := hid hok
  have HT := hid hT
  have HSB := hid hsb
  have HB5 := hid hb5
  rw [hsb]
  clear h hn he hok hT hsb hb5
  go_enter Tryd.func83, Tryd.ntmps83
  go_wp2_with fail
  go_loopw [13] (fun i wr => ∃ k : Nat, i = .int .i64 (k : Int) ∧ k ≤ np ∧ Hid (∀ q ∈ ps.take k, x.s.lt m q) ∧ Hid (Below w.heap.size w wr)) (fun i _ => np - (intOf i).toNat)
  case atStart => exact ⟨0, rfl, Nat.zero_le _, hid (by simp), hid (Below.refl _ _)⟩
  case round =>
    obtain ⟨k, rfl, hk, HL, HB⟩ := hrel
    by_cases hlt : k < np
    · obtain ⟨⟨⟨o, n⟩, who⟩, hx⟩ : ∃ x, ps[k]? = some x := ⟨_, List.getElem?_eq_getElem (by rw [HN.out]; exact hlt)⟩
      obtain ⟨ad, aj, rfl, hab, ea, hbj, a0, ai⟩ := (HE.out wr HB.out).get hx
      have a0 := a0 _ rfl
      have a1 := ai 1 _ (by omega) rfl
      have a2 := ai 2 _ (by omega) rfl
      have ea : ad.add (k * 3) = aj := ea
      have hk0 : (0 : Int) ≤ (k : Int) := Int.natCast_nonneg _
      have hk1 : (k : Int) < (np : Int) := by omega
      obtain ⟨r, hr⟩ : ∃ r, x.s.rn ((o, n), who) = r := ⟨_, rfl⟩
      have hp := HOK.out _ (List.mem_of_getElem? hx)
      obtain ⟨w1, hw1⟩ : ∃ w1, w1 = wr.alloc (.cells #[.string o, .string n, .string who] 58) := ⟨_, rfl⟩
      have q1 : Below wr.heap.size wr w1 := by rw [hw1]; exact (Below.refl _ _).alloc (Nat.le_refl _) _
      have s1 := (HS.out wr HB.out).below q1
      have p0 : w1.heap[wr.heap.size]? = some (.cells #[.string o, .string n, .string who] 58 (0, 0)) := by rw [hw1]; exact heap_alloc_new wr _
      have hp1 : wr.heap.size < w1.heap.size := (Array.getElem?_eq_some_iff.1 p0).1
      have HK := hid (fun W (hW : Below w1.heap.size w1 W) => (⟨by rw [← HSB.out, ← HB5.out]; exact (s1.below hW).cell.2.2.2.2.1, by rw [cell_of_row W _ 0 _ _ (0, 0) ((hW.block _ hp1).trans p0)]; rfl, by rw [cell_of_row W _ 1 _ _ (0, 0) ((hW.block _ hp1).trans p0)]; rfl, by rw [cell_of_row W _ 2 _ _ (0, 0) ((hW.block _ hp1).trans p0)]; rfl,
          by have := (s1.below hW).rn.look hp; rw [hr, HB5.out] at this; exact this⟩ :
        W.cell? ⟨sb, 21, none⟩ = some (.map (some b5)) ∧ W.cell? ⟨wr.heap.size, 0, none⟩ = some (.string o) ∧ W.cell? ⟨wr.heap.size, 1, none⟩ = some (.string n) ∧ W.cell? ⟨wr.heap.size, 2, none⟩ = some (.string who) ∧
          (Instr.lookup 65 (.map (some b5)) (.agg #[.string o, .string n, .string who]) false).run Tryd.prog W = .ok (.int .i64 (r : Int)) W))
      have HX := hid hx
      have HR := hid hr
      have HB1 := hid (HB.out.trans (q1.mono HB.out.size))
      clear hx hab hbj ai hp q1 s1 p0 hp1 hr
      have fin : ∀ (b : Bool) (wq : World), (b = true ↔ x.s.lt m ((o, n), who)) → b = false → T = false := fun b wq hb e => by
        cases hTT : T with
        | false => rfl
        | true =>
          have := HT.out.1 hTT _ (List.mem_of_getElem? HX.out)
          rw [hb.2 this] at e; cases e
      by_cases h0 : r = 0
      · have hTf : Hid (T = false) := hid (fin false wr ⟨fun e => (Bool.noConfusion e), fun e => absurd (by rw [HR.out]; exact h0) e.1⟩ rfl)
        subst h0
        simp only [Int.natCast_zero, Int.ofNat_zero] at HK
        clear fin
        go_wp2_with fail
        rw [← hw1]
        clear hw1
        obtain ⟨k1, k2, k3, k4, k5⟩ := HK.out _ (Below.refl _ _)
        go_region_held3 (fun w' => w'.cell? ⟨sb, 21, none⟩ = some (.map (some b5)) ∧ w'.cell? ⟨wr.heap.size, 0, none⟩ = some (.string o) ∧ w'.cell? ⟨wr.heap.size, 1, none⟩ = some (.string n) ∧ w'.cell? ⟨wr.heap.size, 2, none⟩ = some (.string who) ∧
            (Instr.lookup 65 (.map (some b5)) (.agg #[.string o, .string n, .string who]) false).run Tryd.prog w' = .ok (.int .i64 0) w')
          (exact HK.out _ (Below.refl _ _).drew) (fail)
        go_wp2_with fail
        go_ret2
        exact ⟨by rw [hTf.out]; rfl, HB1.out.drew⟩
      · have e1 : ((r : Int) == 0) = false := beq_eq_false_iff_ne.2 (by omega)
        have e2 : ¬ (r : Int) = 0 := by omega
        by_cases hge : m ≤ r
        · have hTf : Hid (T = false) := hid (fin false wr ⟨fun e => (Bool.noConfusion e), fun e => absurd (by have := e.2; rw [HR.out] at this; exact this) (by omega)⟩ rfl)
          have g1 : (m : Int) ≤ (r : Int) := by omega
          clear fin
          go_wp2_with fail
          rw [← hw1]
          clear hw1
          obtain ⟨k1, k2, k3, k4, k5⟩ := HK.out _ (Below.refl _ _)
          go_region_held3 (fun w' => w'.cell? ⟨sb, 21, none⟩ = some (.map (some b5)) ∧ w'.cell? ⟨wr.heap.size, 0, none⟩ = some (.string o) ∧ w'.cell? ⟨wr.heap.size, 1, none⟩ = some (.string n) ∧ w'.cell? ⟨wr.heap.size, 2, none⟩ = some (.string who) ∧
              (Instr.lookup 65 (.map (some b5)) (.agg #[.string o, .string n, .string who]) false).run Tryd.prog w' = .ok (.int .i64 (r : Int)) w')
            (exact HK.out _ (Below.refl _ _).drew) (fail)
          go_wp2_with fail
          go_ret2
          exact ⟨by rw [hTf.out]; rfl, HB1.out.drew⟩
        · have g1 : ¬ (m : Int) ≤ (r : Int) := by omega
          have hlt2 : Hid (∀ q ∈ ps.take (k + 1), x.s.lt m q) := hid (fun q hq => by
            rw [take_snoc_of HX.out, List.mem_append, List.mem_singleton] at hq
            rcases hq with hq | rfl
            · exact HL.out q hq
            · exact ⟨by rw [HR.out]; exact h0, by rw [HR.out]; omega⟩)
          clear fin
          go_wp2_with fail
          rw [← hw1]
          clear hw1
          obtain ⟨k1, k2, k3, k4, k5⟩ := HK.out _ (Below.refl _ _)
          go_region_held3 (fun w' => w'.cell? ⟨sb, 21, none⟩ = some (.map (some b5)) ∧ w'.cell? ⟨wr.heap.size, 0, none⟩ = some (.string o) ∧ w'.cell? ⟨wr.heap.size, 1, none⟩ = some (.string n) ∧ w'.cell? ⟨wr.heap.size, 2, none⟩ = some (.string who) ∧
              (Instr.lookup 65 (.map (some b5)) (.agg #[.string o, .string n, .string who]) false).run Tryd.prog w' = .ok (.int .i64 (r : Int)) w')
            (exact HK.out _ (Below.refl _ _).drew) (fail)
          go_wp2_with fail
          go_roundw
          case rel => exact ⟨k + 1, by go_num, by omega, hlt2, hid HB1.out.drew⟩
          case measure => simp [intOf]; omega
    · obtain rfl : k = np := by omega
      have hTt : Hid (T = true) := hid (HT.out.2 fun q hq => HL.out q (by rw [List.take_of_length_le (by rw [HN.out]; exact Nat.le_refl _)]; exact hq))
      go_wp2_with fail
      go_ret2
      exact ⟨by rw [hTt.out]; rfl, HB.out⟩
end Go.Proofs.YtoajckhnneagnaaDoor.Sh
namespace Go.Proofs.YtoajckhnneagnaaDoor.Sh
open Go Go.RowKit
open Go.Maps (Keyed)

set_option linter.unusedVariables false
set_option linter.unusedSimpArgs false
def TryP (w w' : World) (o : Option (List Pr)) (e : Ending) : Prop :=
  (o = none ∧ e = .returned (.tuple #[.slice none 0 0, .bool false])) ∨ ∃ (ps : List Pr) (n : Nat) (A : Option Addr) (c : Nat), o = some ps ∧ ps.length = n ∧ e = .returned (.tuple #[.slice A n c, .bool true]) ∧ n ≤ c ∧ c ≤ 9223372036854775807 ∧ n ≤ 2 ∧ Els encP w' w'.heap.size A ps ∧ ∀ ad, A = some ad → 0 < ps.length → w.heap.size ≤ ad.block
theorem TryP.more {w0 w w1 : World} {o : Option (List Pr)} {e : Ending} (h : TryP w w1 o e) (hb : w0.heap.size ≤ w.heap.size) : TryP w0 w1 o e := by
  rcases h with h | ⟨ps, n, A, c, h1, h2, h3, h4, h5, h6, h7, h8⟩
  · exact .inl h
  · exact .inr ⟨ps, n, A, c, h1, h2, h3, h4, h5, h6, h7, fun ad e hn => Nat.le_trans hb (h8 ad e hn)⟩
theorem els_one (w : World) (o n x : ByteArray) (T : TypeId) : Els encP (w.alloc (.cells #[.string o, .string n, .string x] T)) (w.alloc (.cells #[.string o, .string n, .string x] T)).heap.size (some ⟨w.heap.size, 0, none⟩) [((o, n), x)] := fun _ => by
  obtain ⟨ad, e, hc⟩ := reads_new w #[.string o, .string n, .string x] T (0, 0) (by simp)
  injection e with e
  subst e
  exact ⟨_, rfl, by simp, hc⟩
theorem els_two (w : World) (o n x o' n' x' : ByteArray) (T : TypeId) : Els encP (w.alloc (.cells #[.string o, .string n, .string x, .string o', .string n', .string x'] T)) (w.alloc (.cells #[.string o, .string n, .string x, .string o', .string n', .string x'] T)).heap.size (some ⟨w.heap.size, 0, none⟩) [((o, n), x), ((o', n'), x')] := fun _ => by
  obtain ⟨ad, e, hc⟩ := reads_new w #[.string o, .string n, .string x, .string o', .string n', .string x'] T (0, 0) (by simp)
  injection e with e
  subst e
  exact ⟨_, rfl, by simp, hc⟩
def PrA (w : World) (g : Nat) (o n x : ByteArray) : Prop := w.heap[g]? = some (.cells #[.string o, .string n, .string x] 58 (0, 0))
theorem PrA.lt {w : World} {g : Nat} {o n x : ByteArray} (h : PrA w g o n x) : g < w.heap.size := (Array.getElem?_eq_some_iff.1 h).1
theorem PrA.kept {w w' : World} {g : Nat} {o n x : ByteArray} (h : PrA w g o n x) (hb : Below w.heap.size w w') : PrA w' g o n x := (hb.block g h.lt).trans h
theorem PrA.all {w : World} {g : Nat} {o n x : ByteArray} (h : PrA w g o n x) : w.cell? ⟨g, 0, none⟩ = some (.string o) ∧ w.cell? ⟨g, 1, none⟩ = some (.string n) ∧ w.cell? ⟨g, 2, none⟩ = some (.string x) :=
  ⟨by rw [cell_of_row w g 0 _ _ (0, 0) h]; rfl, by rw [cell_of_row w g 1 _ _ (0, 0) h]; rfl, by rw [cell_of_row w g 2 _ _ (0, 0) h]; rfl⟩
theorem PrA.new (w : World) (o n x : ByteArray) : PrA (w.alloc (.cells #[.string o, .string n, .string x] 58)) w.heap.size o n x := heap_alloc_new w _
set_option maxHeartbeats 4000000 in
set_option maxRecDepth 100000 in
theorem cmember_any (pt : Value) (c : Crd) (p : Pr) (m : Nat) (w : World) (hk : c.kd = 1) (hr : p.1 = roleOf c) (Q : Pr → Prop) :
    Calls Tryd.prog 84 #[pt, .agg c.cells.toArray, .agg #[.string p.1.1, .string p.1.2, .string p.2], .int .i64 (m : Int)] w fun e w' => TryP w w' (why c Q p) e ∧ Below w.heap.size w w' := by
  obtain ⟨⟨o, n⟩, who⟩ := p
  have HY := hid (fun (e : who = c.wh) => show why c Q ((o, n), who) = some [] from why_iff.2 ⟨hr, .inl ⟨hk, e, rfl⟩⟩)
  have HN := hid (fun (e : ¬ c.wh = who) => show why c Q ((o, n), who) = none from why_none.2 (fun hd => by
    rcases hd.2 with h1 | h1 | h1 | h1
    · exact e h1.2.symm
    · omega
    · omega
    · omega))
  obtain ⟨ow, how⟩ : ∃ ow, why c Q ((o, n), who) = ow := ⟨_, rfl⟩
  rw [how] at HY HN ⊢
  have HR := hid hr
  have HKK := hid hk
  obtain ⟨d, q, nm, kd, wh, ao, an, bo, bn⟩ := c
  simp only at hk
  subst hk
  obtain ⟨w1, hw1⟩ : ∃ w1, w1 = w.alloc (.cells (Crd.cells ⟨d, q, nm, 1, wh, ao, an, bo, bn⟩).toArray 55) := ⟨_, rfl⟩
  obtain ⟨w3, hw3⟩ : ∃ w3, w3 = w1.alloc (.cells #[.string o, .string n, .string who] 58) := ⟨_, rfl⟩
  obtain ⟨gr, hgr⟩ : ∃ g, w.heap.size = g := ⟨_, rfl⟩
  obtain ⟨gc, hgc⟩ : ∃ g, gr + 1 = g := ⟨_, rfl⟩
  have hz1 : w1.heap.size = gc := by rw [hw1, World.size_alloc, hgr, hgc]
  have q1 : Below w.heap.size w w1 := by rw [hw1]; exact (Below.refl _ _).alloc (Nat.le_refl _) _
  have q3 : Below w1.heap.size w1 w3 := by rw [hw3]; exact (Below.refl _ _).alloc (Nat.le_refl _) _
  have r1 : CrAt w1 gr ⟨d, q, nm, 1, wh, ao, an, bo, bn⟩ := by rw [hw1, ← hgr]; exact CrAt.new w _
  have HC3 := hid (r1.kept q3)
  have HP3 : Hid (PrA w3 gc o n who) := hid (by rw [hw3, ← hz1]; exact PrA.new w1 _ _ _)
  have HQ3 : Hid (Below w.heap.size w w3) := hid (q1.trans (q3.mono q1.size))
  have HGR := hid hgr
  clear q1 q3 r1 hr how hz1
  unfold Crd.cells at hw1 ⊢
  simp only at hw1 ⊢
  by_cases hx : wh = who
  · subst hx
    go_enter Tryd.func84, Tryd.ntmps84
    go_wp2_with fail
    rw [← hw1]
    try rw [hgr]
    rw [← hw3]
    try rw [hgc]
    clear hw1 hw3 hgr hgc
    obtain ⟨a0, a1, a2, a3, a4, a5, a6, a7, a8⟩ := HC3.out.all
    obtain ⟨p0, p1, p2⟩ := HP3.out.all
    go_quiet (fail)
    go_wp2
    go_ret2
    exact ⟨.inr ⟨[], 0, none, 0, HY.out (by first | trivial | rfl), rfl, rfl, Nat.le_refl _, by omega, by omega, Els.nil, fun ad e h => absurd h (by simp)⟩, below_drewN HQ3.out _⟩
  · obtain ⟨x1, x2⟩ := inne hx
    have HX := hid hx
    clear hx
    go_enter Tryd.func84, Tryd.ntmps84
    go_wp2_with fail
    rw [← hw1]
    try rw [hgr]
    rw [← hw3]
    try rw [hgc]
    clear hw1 hw3 hgr hgc
    obtain ⟨a0, a1, a2, a3, a4, a5, a6, a7, a8⟩ := HC3.out.all
    obtain ⟨p0, p1, p2⟩ := HP3.out.all
    go_quiet (fail)
    go_wp2
    go_ret2
    exact ⟨.inl ⟨HN.out HX.out, rfl⟩, below_drewN HQ3.out _⟩
end Go.Proofs.YtoajckhnneagnaaDoor.Sh
