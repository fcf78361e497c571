/-
  The statements' own cut of a deed, by contract. Written by mk_recut.py.
-/
import Derived.Test.YtifoppnpgljphaaReGrw
import Derived.Deep.Cut
namespace Go.Proofs.Ytifoppnpgljphaa.Sh
open Go Go.RowKit

set_option linter.unusedSimpArgs false
set_option linter.unusedVariables false
theorem five_set {w : World} {g : Nat} {t : TypeId} {u0 u1 u2 u3 u4 : Value} (h : w.heap[g]? = some (.cells #[u0, u1, u2, u3, u4] t (0, 0))) (v0 v1 v2 v3 v4 : Value) :
    (((((w.setCell ⟨g, 0, none⟩ v0).setCell ⟨g, 1, none⟩ v1).setCell ⟨g, 2, none⟩ v2).setCell ⟨g, 3, none⟩ v3).setCell ⟨g, 4, none⟩ v4).heap[g]? = some (.cells #[v0, v1, v2, v3, v4] t (0, 0)) := by
  have h0 : (w.setCell ⟨g, 0, none⟩ v0).heap[g]? = some (.cells #[v0, u1, u2, u3, u4] t (0, 0)) := heap_setCell_same w g 0 _ _ _ h
  have h1 : ((w.setCell ⟨g, 0, none⟩ v0).setCell ⟨g, 1, none⟩ v1).heap[g]? = some (.cells #[v0, v1, u2, u3, u4] t (0, 0)) := heap_setCell_same _ g 1 _ _ _ h0
  have h2 : (((w.setCell ⟨g, 0, none⟩ v0).setCell ⟨g, 1, none⟩ v1).setCell ⟨g, 2, none⟩ v2).heap[g]? = some (.cells #[v0, v1, v2, u3, u4] t (0, 0)) := heap_setCell_same _ g 2 _ _ _ h1
  have h3 : ((((w.setCell ⟨g, 0, none⟩ v0).setCell ⟨g, 1, none⟩ v1).setCell ⟨g, 2, none⟩ v2).setCell ⟨g, 3, none⟩ v3).heap[g]? = some (.cells #[v0, v1, v2, v3, u4] t (0, 0)) := heap_setCell_same _ g 3 _ _ _ h2
  exact heap_setCell_same _ g 4 _ _ _ h3
theorem five_gro (w : World) (g : Nat) (v0 v1 v2 v3 v4 : Value) : w.grownBy (((((w.setCell ⟨g, 0, none⟩ v0).setCell ⟨g, 1, none⟩ v1).setCell ⟨g, 2, none⟩ v2).setCell ⟨g, 3, none⟩ v3).setCell ⟨g, 4, none⟩ v4) (some g) :=
  ((((gro_set1 w g 0 v0).trans (gro_set1 _ g 1 v1)).trans (gro_set1 _ g 2 v2)).trans (gro_set1 _ g 3 v3)).trans (gro_set1 _ g 4 v4)
theorem info_deed : (Try.prog.info? 33).map (·.size) = some 5 := by kernel_rfl
def cutHd (h : Hd) : Hd := ⟨h.A, min h.n 40, h.c⟩
/-- What the walk comes to: rows of w, their list in a row of the call's own. -/
theorem cut_post {w wr W : World} {Q : Nat → Prop} {X : Nat → Prop} {dh : DH} {x : Deed} (a : DeedAt w Q dh x) {B : Nat} {A1 : Option Addr} {c1 j : Nat} {hds : List Hd} (hl : hds.length = x.more.length)
    (hr : ∀ (i : Nat) (h : Hd) (l : List Int), hds[i]? = some h → x.more[i]? = some l → l.length = h.n ∧ h.n ≤ h.c ∧ h.c ≤ 9223372036854775807 ∧ ElsQ encN w Q h.A l)
    (hj : j = min 20 x.more.length) (ho : Own (E := encH) wr B 30 (.slice A1 j c1) ((hds.take j).map cutHd)) (hB : w.heap.size + 2 ≤ B) (hg : Grew wr W X) (hX : ∀ b, X b → b = w.heap.size ∨ b = w.heap.size + 1) (hW : Below w.heap.size w W) :
    DeedAt W (fun b => Q b ∨ w.heap.size ≤ b) ⟨dh.kind, dh.d, dh.q, dh.kA, min dh.kn 20, dh.kc, A1, j, c1⟩ (cutD x) := by
  have ho' : Own (E := encH) W B 30 (.slice A1 j c1) ((hds.take j).map cutHd) := ho.kept fun g e => hg.block g (ho.lt g e).2 (fun hx => by have h1 := (ho.lt g e).1; rcases hX g hx with e | e <;> omega)
  have hjl : ((hds.take j).map cutHd).length = j := by rw [List.length_map, List.length_take]; omega
  obtain ⟨A', c', e', q1, q2, q3⟩ := ho'.els
  simp only [Value.slice.injEq] at e'
  obtain ⟨rfl, _, rfl⟩ := e'
  rw [hjl] at q1
  have hk : (x.known.take 20).length = min dh.kn 20 := by rw [List.length_take, a.kl, Nat.min_comm]
  have hm : (cutL x.more).length = j := by unfold cutL; rw [List.length_map, List.length_take]; omega
  refine ⟨a.kind, a.d, a.q, hk, by show min dh.kn 20 ≤ dh.kc; have := a.kc; omega, a.km, ((a.ke.below hW).imp (fun b hb _ => .inl hb)).head 20, hm, q1, q2, ?_, fun l hl z hz => by
    obtain ⟨l0, h0, rfl⟩ := List.mem_map.1 hl
    exact a.mw l0 (List.mem_of_mem_take h0) z (List.mem_of_mem_take hz)⟩
  refine ⟨(hds.take j).map cutHd, by rw [hjl]; exact hm.symm, ElsQ.of_own ho' (fun b hb => .inr (by omega)), fun i h l hh hll => ?_⟩
  rw [List.getElem?_map, List.getElem?_take] at hh
  have hi : i < j := by
    have := (List.getElem?_eq_some_iff.1 hll).1
    rw [show (cutD x).more = cutL x.more from rfl, hm] at this
    exact this
  rw [if_pos hi] at hh
  obtain ⟨h0, e0, rfl⟩ := Option.map_eq_some_iff.1 hh
  have hll2 : ((x.more.take 20).map (List.take 40))[i]? = some l := hll
  rw [List.getElem?_map, List.getElem?_take, if_pos (by omega)] at hll2
  obtain ⟨l0, f0, rfl⟩ := Option.map_eq_some_iff.1 hll2
  obtain ⟨k1, k2, k3, k4⟩ := hr i h0 l0 e0 f0
  exact ⟨by show (l0.take 40).length = min h0.n 40; rw [List.length_take, k1, Nat.min_comm], by show min h0.n 40 ≤ h0.c; omega, k3, ((k4.below hW).imp (fun b hb _ => .inl hb)).head 40⟩
set_option maxHeartbeats 16000000 in
set_option maxRecDepth 100000 in
theorem cut_any {w : World} {Q : Nat → Prop} {dh : DH} {x : Deed} (a : DeedAt w Q dh x) :
    Calls Try.prog 19 #[.agg #[.int .i64 dh.kind, .int .i64 dh.d, .int .i64 dh.q, .slice dh.kA dh.kn dh.kc, .slice dh.mA dh.mn dh.mc]] w fun e w' => ∃ dh' : DH, e = .returned (.agg #[.int .i64 dh'.kind, .int .i64 dh'.d, .int .i64 dh'.q, .slice dh'.kA dh'.kn dh'.kc, .slice dh'.mA dh'.mn dh'.mc]) ∧ DeedAt w' (fun b => Q b ∨ w.heap.size ≤ b) dh' (cutD x) ∧ Below w.heap.size w w' := by
  have HA := hid a
  obtain ⟨hds, hl, he, hr⟩ := a.me
  have HR := hid hr
  have HL := hid hl
  have HE := hid (he.els)
  have hkc := a.kc
  have hkm := a.km
  have hmc := a.mc
  have hmm := a.mm
  have HML := hid a.ml
  obtain ⟨kd, d, q, kA, kn, kc, mA, mn, mc⟩ := dh
  simp only at hkc hkm hmc hmm HML HE ⊢
  obtain ⟨w1, hw1⟩ : ∃ y, y = (w.alloc (.cells #[.int .i64 kd, .int .i64 d, .int .i64 q, .slice kA kn kc, .slice mA mn mc] 33)).alloc (.cells #[.int .i64 0, .int .i64 0, .int .i64 0, .slice none 0 0, .slice none 0 0] 33) := ⟨_, rfl⟩
  have HB1 : Hid (Below w.heap.size w w1) := hid (by rw [hw1]; exact ((Below.refl w.heap.size w).alloc (Nat.le_refl _) _).alloc (by simp) _)
  have hs1 : w1.heap.size = w.heap.size + 2 := by rw [hw1]; simp
  have HD1 : Hid (DhAt w1 w.heap.size ⟨kd, d, q, kA, kn, kc, mA, mn, mc⟩) := hid (by
    have h0 := DhAt.new w ⟨kd, d, q, kA, kn, kc, mA, mn, mc⟩
    have h1 := h0.below (w' := w1) (by rw [hw1]; exact (Below.refl _ _).alloc (Nat.le_refl _) _)
    exact h1)
  have HZ1 : Hid (DhAt w1 (w.heap.size + 1) ⟨0, 0, 0, none, 0, 0, none, 0, 0⟩) := hid (by
    rw [hw1]
    have h0 := DhAt.new (w.alloc (.cells #[.int .i64 kd, .int .i64 d, .int .i64 q, .slice kA kn kc, .slice mA mn mc] 33)) ⟨0, 0, 0, none, 0, 0, none, 0, 0⟩
    rw [World.size_alloc] at h0
    exact h0)
  have HS1 := hid hs1
  have HW1 := hid hw1
  clear a he hr hl hw1 hs1
  by_cases hk20 : 20 < kn
  · have hk21 : (20 : Int) < (kn : Int) := by omega
    have hk22 : (20 : Int) ≤ (kc : Int) := by omega
    have f3 := HD1.out.f 3
    obtain ⟨c0, c1, c2, c3, c4⟩ := HD1.out.all
    simp only at c0 c1 c2 c3 c4
    obtain ⟨w2, hw2⟩ : ∃ y, y = w1.setCell ⟨w.heap.size, 3, none⟩ (.slice kA 20 kc) := ⟨_, rfl⟩
    have HD2 : Hid (DhAt w2 w.heap.size ⟨kd, d, q, kA, 20, kc, mA, mn, mc⟩) := hid (by rw [hw2]; exact HD1.out.setK kA 20 kc)
    have HG2 : Hid (w1.grownBy w2 (some w.heap.size)) := hid (by rw [hw2]; exact gro_set1 _ _ _ _)
    have HZ2 : Hid (DhAt w2 (w.heap.size + 1) ⟨0, 0, 0, none, 0, 0, none, 0, 0⟩) := hid ((HG2.out.block _ HZ1.out.lt (fun e => by injection e with e; omega)).trans HZ1.out)
    have HB2 : Hid (Below w.heap.size w w2) := hid (by rw [hw2]; exact HB1.out.setCell (p := ⟨w.heap.size, 3, none⟩) (Nat.le_refl _) _)
    have HS2 : Hid (w2.heap.size = w.heap.size + 2) := hid (by rw [hw2]; simp; exact HS1.out)
    have HW2 := hid hw2
    clear hw2
    go_enter Try.func19, Try.ntmps19
    go_upto_region 1 with fail
    rw [← HW1.out]
    go_wp2_with fail
    rw [← HW2.out]
    clear f3 c0 c1 c2 c3 c4
    go_loopw [3, 4] (fun v i wr => ∃ (A1 : Option Addr) (c1 j : Nat), v = .slice A1 j c1 ∧ i = .int .i64 (j : Int) ∧ j ≤ 20 ∧ j ≤ mn ∧ Hid (Own (E := encH) wr (w.heap.size + 2) 30 (.slice A1 j c1) ((hds.take j).map cutHd)) ∧ Hid (Below (w.heap.size + 2) w2 wr)) (fun _ i _ => 20 - (intOf i).toNat)
    case atStart => exact ⟨none, 0, 0, rfl, rfl, Nat.zero_le _, Nat.zero_le _, hid (Own.nil _ _ _), hid (Below.refl _ _)⟩
    case round =>
      obtain ⟨wj, hwj⟩ : ∃ y, y = wr := ⟨_, rfl⟩
      subst hwj
      obtain ⟨A1, c1, j, rfl, rfl, hj, hjm, HO, HB⟩ := hrel
      have hj0 : (0 : Int) ≤ (j : Int) := Int.natCast_nonneg _
      have HBW := hid (HB2.out.trans (HB.out.mono (by omega)))
      have HDJ := hid (HD2.out.below (HB.out.mono (by have := HS2.out; omega)))
      have HZJ := hid (HZ2.out.below (HB.out.mono (by have := HS2.out; omega)))
      obtain ⟨d0, d1, d2, d3, d4⟩ := HDJ.out.all
      simp only at d0 d1 d2 d3 d4
      by_cases hlt : j < 20 ∧ j < mn
      · obtain ⟨hj20, hjmn⟩ := hlt
        have hj1 : (j : Int) < 20 := by omega
        have hj2 : (j : Int) < (mn : Int) := by omega
        obtain ⟨hd, hhd⟩ : ∃ y, hds[j]? = some y := ⟨_, List.getElem?_eq_getElem (by rw [HL.out, HML.out]; exact hjmn)⟩
        obtain ⟨ll, hll⟩ : ∃ y, x.more[j]? = some y := ⟨_, List.getElem?_eq_getElem (by rw [HML.out]; exact hjmn)⟩
        obtain ⟨k1, k2, k3, -⟩ := HR.out j hd ll hhd hll
        obtain ⟨ad, rfl, hab, ha⟩ := (HE.out.below HBW.out).hd hhd
        obtain ⟨hA, hn, hc⟩ := hd
        simp only at k1 k2 k3
        have ha' : wj.cell? (ad.add j) = some (.slice hA hn hc) := ha
        have HTK : Hid ((hds.take (j + 1)).map cutHd = (hds.take j).map cutHd ++ [⟨hA, min hn 40, hc⟩]) := hid (by rw [take_snoc_of hhd, List.map_append]; rfl)
        obtain ⟨hs, hhs⟩ : ∃ y, (hds.take j).map cutHd = y := ⟨_, rfl⟩
        have HUL : Hid (hs.length = j) := hid (by rw [← hhs, List.length_map, List.length_take, HL.out, HML.out]; omega)
        rw [hhs] at HO HTK
        clear hhd hll k1 ha hab hhs
        have hfl : hs.length ≤ 1000000000000 := by rw [HUL.out]; omega
        by_cases h40 : 40 < hn
        · have h41 : (40 : Int) < (hn : Int) := by omega
          have h42 : (40 : Int) ≤ (hc : Int) := by omega
          have hmin : min hn 40 = 40 := by omega
          have HOA := hid (HO.out.alloc (.cells #[.slice hA 40 hc] 30))
          have HRD := hid (reads_new wj #[.slice hA 40 hc] 30 (0, 0))
          have HBA := hid (HB.out.alloc (by have := HB.out.size; have := HS2.out; omega) (.cells #[.slice hA 40 hc] 30))
          have hbs : w.heap.size + 2 ≤ (wj.alloc (.cells #[.slice hA 40 hc] 30)).heap.size := by have := HBA.out.size; have := HS2.out; omega
          rw [hmin] at HTK
          go_wp2_with (first | (at_builtin; refine wpList_app1 (E := encH) rfl slH (.tmp 35) (.tmp 37) rfl (B := w.heap.size + 2) (v := .slice A1 j c1) (l := hs) HOA.out rfl (ad := ⟨wj.heap.size, 0, none⟩) (c := 1) ⟨hA, 40, hc⟩ rfl HRD.out hfl (by omega) hbs ?_; intro A9 c9 w9 ho9 hg9 he9; have HO9 := hid ho9; have HB9 := hid (HBA.out.grown hg9 hbs (fun g e => (World.ownsRow.lt HOA.out g e).1)); clear ho9 hg9 he9) | go_in)
          rw [HUL.out] at HO9 ⊢
          go_roundw
          case rel => exact ⟨A9, c9, j + 1, rfl, by go_num, by omega, by omega, hid (by rw [HTK.out]; exact HO9.out), HB9⟩
          case measure => simp [intOf]; omega
        · have h41 : ¬ (40 : Int) < (hn : Int) := by omega
          have hmin : min hn 40 = hn := by omega
          have HOA := hid (HO.out.alloc (.cells #[.slice hA hn hc] 30))
          have HRD := hid (reads_new wj #[.slice hA hn hc] 30 (0, 0))
          have HBA := hid (HB.out.alloc (by have := HB.out.size; have := HS2.out; omega) (.cells #[.slice hA hn hc] 30))
          have hbs : w.heap.size + 2 ≤ (wj.alloc (.cells #[.slice hA hn hc] 30)).heap.size := by have := HBA.out.size; have := HS2.out; omega
          rw [hmin] at HTK
          go_wp2_with (first | (at_builtin; refine wpList_app1 (E := encH) rfl slH (.tmp 35) (.tmp 37) rfl (B := w.heap.size + 2) (v := .slice A1 j c1) (l := hs) HOA.out rfl (ad := ⟨wj.heap.size, 0, none⟩) (c := 1) ⟨hA, hn, hc⟩ rfl HRD.out hfl (by omega) hbs ?_; intro A9 c9 w9 ho9 hg9 he9; have HO9 := hid ho9; have HB9 := hid (HBA.out.grown hg9 hbs (fun g e => (World.ownsRow.lt HOA.out g e).1)); clear ho9 hg9 he9) | go_in)
          rw [HUL.out] at HO9 ⊢
          go_roundw
          case rel => exact ⟨A9, c9, j + 1, rfl, by go_num, by omega, by omega, hid (by rw [HTK.out]; exact HO9.out), HB9⟩
          case measure => simp [intOf]; omega
      · have hcond : Hid (j = min 20 mn) := hid (by omega)
        have HK := hid (fun (W : World) (X : Nat → Prop) (hg : Grew wj W X) (hX : ∀ b, X b → b = w.heap.size ∨ b = w.heap.size + 1) => cut_post HA.out HL.out HR.out (by rw [HML.out]; exact hcond.out) HO.out (Nat.le_refl _) hg hX (Grew.then_below HBW.out hg HBW.out.size (fun b hb => by rcases hX b hb with e | e <;> omega)))
        have HBZ := hid (fun (W : World) (X : Nat → Prop) (hg : Grew wj W X) (hX : ∀ b, X b → b = w.heap.size ∨ b = w.heap.size + 1) => Grew.then_below HBW.out hg HBW.out.size (fun b hb => by rcases hX b hb with e | e <;> omega))
        rw [show min kn 20 = 20 by omega] at HK
        have f0 := HDJ.out.f 4
        have HM := hid (HDJ.out.setM A1 j c1)
        obtain ⟨m0, m1, m2, m3, m4⟩ := HM.out.all
        simp only at m0 m1 m2 m3 m4
        have HGM := hid (gro_set1 wj w.heap.size 4 (.slice A1 j c1))
        have HZM : Hid (DhAt (wj.setCell ⟨w.heap.size, 4, none⟩ (.slice A1 j c1)) (w.heap.size + 1) ⟨0, 0, 0, none, 0, 0, none, 0, 0⟩) := hid ((HGM.out.block _ HZJ.out.lt (fun e => by injection e with e; omega)).trans HZJ.out)
        obtain ⟨z0, z1, z2, z3, z4⟩ := HZM.out.all
        simp only at z0 z1 z2 z3 z4
        have zf0 := HZM.out.f 0
        have zf1 := HZM.out.f 1
        have zf2 := HZM.out.f 2
        have zf3 := HZM.out.f 3
        have zf4 := HZM.out.f 4
        have HFIN := hid (five_set HZM.out (.int .i64 kd) (.int .i64 d) (.int .i64 q) (.slice kA 20 kc) (.slice A1 j c1))
        have HGF := hid (five_gro (wj.setCell ⟨w.heap.size, 4, none⟩ (.slice A1 j c1)) (w.heap.size + 1) (.int .i64 kd) (.int .i64 d) (.int .i64 q) (.slice kA 20 kc) (.slice A1 j c1))
        have hout : ¬ ((j : Int) < (mn : Int) ∧ (j : Int) < 20) := fun h => hlt ⟨by omega, by omega⟩
        by_cases hjm2 : (j : Int) < (mn : Int)
        all_goals
          have hj20' : (j : Int) < 20 ∨ ¬ (j : Int) < 20 := by omega
          try have hj20'' : ¬ (j : Int) < 20 := (by omega)
          go_wp2
          refine bodyPost_ret (results_mid (h := Try.results19) _ _ (w.heap.size + 1) 0 [.int .i64 kd, .int .i64 d, .int .i64 q, .slice kA 20 kc, .slice A1 j c1] _ rfl (range_row HFIN.out) Try.underlying33 rfl info_deed) rfl ?_
          have hgr := (Grew.of_gro (X := fun b => b = w.heap.size ∨ b = w.heap.size + 1) HGM.out (.inl rfl)).trans (Grew.of_gro HGF.out (.inr rfl))
          exact ⟨⟨kd, d, q, kA, 20, kc, A1, j, c1⟩, rfl, HK.out _ _ hgr (fun b hb => hb), HBZ.out _ _ hgr (fun b hb => hb)⟩
  · have hk21 : ¬ (20 : Int) < (kn : Int) := by omega
    obtain ⟨c0, c1, c2, c3, c4⟩ := HD1.out.all
    simp only at c0 c1 c2 c3 c4
    obtain ⟨w2, hw2⟩ : ∃ y, y = w1 := ⟨_, rfl⟩
    have HD2 : Hid (DhAt w2 w.heap.size ⟨kd, d, q, kA, kn, kc, mA, mn, mc⟩) := hid (by rw [hw2]; exact HD1.out)
    have HZ2 : Hid (DhAt w2 (w.heap.size + 1) ⟨0, 0, 0, none, 0, 0, none, 0, 0⟩) := hid (by rw [hw2]; exact HZ1.out)
    have HB2 : Hid (Below w.heap.size w w2) := hid (by rw [hw2]; exact HB1.out)
    have HS2 : Hid (w2.heap.size = w.heap.size + 2) := hid (by rw [hw2]; exact HS1.out)
    have HW2 := hid hw2
    clear hw2
    go_enter Try.func19, Try.ntmps19
    go_upto_region 1 with fail
    rw [← HW1.out]
    go_wp2_with fail
    rw [← HW2.out]
    clear c0 c1 c2 c3 c4
    go_loopw [3, 4] (fun v i wr => ∃ (A1 : Option Addr) (c1 j : Nat), v = .slice A1 j c1 ∧ i = .int .i64 (j : Int) ∧ j ≤ 20 ∧ j ≤ mn ∧ Hid (Own (E := encH) wr (w.heap.size + 2) 30 (.slice A1 j c1) ((hds.take j).map cutHd)) ∧ Hid (Below (w.heap.size + 2) w2 wr)) (fun _ i _ => 20 - (intOf i).toNat)
    case atStart => exact ⟨none, 0, 0, rfl, rfl, Nat.zero_le _, Nat.zero_le _, hid (Own.nil _ _ _), hid (Below.refl _ _)⟩
    case round =>
      obtain ⟨wj, hwj⟩ : ∃ y, y = wr := ⟨_, rfl⟩
      subst hwj
      obtain ⟨A1, c1, j, rfl, rfl, hj, hjm, HO, HB⟩ := hrel
      have hj0 : (0 : Int) ≤ (j : Int) := Int.natCast_nonneg _
      have HBW := hid (HB2.out.trans (HB.out.mono (by omega)))
      have HDJ := hid (HD2.out.below (HB.out.mono (by have := HS2.out; omega)))
      have HZJ := hid (HZ2.out.below (HB.out.mono (by have := HS2.out; omega)))
      obtain ⟨d0, d1, d2, d3, d4⟩ := HDJ.out.all
      simp only at d0 d1 d2 d3 d4
      by_cases hlt : j < 20 ∧ j < mn
      · obtain ⟨hj20, hjmn⟩ := hlt
        have hj1 : (j : Int) < 20 := by omega
        have hj2 : (j : Int) < (mn : Int) := by omega
        obtain ⟨hd, hhd⟩ : ∃ y, hds[j]? = some y := ⟨_, List.getElem?_eq_getElem (by rw [HL.out, HML.out]; exact hjmn)⟩
        obtain ⟨ll, hll⟩ : ∃ y, x.more[j]? = some y := ⟨_, List.getElem?_eq_getElem (by rw [HML.out]; exact hjmn)⟩
        obtain ⟨k1, k2, k3, -⟩ := HR.out j hd ll hhd hll
        obtain ⟨ad, rfl, hab, ha⟩ := (HE.out.below HBW.out).hd hhd
        obtain ⟨hA, hn, hc⟩ := hd
        simp only at k1 k2 k3
        have ha' : wj.cell? (ad.add j) = some (.slice hA hn hc) := ha
        have HTK : Hid ((hds.take (j + 1)).map cutHd = (hds.take j).map cutHd ++ [⟨hA, min hn 40, hc⟩]) := hid (by rw [take_snoc_of hhd, List.map_append]; rfl)
        obtain ⟨hs, hhs⟩ : ∃ y, (hds.take j).map cutHd = y := ⟨_, rfl⟩
        have HUL : Hid (hs.length = j) := hid (by rw [← hhs, List.length_map, List.length_take, HL.out, HML.out]; omega)
        rw [hhs] at HO HTK
        clear hhd hll k1 ha hab hhs
        have hfl : hs.length ≤ 1000000000000 := by rw [HUL.out]; omega
        by_cases h40 : 40 < hn
        · have h41 : (40 : Int) < (hn : Int) := by omega
          have h42 : (40 : Int) ≤ (hc : Int) := by omega
          have hmin : min hn 40 = 40 := by omega
          have HOA := hid (HO.out.alloc (.cells #[.slice hA 40 hc] 30))
          have HRD := hid (reads_new wj #[.slice hA 40 hc] 30 (0, 0))
          have HBA := hid (HB.out.alloc (by have := HB.out.size; have := HS2.out; omega) (.cells #[.slice hA 40 hc] 30))
          have hbs : w.heap.size + 2 ≤ (wj.alloc (.cells #[.slice hA 40 hc] 30)).heap.size := by have := HBA.out.size; have := HS2.out; omega
          rw [hmin] at HTK
          go_wp2_with (first | (at_builtin; refine wpList_app1 (E := encH) rfl slH (.tmp 35) (.tmp 37) rfl (B := w.heap.size + 2) (v := .slice A1 j c1) (l := hs) HOA.out rfl (ad := ⟨wj.heap.size, 0, none⟩) (c := 1) ⟨hA, 40, hc⟩ rfl HRD.out hfl (by omega) hbs ?_; intro A9 c9 w9 ho9 hg9 he9; have HO9 := hid ho9; have HB9 := hid (HBA.out.grown hg9 hbs (fun g e => (World.ownsRow.lt HOA.out g e).1)); clear ho9 hg9 he9) | go_in)
          rw [HUL.out] at HO9 ⊢
          go_roundw
          case rel => exact ⟨A9, c9, j + 1, rfl, by go_num, by omega, by omega, hid (by rw [HTK.out]; exact HO9.out), HB9⟩
          case measure => simp [intOf]; omega
        · have h41 : ¬ (40 : Int) < (hn : Int) := by omega
          have hmin : min hn 40 = hn := by omega
          have HOA := hid (HO.out.alloc (.cells #[.slice hA hn hc] 30))
          have HRD := hid (reads_new wj #[.slice hA hn hc] 30 (0, 0))
          have HBA := hid (HB.out.alloc (by have := HB.out.size; have := HS2.out; omega) (.cells #[.slice hA hn hc] 30))
          have hbs : w.heap.size + 2 ≤ (wj.alloc (.cells #[.slice hA hn hc] 30)).heap.size := by have := HBA.out.size; have := HS2.out; omega
          rw [hmin] at HTK
          go_wp2_with (first | (at_builtin; refine wpList_app1 (E := encH) rfl slH (.tmp 35) (.tmp 37) rfl (B := w.heap.size + 2) (v := .slice A1 j c1) (l := hs) HOA.out rfl (ad := ⟨wj.heap.size, 0, none⟩) (c := 1) ⟨hA, hn, hc⟩ rfl HRD.out hfl (by omega) hbs ?_; intro A9 c9 w9 ho9 hg9 he9; have HO9 := hid ho9; have HB9 := hid (HBA.out.grown hg9 hbs (fun g e => (World.ownsRow.lt HOA.out g e).1)); clear ho9 hg9 he9) | go_in)
          rw [HUL.out] at HO9 ⊢
          go_roundw
          case rel => exact ⟨A9, c9, j + 1, rfl, by go_num, by omega, by omega, hid (by rw [HTK.out]; exact HO9.out), HB9⟩
          case measure => simp [intOf]; omega
      · have hcond : Hid (j = min 20 mn) := hid (by omega)
        have HK := hid (fun (W : World) (X : Nat → Prop) (hg : Grew wj W X) (hX : ∀ b, X b → b = w.heap.size ∨ b = w.heap.size + 1) => cut_post HA.out HL.out HR.out (by rw [HML.out]; exact hcond.out) HO.out (Nat.le_refl _) hg hX (Grew.then_below HBW.out hg HBW.out.size (fun b hb => by rcases hX b hb with e | e <;> omega)))
        have HBZ := hid (fun (W : World) (X : Nat → Prop) (hg : Grew wj W X) (hX : ∀ b, X b → b = w.heap.size ∨ b = w.heap.size + 1) => Grew.then_below HBW.out hg HBW.out.size (fun b hb => by rcases hX b hb with e | e <;> omega))
        rw [show min kn 20 = kn by omega] at HK
        have f0 := HDJ.out.f 4
        have HM := hid (HDJ.out.setM A1 j c1)
        obtain ⟨m0, m1, m2, m3, m4⟩ := HM.out.all
        simp only at m0 m1 m2 m3 m4
        have HGM := hid (gro_set1 wj w.heap.size 4 (.slice A1 j c1))
        have HZM : Hid (DhAt (wj.setCell ⟨w.heap.size, 4, none⟩ (.slice A1 j c1)) (w.heap.size + 1) ⟨0, 0, 0, none, 0, 0, none, 0, 0⟩) := hid ((HGM.out.block _ HZJ.out.lt (fun e => by injection e with e; omega)).trans HZJ.out)
        obtain ⟨z0, z1, z2, z3, z4⟩ := HZM.out.all
        simp only at z0 z1 z2 z3 z4
        have zf0 := HZM.out.f 0
        have zf1 := HZM.out.f 1
        have zf2 := HZM.out.f 2
        have zf3 := HZM.out.f 3
        have zf4 := HZM.out.f 4
        have HFIN := hid (five_set HZM.out (.int .i64 kd) (.int .i64 d) (.int .i64 q) (.slice kA kn kc) (.slice A1 j c1))
        have HGF := hid (five_gro (wj.setCell ⟨w.heap.size, 4, none⟩ (.slice A1 j c1)) (w.heap.size + 1) (.int .i64 kd) (.int .i64 d) (.int .i64 q) (.slice kA kn kc) (.slice A1 j c1))
        have hout : ¬ ((j : Int) < (mn : Int) ∧ (j : Int) < 20) := fun h => hlt ⟨by omega, by omega⟩
        by_cases hjm2 : (j : Int) < (mn : Int)
        all_goals
          have hj20' : (j : Int) < 20 ∨ ¬ (j : Int) < 20 := by omega
          try have hj20'' : ¬ (j : Int) < 20 := (by omega)
          go_wp2
          refine bodyPost_ret (results_mid (h := Try.results19) _ _ (w.heap.size + 1) 0 [.int .i64 kd, .int .i64 d, .int .i64 q, .slice kA kn kc, .slice A1 j c1] _ rfl (range_row HFIN.out) Try.underlying33 rfl info_deed) rfl ?_
          have hgr := (Grew.of_gro (X := fun b => b = w.heap.size ∨ b = w.heap.size + 1) HGM.out (.inl rfl)).trans (Grew.of_gro HGF.out (.inr rfl))
          exact ⟨⟨kd, d, q, kA, kn, kc, A1, j, c1⟩, rfl, HK.out _ _ hgr (fun b hb => hb), HBZ.out _ _ hgr (fun b hb => hb)⟩
end Go.Proofs.Ytifoppnpgljphaa.Sh
