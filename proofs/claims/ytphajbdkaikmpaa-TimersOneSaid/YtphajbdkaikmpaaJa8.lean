/-
  The pile's Swap, by contract.
-/
import Derived.Test.YtphajbdkaikmpaaJa7
import Derived.BigRegion
set_option linter.unusedVariables false
set_option linter.unusedSimpArgs false
namespace Go.Proofs.Ytphajbdkaikmpaa.Sh
open Go Go.RowKit

set_option linter.unusedSimpArgs false
set_option linter.unusedVariables false
theorem gro_set4 (w : World) (g a b c d : Nat) (u1 u2 u3 u4 : Value) : w.grownBy ((((w.setCell ⟨g, a, none⟩ u1).setCell ⟨g, b, none⟩ u2).setCell ⟨g, c, none⟩ u3).setCell ⟨g, d, none⟩ u4).drew (some g) := by
  refine ⟨rfl, rfl, rfl, ?_, fun x hx hne => ?_⟩
  · show _ ≤ ((((w.setCell ⟨g, a, none⟩ u1).setCell ⟨g, b, none⟩ u2).setCell ⟨g, c, none⟩ u3).setCell ⟨g, d, none⟩ u4).heap.size
    simp
  · have hg : x ≠ g := fun e => hne (by rw [e])
    show ((((w.setCell ⟨g, a, none⟩ u1).setCell ⟨g, b, none⟩ u2).setCell ⟨g, c, none⟩ u3).setCell ⟨g, d, none⟩ u4).heap[x]? = _
    rw [heap_setCell_other _ ⟨g, d, none⟩ x _ hg, heap_setCell_other _ ⟨g, c, none⟩ x _ hg, heap_setCell_other _ ⟨g, b, none⟩ x _ hg, heap_setCell_other _ ⟨g, a, none⟩ x _ hg]
theorem below_drewT (w : World) : Below w.heap.size w w.drew := (Below.refl w.heap.size w).drew
/-- The exchange, as the two stores leave it. -/
theorem PileE.swp {w : World} {P : Nat → Prop} {q h k c g : Nat} {tl : List Value} {T : List Tm} {f : Int → Option Int} (e : PileE w P q h k (some ⟨g, 0, none⟩) c T f) (row : RowE encT 37 w g tl T) {i j : Nat} (hi : i < T.length) (hj : j < T.length) {d u d' u' : Int} (hx : ofT T i = (d, u)) (hy : ofT T j = (d', u')) :
    PileE ((((w.setCell ⟨g, i * 2, none⟩ (.int .i64 d')).setCell ⟨g, i * 2 + 1, none⟩ (.int .i64 u')).setCell ⟨g, j * 2, none⟩ (.int .i64 d)).setCell ⟨g, j * 2 + 1, none⟩ (.int .i64 u)).drew P q h k (some ⟨g, 0, none⟩) c (swT T i j) f := by
  have h1 := row.put hi (ofT T j)
  have h2 := h1.put (a := j) (by rw [List.length_set]; exact hj) (ofT T i)
  rw [hx, hy] at h2
  have h3 : RowE encT 37 ((((w.setCell ⟨g, i * 2, none⟩ (.int .i64 d')).setCell ⟨g, i * 2 + 1, none⟩ (.int .i64 u')).setCell ⟨g, j * 2, none⟩ (.int .i64 d)).setCell ⟨g, j * 2 + 1, none⟩ (.int .i64 u)).drew g tl (swT T i j) := by
    unfold swT
    rw [hx, hy]
    exact h2
  exact e.putRow (gro_set4 _ _ _ _ _ _ _ _ _ _) h3 row (swT_length _ _ _)
set_option maxHeartbeats 4000000 in
theorem swapT_any {w : World} {P : Nat → Prop} {q h k c : Nat} {A : Option Addr} {T : List Tm} {f : Int → Option Int} (e : PileE w P q h k A c T f) (hT : KOk T) (hk : k < 999000) {i j : Nat} (hi : i < T.length) (hj : j < T.length) (hij : i ≠ j) :
    Calls Try.prog 72 #[.pointer (some ⟨q, 0, none⟩), .int .i64 (i : Int), .int .i64 (j : Int)] w fun er w' => er = .returned (.tuple #[]) ∧ ∃ f', PileE w' P q h (k + 2) A c (swT T i j) f' ∧ (Pos f T → Pos f' (swT T i j)) ∧ Grew w w' P := by
  obtain ⟨g, tl, rfl, pg, g1, g2, row, a0, a1⟩ := e.at' hi
  obtain ⟨g', tl', hA', -, -, -, -, b0, b1⟩ := e.at' hj
  simp only [Option.some.injEq, Addr.mk.injEq, and_true] at hA'
  subst hA'
  have c0 := e.c0
  have hm := e.els.2
  obtain ⟨⟨d, u⟩, hx⟩ : ∃ x, ofT T i = x := ⟨_, rfl⟩
  obtain ⟨⟨d', u'⟩, hy⟩ : ∃ x, ofT T j = x := ⟨_, rfl⟩
  rw [hx] at a0 a1
  rw [hy] at b0 b1
  have fi0 := row.f (i * 2)
  have fi1 := row.f (i * 2 + 1)
  have fj0 := row.f (j * 2)
  have fj1 := row.f (j * 2 + 1)
  have hki : In64 u' := by have := hT _ (ofT_mem hj); rw [hy] at this; exact this
  have hkj : In64 u := by have := hT _ (ofT_mem hi); rw [hx] at this; exact this
  have ei : ofT (swT T i j) i = (d', u') := by rw [ofT_swT hi hj, if_neg hij, if_pos rfl, hy]
  have ej : ofT (swT T i j) j = (d, u) := by rw [ofT_swT hi hj, if_pos rfl, hx]
  have hsl := swT_length T i j
  obtain ⟨n, hn⟩ : ∃ n, T.length = n := ⟨_, rfl⟩
  -- behind the exchange
  obtain ⟨wA, hwA⟩ : ∃ x, x = ((((w.setCell ⟨g, i * 2, none⟩ (.int .i64 d')).setCell ⟨g, i * 2 + 1, none⟩ (.int .i64 u')).setCell ⟨g, j * 2, none⟩ (.int .i64 d)).setCell ⟨g, j * 2 + 1, none⟩ (.int .i64 u)).drew := ⟨_, rfl⟩
  have eA : PileE wA P q h k (some ⟨g, 0, none⟩) c (swT T i j) f := by rw [hwA]; exact e.swp row hi hj hx hy
  have gA : w.grownBy wA (some g) := by rw [hwA]; exact gro_set4 _ _ _ _ _ _ _ _ _ _
  have eA2 := eA.below (below_drewT wA)
  have cA0 := eA2.c0
  have cA1 := eA2.c1
  obtain ⟨gx, tx, hAx, -, -, -, -, -, rA⟩ := eA2.at' (i := i) (by rw [hsl]; exact hi)
  simp only [Option.some.injEq, Addr.mk.injEq, and_true] at hAx
  subst hAx
  rw [ei] at rA
  rw [hsl, hn] at cA0
  -- the first place
  obtain ⟨wB, runB, pB, gB⟩ := eA2.pl.put hki (i : Int) (by omega)
  have eB := eA2.putPl gB pB
  have eB2 := eB.below (below_drewT wB)
  have cB0 := eB2.c0
  have cB1 := eB2.c1
  obtain ⟨gx, ty, hAx, -, -, -, -, -, rB⟩ := eB2.at' (i := j) (by rw [hsl]; exact hj)
  simp only [Option.some.injEq, Addr.mk.injEq, and_true] at hAx
  subst hAx
  rw [ej] at rB
  rw [hsl, hn] at cB0
  -- the second one
  obtain ⟨wC, runC, pC, gC⟩ := eB2.pl.put hkj (j : Int) (by omega)
  have eC := eB2.putPl gC pC
  have HFIN : Hid (∃ f', PileE wC P q h (k + 2) (some ⟨g, 0, none⟩) c (swT T i j) f' ∧ (Pos f T → Pos f' (swT T i j)) ∧ Grew w wC P) := hid ⟨_, eC, fun hp => by
    have := hp.swap hi hj
    rw [ei, ej] at this
    exact this, ((((Grew.of_gro gA pg).trans (Grew.of_below (below_drewT wA))).trans (Grew.of_gro gB e.p1)).trans (Grew.of_below (below_drewT wB))).trans (Grew.of_gro gC e.p1)⟩
  have HWA := hid hwA
  rw [hn] at hi hj hm c0
  have hji : j ≠ i := Ne.symm hij
  have hi0 : (0 : Int) ≤ (i : Int) := Int.natCast_nonneg _
  have hj0 : (0 : Int) ≤ (j : Int) := Int.natCast_nonneg _
  have hi1 : (i : Int) < (n : Int) := by omega
  have hj1 : (j : Int) < (n : Int) := by omega
  have ai := addr_rowT g (i * 2)
  have aj := addr_rowT g (j * 2)
  have hgq : g ≠ q := g1
  simp only at rA rB
  clear hi hj e row hx hy hn pg g1 eA gA eA2 pB gB eB eB2 pC gC eC hwA hT hki hkj ei ej hsl
  go_enter Try.func72, Try.ntmps72
  go_wp2_with fail
  go_region
  rw [← HWA.out]
  clear c0 a0 a1 b0 b1 fi0 fi1 fj0 fj1
  go_wp2_with fail
  go_region_law fail
  all_goals
    clear cA0 cA1 rA runB
    go_wp2_with fail
    go_region_law fail
    all_goals
      go_wp2_with fail
      go_end0
      exact ⟨rfl, HFIN.out⟩
end Go.Proofs.Ytphajbdkaikmpaa.Sh
/-
  The pile's Push and Pop, by contract.
-/
namespace Go.Proofs.Ytphajbdkaikmpaa.Sh
open Go Go.RowKit

set_option linter.unusedSimpArgs false
set_option linter.unusedVariables false
theorem asT (v : Value) (w : World) : (Instr.typeAssert (.iface 37 v) 20 37 false).run Try.prog w = .ok v w := by kernel_rfl
theorem size_setCell_T (w : World) (p : Addr) (u : Value) : (w.setCell p u).heap.size = w.heap.size := by simp
theorem plusT_grow {P : Nat → Prop} {n m m' : Nat} (h : n ≤ m) (x : Nat) : plusT P m m' x → plusT P n m' x := fun hx => hx.elim .inl (fun h2 => .inr ⟨by omega, h2.2⟩)
/-- Wherever its row lies. -/
def PileX (w : World) (P : Nat → Prop) (q h k : Nat) (T : List Tm) (f : Int → Option Int) : Prop := ∃ A c, PileE w P q h k A c T f
/-- One more at the row's end. -/
theorem PileE.app {w w' : World} {P : Nat → Prop} {q h k c c' : Nat} {A A' : Option Addr} {T : List Tm} {f : Int → Option Int} {x : Tm} (e : PileE w P q h k A c T f)
    (ho : Own (E := encT) w' 0 37 (.slice A' (T.length + 1) c') (T ++ [x])) (hg : w.grownBy w' (Value.slice A T.length c).ownBlock) (hl : (Value.slice A' (T.length + 1) c').ownBlock = (Value.slice A T.length c).ownBlock ∨ (Value.slice A' (T.length + 1) c').ownBlock = some w.heap.size) :
    PileE (w'.setCell ⟨q, 0, none⟩ (.slice A' (T.length + 1) c')) (plusT P w.heap.size w'.heap.size) q h k A' c' (T ++ [x]) f ∧ Grew w (w'.setCell ⟨q, 0, none⟩ (.slice A' (T.length + 1) c')) P := by
  have hq := e.dom q e.p0
  have hh := e.dom h e.p1
  have hsz : (w'.setCell ⟨q, 0, none⟩ (.slice A' (T.length + 1) c')).heap.size = w'.heap.size := by simp
  have hob : ∀ g, (Value.slice A' (T.length + 1) c').ownBlock = some g → plusT P w.heap.size w'.heap.size g ∧ g ≠ q ∧ g ≠ h := fun g hgg => by
    have hlt := (ho.lt g hgg).2
    rcases hl with h1 | h1
    · rw [h1] at hgg
      obtain ⟨a1, a2⟩ := e.ob g hgg
      exact ⟨.inl a1, a2⟩
    · rw [h1] at hgg
      injection hgg with hgg
      exact ⟨.inr ⟨by omega, hlt⟩, by omega, by omega⟩
  have hr : w'.heap[q]? = some (.cells #[.slice A T.length c, .map (some h)] 52 (0, 0)) := (hg.block q hq (fun e2 => (e.ob q e2.symm).2.1 rfl)).trans e.row
  have hm : w'.heap[h]? = w.heap[h]? := hg.block h hh (fun e2 => (e.ob h e2.symm).2.2 rfl)
  have hel : (T ++ [x]).length = T.length + 1 := by simp
  refine ⟨⟨.inl e.p0, .inl e.p1, e.n1, ?_, ?_, (by rw [hel]; exact hob), (e.pl.at' hm).at' (heap_setCell_other w' ⟨q, 0, none⟩ h _ (Ne.symm e.n1)), fun y hy => ?_⟩, ⟨hg.os, hg.tape, hg.output, by rw [hsz]; exact hg.size, fun b hb hP => ?_⟩⟩
  · rw [heap_setCell_same w' q 0 _ _ _ hr, hel]; rfl
  · rw [hel]
    exact ho.kept (fun g hgg => heap_setCell_other w' ⟨q, 0, none⟩ g _ (hob g hgg).2.1)
  · rw [hsz]; exact plusT_dom e.dom hg.size y hy
  · rw [heap_setCell_other w' ⟨q, 0, none⟩ b _ (fun e2 => hP (by have e2 : b = q := e2; rw [e2]; exact e.p0))]
    exact hg.block b hb (fun e2 => hP (e.ob b e2.symm).1)
/-- The last one is gone. -/
theorem PileE.cut {w : World} {P : Nat → Prop} {q h k c m : Nat} {A : Option Addr} {T : List Tm} {f : Int → Option Int} (e : PileE w P q h k A c T f) (hn : T.length = m + 1) :
    PileE (w.setCell ⟨q, 0, none⟩ (.slice A m c)) P q h k A c (T.take m) f ∧ Grew w (w.setCell ⟨q, 0, none⟩ (.slice A m c)) P := by
  have hsz : (w.setCell ⟨q, 0, none⟩ (.slice A m c)).heap.size = w.heap.size := by simp
  have hel : (T.take m).length = m := by rw [List.length_take]; omega
  have hob : ∀ g, (Value.slice A m c).ownBlock = some g → P g ∧ g ≠ q ∧ g ≠ h := fun g hg => e.ob g (by cases A <;> exact hg)
  have hs := e.own.short (n := m) (by omega)
  refine ⟨⟨e.p0, e.p1, e.n1, ?_, ?_, (by rw [hel]; exact hob), e.pl.at' (heap_setCell_other w ⟨q, 0, none⟩ h _ (Ne.symm e.n1)), fun y hy => by rw [hsz]; exact e.dom y hy⟩, Grew.of_gro (gro_set1 w q 0 _) e.p0⟩
  · rw [heap_setCell_same w q 0 _ _ _ e.row, hel]; rfl
  · rw [hel]
    exact hs.kept (fun g hg => heap_setCell_other w ⟨q, 0, none⟩ g _ (hob g hg).2.1)
set_option maxHeartbeats 4000000 in
theorem pushT_any {w : World} {P : Nat → Prop} {q h k c : Nat} {A : Option Addr} {T : List Tm} {f : Int → Option Int} (e : PileE w P q h k A c T f) {d u : Int} (hu : In64 u) (hk : k < 999000) (hT : T.length ≤ 64) :
    Calls Try.prog 71 #[.pointer (some ⟨q, 0, none⟩), .iface 37 (.agg #[.int .i64 d, .int .i64 u])] w fun er w' => er = .returned (.tuple #[]) ∧ PileX w' (plusT P w.heap.size w'.heap.size) q h (k + 1) (T ++ [(d, u)]) (updP f u (some (T.length : Int))) ∧ Grew w w' P := by
  have HDOM := hid e.dom
  obtain ⟨w1, hw1⟩ : ∃ x, x = w.alloc (.cells #[.int .i64 d, .int .i64 u] 37) := ⟨_, rfl⟩
  have hb1 : Below w.heap.size w w1 := by rw [hw1]; exact (Below.refl _ _).alloc (Nat.le_refl _) _
  have hr1 : w1.heap[w.heap.size]? = some (.cells #[.int .i64 d, .int .i64 u] 37 (0, 0)) := by rw [hw1]; exact heap_alloc_new w _
  have hs1 : w1.heap.size = w.heap.size + 1 := by rw [hw1]; simp
  have e1 := (e.below hb1).below (below_drewT w1)
  have cA0 := e1.c0
  have cA1 := e1.c1
  have xA : w1.drew.cell? ⟨w.heap.size, 1, none⟩ = some (.int .i64 u) := by
    show w1.cell? _ = _
    rw [cell_of_row _ _ 1 _ _ (0, 0) hr1]; rfl
  obtain ⟨wB, runB, pB, gB⟩ := e1.pl.put hu (T.length : Int) (by omega)
  have eB := e1.putPl gB pB
  have hrB : wB.heap[w.heap.size]? = some (.cells #[.int .i64 d, .int .i64 u] 37 (0, 0)) := (gB.block _ (by show _ < w1.heap.size; omega) (fun e2 => by injection e2 with e2; have := e.dom h e.p1; omega)).trans hr1
  have hgB : Grew w wB P := ((Grew.of_below hb1).trans (Grew.of_below (below_drewT w1))).trans (Grew.of_gro gB e.p1)
  have eB2 := eB.below (below_drewT wB)
  have cB0 := eB2.c0
  have xB0 : wB.drew.cell? ⟨w.heap.size, 0, none⟩ = some (.int .i64 d) := by
    show wB.cell? _ = _
    rw [cell_of_row _ _ 0 _ _ (0, 0) hrB]; rfl
  have xB1 : wB.drew.cell? ⟨w.heap.size, 1, none⟩ = some (.int .i64 u) := by
    show wB.cell? _ = _
    rw [cell_of_row _ _ 1 _ _ (0, 0) hrB]; rfl
  have eC := eB2.below ((Below.refl wB.drew.heap.size wB.drew).alloc (Nat.le_refl _) (.cells #[.int .i64 d, .int .i64 u] 37))
  have cC0 : (wB.alloc (.cells #[.int .i64 d, .int .i64 u] 37)).cell? ⟨q, 0, none⟩ = some (.slice A T.length c) := eC.c0
  have HOC := hid eC.own
  have HRD := hid (reads_new wB.drew #[.int .i64 d, .int .i64 u] 37 (0, 0))
  have HAP := hid (fun (A' : Option Addr) (c' : Nat) (w4 : World) ho hg hl => eC.app (x := (d, u)) (A' := A') (c' := c') (w' := w4) ho hg hl)
  have HGC := hid ((hgB.trans (Grew.of_below (below_drewT wB))).trans (Grew.of_below ((Below.refl wB.drew.heap.size wB.drew).alloc (Nat.le_refl _) (.cells #[.int .i64 d, .int .i64 u] 37))))
  have hq4 : ∀ (A' : Option Addr) (c' : Nat) (w4 : World), (wB.drew.alloc (.cells #[.int .i64 d, .int .i64 u] 37)).grownBy w4 (Value.slice A T.length c).ownBlock → w4.heap[q]? = some (.cells #[.slice A T.length c, .map (some h)] 52 (0, 0)) := fun A' c' w4 hg => (hg.block q (eC.dom q eC.p0) (fun e2 => (eC.ob q e2.symm).2.1 rfl)).trans eC.row
  have HQ4 := hid hq4
  have asX := asT
  have HS1 := hid hs1
  have HW1 := hid hw1
  have HSZ : Hid (w.heap.size ≤ (wB.drew.alloc (.cells #[.int .i64 d, .int .i64 u] 37)).heap.size) := hid HGC.out.size
  obtain ⟨n, hn⟩ : ∃ n, T.length = n := ⟨_, rfl⟩
  rw [hn] at cA0 cB0 cC0 HOC HAP HQ4 runB hT
  have hfl : T.length ≤ 1000000000000 := by omega
  have HN := hid hn
  have hm : n ≤ c ∧ c ≤ 9223372036854775807 := by have := e.els.2; rw [hn] at this; exact this
  clear e hb1 hr1 hs1 e1 pB gB eB hrB hgB eB2 eC hq4 hw1 hu hn
  go_enter Try.func71, Try.ntmps71
  go_upto_region 1 with fail
  rw [← HW1.out]
  go_region_law fail
  all_goals
    go_upto_region 2 with fail
    clear cA0 cA1 xA runB
    go_region_law ((first | (refine step_app1 (E := encT) (by rfl) slT (.tmp 22) (.tmp 24) (by rfl) (B := 0) (v := .slice A n c) (l := T) HOC.out (by rfl) (ad := ⟨wB.heap.size, 0, none⟩) (c := 1) (d, u) (by rfl) HRD.out hfl (by omega) (Nat.zero_le _) ?_; intro A' c' w4 ho4 hg4 hl4; have hr4 := HQ4.out A' c' w4 hg4; have c04 : w4.cell? ⟨q, 0, none⟩ = some (.slice A n c) := (by rw [cell_of_row _ _ 0 _ _ (0, 0) hr4]; rfl); have f04 : w4.frozen? ⟨q, 0, none⟩ = false := frozen_of_row w4 q 0 _ _ hr4; have HFIN := hid (HAP.out A' c' w4 (by rw [HN.out] at ho4; exact ho4) hg4 (by rw [HN.out] at hl4; exact hl4)); clear ho4 hg4 hl4 hr4)))
    all_goals
      go_wp2_with fail
      go_end0
      rw [HN.out]
      have HGF := hid (HGC.out.trans HFIN.out.2)
      exact ⟨rfl, ⟨A', c', HFIN.out.1.imp (fun x hx => by
        rw [size_setCell_T]
        exact plusT_grow HSZ.out x hx) (plusT_dom HDOM.out HGF.out.size)⟩, HGF.out⟩
set_option maxHeartbeats 4000000 in
theorem popT_any {w : World} {P : Nat → Prop} {q h k c m : Nat} {A : Option Addr} {T : List Tm} {f : Int → Option Int} (e : PileE w P q h k A c T f) (hn : T.length = m + 1) (hT : T.length ≤ 70) :
    Calls Try.prog 70 #[.pointer (some ⟨q, 0, none⟩)] w fun er w' => er = .returned (.iface 37 (.agg #[.int .i64 (ofT T m).1, .int .i64 (ofT T m).2])) ∧ PileE w' P q h k A c (T.take m) f ∧ Grew w w' P := by
  obtain ⟨g, tl, rfl, pg, g1, g2, row, a0, a1⟩ := e.at' (i := m) (by omega)
  have c0 := e.c0
  have hm := e.els.2
  rw [hn] at c0 hm hT
  obtain ⟨⟨d, u⟩, hx⟩ : ∃ x, ofT T m = x := ⟨_, rfl⟩
  rw [hx] at a0 a1
  rw [hx]
  obtain ⟨w1, hw1⟩ : ∃ x, x = w.alloc (.cells #[.int .i64 d, .int .i64 u] 37) := ⟨_, rfl⟩
  have hb1 : Below w.heap.size w w1 := by rw [hw1]; exact (Below.refl _ _).alloc (Nat.le_refl _) _
  have hr1 : w1.heap[w.heap.size]? = some (.cells #[.int .i64 d, .int .i64 u] 37 (0, 0)) := by rw [hw1]; exact heap_alloc_new w _
  have e1 := e.below hb1
  have cA0 := e1.c0
  rw [hn] at cA0
  have fA0 : w1.frozen? ⟨q, 0, none⟩ = false := frozen_of_row w1 q 0 _ _ e1.row
  obtain ⟨e2, hg2⟩ := e1.cut hn
  have hq := e.dom q e.p0
  have xB0 : (w1.setCell ⟨q, 0, none⟩ (.slice (some ⟨g, 0, none⟩) m c)).cell? ⟨w.heap.size, 0, none⟩ = some (.int .i64 d) := by
    rw [cell_of_row _ _ 0 _ _ (0, 0) ((heap_setCell_other w1 ⟨q, 0, none⟩ w.heap.size _ (by show w.heap.size ≠ q; omega)).trans hr1)]; rfl
  have xB1 : (w1.setCell ⟨q, 0, none⟩ (.slice (some ⟨g, 0, none⟩) m c)).cell? ⟨w.heap.size, 1, none⟩ = some (.int .i64 u) := by
    rw [cell_of_row _ _ 1 _ _ (0, 0) ((heap_setCell_other w1 ⟨q, 0, none⟩ w.heap.size _ (by show w.heap.size ≠ q; omega)).trans hr1)]; rfl
  obtain ⟨w2, hw2⟩ : ∃ x, x = w1.setCell ⟨q, 0, none⟩ (.slice (some ⟨g, 0, none⟩) m c) := ⟨_, rfl⟩
  rw [← hw2] at xB0 xB1 e2 hg2
  have HW1 := hid hw1
  have HW2 := hid hw2
  have HE2 := hid e2
  have HG2 := hid ((Grew.of_below (X := P) hb1).trans hg2)
  have hm0 : (0 : Int) ≤ (m : Int) := Int.natCast_nonneg _
  have am := addr_rowT g (m * 2)
  clear e row hx hb1 hr1 e1 e2 hg2 hw1 hw2 pg g1 g2 hn
  go_enter Try.func70, Try.ntmps70
  go_upto_region 3 with fail
  rw [← HW1.out]
  go_upto_region 4 with fail
  rw [← HW2.out]
  go_wp2_with fail
  go_ret
  exact ⟨rfl, HE2.out, HG2.out⟩
end Go.Proofs.Ytphajbdkaikmpaa.Sh
/-
  The library's heap: up, by contract.
-/
namespace Go.Proofs.Ytphajbdkaikmpaa.Sh
open Go Go.RowKit

set_option linter.unusedSimpArgs false
set_option linter.unusedVariables false
theorem mLen (v : Value) (w : World) : (method 214 59 v "Len").run Try.prog w = .ok (20, v) w := by kernel_rfl
theorem mLess (v : Value) (w : World) : (method 214 59 v "Less").run Try.prog w = .ok (69, v) w := by kernel_rfl
theorem mSwap (v : Value) (w : World) : (method 214 59 v "Swap").run Try.prog w = .ok (72, v) w := by kernel_rfl
theorem mPush (v : Value) (w : World) : (method 214 59 v "Push").run Try.prog w = .ok (71, v) w := by kernel_rfl
theorem mPop (v : Value) (w : World) : (method 214 59 v "Pop").run Try.prog w = .ok (70, v) w := by kernel_rfl
/-- Timers of the first n moved among themselves. -/
structure Mv (w0 w : World) (P : Nat → Prop) (q h k : Nat) (A : Option Addr) (c n : Nat) (T0 T : List Tm) (f : Int → Option Int) : Prop where
  e : PileE w P q h k A c T f
  perm : T.Perm T0
  far : ∀ i, n ≤ i → ofT T i = ofT T0 i
  pos : Pos f T
  grew : Grew w0 w P
theorem Mv.len {w0 w : World} {P : Nat → Prop} {q h k c n : Nat} {A : Option Addr} {T0 T : List Tm} {f : Int → Option Int} (m : Mv w0 w P q h k A c n T0 T f) : T.length = T0.length := m.perm.length_eq
theorem Mv.kok {w0 w : World} {P : Nat → Prop} {q h k c n : Nat} {A : Option Addr} {T0 T : List Tm} {f : Int → Option Int} (m : Mv w0 w P q h k A c n T0 T f) (h0 : KOk T0) : KOk T := fun x hx => h0 x (m.perm.mem_iff.1 hx)
theorem Mv.below {w0 w w' : World} {P : Nat → Prop} {q h k c n : Nat} {A : Option Addr} {T0 T : List Tm} {f : Int → Option Int} (m : Mv w0 w P q h k A c n T0 T f) (hb : Below w.heap.size w w') : Mv w0 w' P q h k A c n T0 T f := ⟨m.e.below hb, m.perm, m.far, m.pos, m.grew.trans (Grew.of_below hb)⟩
theorem Mv.mono {w0 w : World} {P : Nat → Prop} {q h k k' c n : Nat} {A : Option Addr} {T0 T : List Tm} {f : Int → Option Int} (m : Mv w0 w P q h k A c n T0 T f) (hk : k ≤ k') : Mv w0 w P q h k' A c n T0 T f := ⟨m.e.mono hk, m.perm, m.far, m.pos, m.grew⟩
/-- Less, then. -/
theorem Mv.less {w0 w : World} {P : Nat → Prop} {q h k c n : Nat} {A : Option Addr} {T0 T : List Tm} {f : Int → Option Int} (m : Mv w0 w P q h k A c n T0 T f) (hn : n ≤ T0.length) {i j : Nat} (hi : i < n) (hj : j < n) {b : Bool} (hb : decide (ltT (ofT T i) (ofT T j)) = b) :
    Calls Try.prog 69 #[.pointer (some ⟨q, 0, none⟩), .int .i64 (i : Int), .int .i64 (j : Int)] w fun er w' => er = .returned (.bool b) ∧ Mv w0 w' P q h k A c n T0 T f := by
  have h1 := m.len
  refine (lessT_any m.e (i := i) (j := j) (by omega) (by omega)).mono fun er w' ⟨a, bb⟩ => ⟨by rw [← hb]; exact a, m.below bb⟩
/-- Swap, then. -/
theorem Mv.swap {w0 w : World} {P : Nat → Prop} {q h k c n : Nat} {A : Option Addr} {T0 T : List Tm} {f : Int → Option Int} (m : Mv w0 w P q h k A c n T0 T f) (h0 : KOk T0) (hk : k < 999000) (hn : n ≤ T0.length) {i j : Nat} (hi : i < n) (hj : j < n) (hij : i ≠ j) :
    Calls Try.prog 72 #[.pointer (some ⟨q, 0, none⟩), .int .i64 (i : Int), .int .i64 (j : Int)] w fun er w' => er = .returned (.tuple #[]) ∧ ∃ f', Mv w0 w' P q h (k + 2) A c n T0 (swT T i j) f' := by
  have h1 := m.len
  have hi' : i < T.length := by omega
  have hj' : j < T.length := by omega
  refine (swapT_any m.e (m.kok h0) hk hi' hj' hij).mono fun er w' ⟨a, f', e', hp, hg⟩ => ⟨a, f', e', (swT_perm hi' hj').trans m.perm, fun x hx => ?_, hp m.pos, m.grew.trans hg⟩
  rw [ofT_swT hi' hj', if_neg (by omega), if_neg (by omega)]
  exact m.far x hx
def upP (w0 : World) (P : Nat → Prop) (q h k : Nat) (A : Option Addr) (c n : Nat) (T0 : List Tm) (w : World) : Prop := ∃ T f, Mv w0 w P q h k A c n T0 T f ∧ HeapN (ofT T) n
set_option maxHeartbeats 4000000 in
theorem upT_any {w0 w : World} {P : Nat → Prop} {q h k c n j : Nat} {A : Option Addr} {T0 T : List Tm} {f : Int → Option Int} (m : Mv w0 w P q h k A c n T0 T f) (h0 : KOk T0) (hl : T0.length ≤ 70) (hk : k < 990000) (hn : n ≤ T0.length) (hj : j < n) (hu : UpI (ofT T) n j) :
    Calls Try.prog 30 #[.iface 59 (.pointer (some ⟨q, 0, none⟩)), .int .i64 (j : Int)] w fun er w' => er = .returned (.tuple #[]) ∧ upP w0 P q h (k + 200) A c n T0 w' := by
  have HM := hid m
  have H0 := hid h0
  have HU := hid hu
  have HN := hid hn
  have hn70 : n ≤ 70 := by omega
  have xLess := fun w => mLess (.pointer (some ⟨q, 0, none⟩)) w
  have xSwap := fun w => mSwap (.pointer (some ⟨q, 0, none⟩)) w
  clear m h0 hu hn hl
  go_enter Try.func30, Try.ntmps30
  go_wp2_with fail
  go_loopw [1] (fun jv wr => ∃ (j' k' : Nat) (T' : List Tm) (f' : Int → Option Int), jv = .int .i64 (j' : Int) ∧ j' < n ∧ k' + 2 * j' ≤ k + 2 * j ∧ Hid (Mv w0 wr P q h k' A c n T0 T' f') ∧ Hid (UpI (ofT T') n j')) (fun jv _ => (intOf jv).toNat)
  case atStart => exact ⟨j, k, T, f, rfl, hj, Nat.le_refl _, HM, HU⟩
  case round =>
    obtain ⟨wj, hwj⟩ : ∃ x, x = wr := ⟨_, rfl⟩
    subst hwj
    obtain ⟨j', k', T', f', rfl, hjn, hkk, HMj, HUj⟩ := hrel
    by_cases hz : j' = 0
    · subst hz
      have HE : Hid (upP w0 P q h (k + 200) A c n T0 wj) := hid ⟨T', f', HMj.out.mono (by omega), HUj.out.stop (.inl rfl)⟩
      go_wp2_with fail
      go_end0
      exact ⟨rfl, HE.out⟩
    · obtain ⟨p, hp⟩ : ∃ p, (j' - 1) / 2 = p := ⟨_, rfl⟩
      have hq : ((j' : Int) - 1).tdiv 2 = (p : Int) := by
        rw [Int.tdiv_eq_ediv_of_nonneg (by omega)]
        omega
      have hw1 : IntKind.i64.wrap ((j' : Int) - 1) = (j' : Int) - 1 := wrap_in _ (by omega)
      have hw2 : IntKind.i64.wrap (p : Int) = (p : Int) := wrap_in _ (by omega)
      have hpj : p < j' := by omega
      have hne : ((p : Int) == (j' : Int)) = false := beq_eq_false_iff_ne.2 (by omega)
      cases hb : decide (ltT (ofT T' j') (ofT T' p)) with
      | false =>
        have HL := hid (HMj.out.less HN.out hjn (Nat.lt_trans hpj hjn) hb)
        have HE : Hid (HeapN (ofT T') n) := hid (HUj.out.stop (.inr (by rw [hp]; exact of_decide_eq_false hb)))
        clear hb hp
        go_wp2_with fail
        refine HL.out.mono ?_
        rintro er w2 ⟨rfl, m2⟩
        have HF : Hid (upP w0 P q h (k + 200) A c n T0 w2) := hid ⟨T', f', m2.mono (by omega), HE.out⟩
        clear m2
        go_wp2_with fail
        go_end0
        exact ⟨rfl, HF.out⟩
      | true =>
        have HL := hid (HMj.out.less HN.out hjn (Nat.lt_trans hpj hjn) hb)
        have HT : Hid (j' < T'.length ∧ p < T'.length) := hid ⟨by have := HMj.out.len; have := HN.out; omega, by have := HMj.out.len; have := HN.out; omega⟩
        have HE : Hid (UpI (ofT (swT T' p j')) n p) := hid (HUj.out.step hp (by omega) (of_decide_eq_true hb) (fun x => ofT_swT HT.out.2 HT.out.1 x))
        clear hb hp
        go_wp2_with fail
        refine HL.out.mono ?_
        rintro er w2 ⟨rfl, m2⟩
        have HSW := hid (m2.swap H0.out (by omega) HN.out (Nat.lt_trans hpj hjn) hjn (Nat.ne_of_lt hpj))
        clear m2
        go_wp2_with fail
        refine HSW.out.mono ?_
        rintro er w3 ⟨rfl, f3, m3⟩
        have HM3 := hid m3
        clear m3
        go_wp2_with fail
        go_roundw
        case rel => exact ⟨p, k' + 2, _, f3, rfl, by omega, by omega, HM3, HE⟩
        case measure => simp [intOf]; omega
end Go.Proofs.Ytphajbdkaikmpaa.Sh
