/-
  A row of credentials of the call's own; the two closures (the order of IDs, the same ID) by contract.
-/
import Derived.Test.YtkimhdcngagmaaaJa14
import Derived.Test.YtkimhdcngagmaaaJa8
import Derived.Test.YtkimhdcngagmaaaJa16
set_option linter.unusedVariables false
set_option linter.unusedSimpArgs false
namespace Go.Proofs.Ytkimhdcngagmaaa.Sh
open Go Go.RowKit

/-- Block g holds the credentials l, and behind them tl. -/
def RowL (w : World) (g : Nat) (tl : List Value) (l : List Crd) : Prop := w.heap[g]? = some (.cells (cv l ++ tl).toArray 53 (0, 0))
theorem set_cells (g : Nat) (t : TypeId) : ∀ (vs us P Q : List Value) (w : World), us.length = vs.length → w.heap[g]? = some (.cells (P ++ us ++ Q).toArray t (0, 0)) → (w.setCells g P.length vs).heap[g]? = some (.cells (P ++ vs ++ Q).toArray t (0, 0))
  | [], us, P, Q, w, hl, h => by
    obtain rfl : us = [] := List.eq_nil_of_length_eq_zero hl
    exact h
  | v :: r, [], P, Q, w, hl, h => by simp at hl
  | v :: r, u :: s, P, Q, w, hl, h => by
    have h1 : (w.setCell ⟨g, P.length, none⟩ v).heap[g]? = some (.cells ((P ++ [v]) ++ s ++ Q).toArray t (0, 0)) := by
      have := heap_setCell_same w g P.length _ _ v h
      rw [this]
      congr 2
      simp
    have := set_cells g t r s (P ++ [v]) Q (w.setCell ⟨g, P.length, none⟩ v) (by simpa using hl) h1
    rw [List.length_append, List.length_singleton] at this
    rw [World.setCells]
    rw [this]
    congr 2
    simp
section
variable {w w' : World} {g j : Nat} {tl : List Value} {l : List Crd} {x : Crd}
theorem RowL.lt (h : RowL w g tl l) : g < w.heap.size := (Array.getElem?_eq_some_iff.1 h).1
theorem RowL.kept (h : RowL w g tl l) (hb : Below w.heap.size w w') : RowL w' g tl l := (hb.block g h.lt).trans h
theorem RowL.drew (h : RowL w g tl l) : RowL w.drew g tl l := h
theorem RowL.f (h : RowL w g tl l) (k : Nat) : w.frozen? ⟨g, k, none⟩ = false := frozen_of_row w g k _ _ h
theorem RowL.cell (h : RowL w g tl l) (hj : l[j]? = some x) {i : Nat} {v : Value} (hv : x.cells[i]? = some v) : w.cell? ⟨g, j * 9 + i, none⟩ = some v := by
  have hi : i < 9 := (List.getElem?_eq_some_iff.1 hv).1
  have hlt := (List.getElem?_eq_some_iff.1 hj).1
  rw [cell_of_row w g _ _ _ (0, 0) h, List.getElem?_toArray, List.getElem?_append_left (by rw [cv_length]; omega), cv_get hj hi, hv]
theorem RowL.range (h : RowL w g tl l) (hj : l[j]? = some x) : w.rangeAt g (j * 9) x.cells := fun _ _ hv => h.cell hj hv
theorem RowL.thereL (h : RowL w g tl l) (hj : j < l.length) : w.there g (j * 9) 9 := fun i hi => by
  refine ⟨?_, h.f _⟩
  rw [h.cell (List.getElem?_eq_getElem hj) (i := i) (List.getElem?_eq_getElem (by rw [cells_len]; exact hi))]
  rfl
theorem RowL.there (h : RowL w g tl l) (hj : l[j]? = some x) : w.there g (j * 9) 9 := h.thereL (List.getElem?_eq_some_iff.1 hj).1
theorem cells_one (c : Crd) : ∀ v ∈ c.cells, v.oneCell' = true := fun v hv => cv_one [c] v (by simpa [cv] using hv)
theorem RowL.thereC (h : RowL w g tl l) (hj : j < l.length) (y : Crd) : w.there g (j * 9) y.cells.toArray.size := h.thereL hj
theorem info_credC (y : Crd) : (Try.prog.info? 53).map (·.size) = some y.cells.toArray.size := info_cred
theorem info_credL (y : Crd) : (Try.prog.info? 53).map (·.size) = some y.cells.length := info_cred
theorem one_credC (y : Crd) : y.cells.toArray.all (·.oneCell') = true := all_oneCell_toArray (cells_one y)
theorem cv_set (l : List Crd) (j : Nat) (y : Crd) (h : j < l.length) : cv (l.set j y) = cv (l.take j) ++ y.cells ++ cv (l.drop (j + 1)) := by
  rw [List.set_eq_take_append_cons_drop, if_pos h, cv_append, cv, List.append_assoc]
theorem RowL.set (h : RowL w g tl l) (hj : j < l.length) (y : Crd) : RowL (w.setCells g (j * 9) y.cells) g tl (l.set j y) := by
  unfold RowL at h ⊢
  have hsp : cv l = cv (l.take j) ++ (l[j]).cells ++ cv (l.drop (j + 1)) := by
    conv => lhs; rw [← List.take_append_drop j l, List.drop_eq_getElem_cons hj]
    rw [cv_append, cv, List.append_assoc]
  have hP : (cv (l.take j)).length = j * 9 := by rw [cv_length, List.length_take]; omega
  rw [hsp, List.append_assoc] at h
  have := set_cells g 53 y.cells (l[j]).cells (cv (l.take j)) (cv (l.drop (j + 1)) ++ tl) w rfl h
  rw [hP] at this
  rw [this, cv_set l j y hj]
  simp only [List.append_assoc]
end
theorem addr_row (g k : Nat) : Addr.add ⟨g, 0, none⟩ k = ⟨g, k, none⟩ := by
  unfold Addr.add
  by_cases h : k = 0
  · subst h; simp
  · simp [h]
/-- WHAT A WALK IS TOLD OF ONE ELEMENT: its address under a letter, its nine cells, none frozen. -/
theorem RowL.elem {w : World} {g j : Nat} {tl : List Value} {l : List Crd} {d q kd : Int} {nm wh ao an bo bn : ByteArray} (h : RowL w g tl l) (hj : l[j]? = some ⟨d, q, nm, kd, wh, ao, an, bo, bn⟩) :
    w.cell? ⟨g, j * 9, none⟩ = some (.int .i64 d) ∧ w.cell? ⟨g, j * 9 + 1, none⟩ = some (.int .i64 q) ∧ w.cell? ⟨g, j * 9 + 2, none⟩ = some (.string nm) ∧ w.cell? ⟨g, j * 9 + 3, none⟩ = some (.int .i64 kd) ∧ w.cell? ⟨g, j * 9 + 4, none⟩ = some (.string wh) ∧
    w.cell? ⟨g, j * 9 + 5, none⟩ = some (.string ao) ∧ w.cell? ⟨g, j * 9 + 6, none⟩ = some (.string an) ∧ w.cell? ⟨g, j * 9 + 7, none⟩ = some (.string bo) ∧ w.cell? ⟨g, j * 9 + 8, none⟩ = some (.string bn) :=
  ⟨h.cell hj (i := 0) rfl, h.cell hj (i := 1) rfl, h.cell hj (i := 2) rfl, h.cell hj (i := 3) rfl, h.cell hj (i := 4) rfl, h.cell hj (i := 5) rfl, h.cell hj (i := 6) rfl, h.cell hj (i := 7) rfl, h.cell hj (i := 8) rfl⟩

/-- The row under way: block g holds l (and tl behind), nothing below B has turned since w0. -/
structure Rw (w0 w : World) (B g : Nat) (tl : List Value) (l : List Crd) : Prop where
  row : RowL w g tl l
  bel : Below B w0 w
  hB : B ≤ g
section
variable {w0 w w' : World} {B g j : Nat} {tl : List Value} {l : List Crd}
theorem Rw.kept (h : Rw w0 w B g tl l) (hb : Below w.heap.size w w') : Rw w0 w' B g tl l := ⟨h.row.kept hb, h.bel.trans (hb.mono (by have := h.row.lt; have := h.hB; omega)), h.hB⟩
theorem Rw.drew (h : Rw w0 w B g tl l) : Rw w0 w.drew B g tl l := ⟨h.row, h.bel.drew, h.hB⟩
theorem Rw.set (h : Rw w0 w B g tl l) (hj : j < l.length) (y : Crd) : Rw w0 (w.setCells g (j * 9) y.cells) B g tl (l.set j y) := ⟨h.row.set hj y, below_setCells h.hB _ _ _ h.bel, h.hB⟩
theorem Rw.le (h : Rw w0 w B g tl l) : B ≤ w.heap.size := by have := h.row.lt; have := h.hB; omega
end

/-! ### the closures -/
def cmpI (a b : Crd) : Int := if bef a b = true then -1 else if bef b a = true then 1 else 0
theorem cmpI_neg (a b : Crd) : decide (cmpI a b < 0) = bef a b := by
  unfold cmpI
  cases h : bef a b with
  | true => rfl
  | false => cases h2 : bef b a <;> rfl
theorem two_cr (w : World) (a b : Crd) : CrAt ((w.alloc (.cells a.cells.toArray 53)).alloc (.cells b.cells.toArray 53)) w.heap.size a ∧ CrAt ((w.alloc (.cells a.cells.toArray 53)).alloc (.cells b.cells.toArray 53)) (w.heap.size + 1) b ∧
    Below w.heap.size w ((w.alloc (.cells a.cells.toArray 53)).alloc (.cells b.cells.toArray 53)) :=
  ⟨(CrAt.new w a).kept (below_cr _ _), by have := CrAt.new (w.alloc (.cells a.cells.toArray 53)) b; rwa [World.size_alloc] at this, (below_cr w a).trans ((below_cr _ b).mono (by rw [World.size_alloc]; exact Nat.le_succ _))⟩
set_option maxHeartbeats 2000000 in
theorem cmpC_any (a b : Crd) (w : World) : Calls Try.prog 56 #[.agg a.cells.toArray, .agg b.cells.toArray] w fun e w' => e = .returned (.int .i64 (cmpI a b)) ∧ Below w.heap.size w w' := by
  obtain ⟨w1, hw1⟩ : ∃ w1, w1 = (w.alloc (.cells a.cells.toArray 53)).alloc (.cells b.cells.toArray 53) := ⟨_, rfl⟩
  obtain ⟨r1, s1, b1⟩ := two_cr w a b
  rw [← hw1] at r1 s1 b1
  have HA := hid (fun w => before_any a.d a.q b.d b.q w)
  have HB := hid (fun w => before_any b.d b.q a.d a.q w)
  have eA : beforeI a.d a.q b.d b.q = bef a b := rfl
  have eB : beforeI b.d b.q a.d a.q = bef b a := rfl
  have HC : Hid (cmpI a b = if bef a b = true then -1 else if bef b a = true then 1 else 0) := hid rfl
  rw [eA] at HA
  rw [eB] at HB
  obtain ⟨x, hx⟩ : ∃ x, bef a b = x := ⟨_, rfl⟩
  obtain ⟨y, hy⟩ : ∃ y, bef b a = y := ⟨_, rfl⟩
  rw [hx] at HA HC
  rw [hy] at HB HC
  clear eA eB hx hy
  have R1 := hid r1
  have S1 := hid s1
  have B1 := hid b1
  clear r1 s1 b1
  obtain ⟨d, q, nm, kd, wh, ao, an, bo, bn⟩ := a
  obtain ⟨d', q', nm', kd', wh', ao', an', bo', bn'⟩ := b
  unfold Crd.cells at hw1 ⊢
  simp only at hw1 HA HB ⊢
  have c0 := R1.out.cell 0 _ rfl
  have c1 := R1.out.cell 1 _ rfl
  have z0 := S1.out.cell 0 _ rfl
  have z1 := S1.out.cell 1 _ rfl
  simp only at c0 c1 z0 z1
  go_enter Try.func56, Try.ntmps56
  rw [hw1] at c0 c1 z0 z1
  go_wp2_with fail
  rw [← hw1] at c0 c1 z0 z1 ⊢
  clear hw1
  refine (HA.out _).mono ?_
  rintro er w2 ⟨rfl, bb⟩
  have R2 := hid (R1.out.kept bb)
  have S2 := hid (S1.out.kept bb)
  have B2 := hid (B1.out.trans (bb.mono B1.out.size))
  clear bb c0 c1 z0 z1
  cases x with
  | true =>
    have HF : Hid (cmpI ⟨d, q, nm, kd, wh, ao, an, bo, bn⟩ ⟨d', q', nm', kd', wh', ao', an', bo', bn'⟩ = -1) := hid (by rw [HC.out]; rfl)
    go_wp2
    go_ret
    exact ⟨by rw [HF.out]; rfl, B2.out⟩
  | false =>
    have c0 := R2.out.cell 0 _ rfl
    have c1 := R2.out.cell 1 _ rfl
    have z0 := S2.out.cell 0 _ rfl
    have z1 := S2.out.cell 1 _ rfl
    simp only at c0 c1 z0 z1
    go_wp2_with fail
    refine (HB.out _).mono ?_
    rintro er w3 ⟨rfl, bb⟩
    have B3 := hid (B2.out.trans (bb.mono B2.out.size))
    clear bb c0 c1 z0 z1
    cases y with
    | true =>
      have HF : Hid (cmpI ⟨d, q, nm, kd, wh, ao, an, bo, bn⟩ ⟨d', q', nm', kd', wh', ao', an', bo', bn'⟩ = 1) := hid (by rw [HC.out]; rfl)
      go_wp2
      go_ret
      exact ⟨by rw [HF.out]; rfl, B3.out⟩
    | false =>
      have HF : Hid (cmpI ⟨d, q, nm, kd, wh, ao, an, bo, bn⟩ ⟨d', q', nm', kd', wh', ao', an', bo', bn'⟩ = 0) := hid (by rw [HC.out]; rfl)
      go_wp2
      go_ret
      exact ⟨by rw [HF.out]; rfl, B3.out⟩
/-- The same ID? -/
def sameId (a b : Crd) : Bool := decide (a.d = b.d ∧ a.q = b.q)
set_option maxHeartbeats 2000000 in
theorem eqC_any (a b : Crd) (w : World) : Calls Try.prog 47 #[.agg a.cells.toArray, .agg b.cells.toArray] w fun e w' => e = .returned (.bool (sameId a b)) ∧ Below w.heap.size w w' := by
  obtain ⟨w1, hw1⟩ : ∃ w1, w1 = (w.alloc (.cells a.cells.toArray 53)).alloc (.cells b.cells.toArray 53) := ⟨_, rfl⟩
  obtain ⟨r1, s1, b1⟩ := two_cr w a b
  rw [← hw1] at r1 s1 b1
  have R1 := hid r1
  have S1 := hid s1
  have B1 := hid b1
  clear r1 s1 b1
  obtain ⟨d, q, nm, kd, wh, ao, an, bo, bn⟩ := a
  obtain ⟨d', q', nm', kd', wh', ao', an', bo', bn'⟩ := b
  unfold Crd.cells at hw1 ⊢
  simp only at hw1 ⊢
  have c0 := R1.out.cell 0 _ rfl
  have c1 := R1.out.cell 1 _ rfl
  have z0 := S1.out.cell 0 _ rfl
  have z1 := S1.out.cell 1 _ rfl
  simp only at c0 c1 z0 z1
  by_cases h1 : d = d'
  · subst h1
    by_cases h2 : q = q'
    · subst h2
      have HF : Hid (sameId ⟨d, q, nm, kd, wh, ao, an, bo, bn⟩ ⟨d, q, nm', kd', wh', ao', an', bo', bn'⟩ = true) := hid (by unfold sameId; simp)
      go_enter Try.func47, Try.ntmps47
      rw [hw1] at c0 c1 z0 z1
      go_wp2
      rw [← hw1]
      go_ret
      exact ⟨by rw [HF.out]; rfl, B1.out⟩
    · have HF : Hid (sameId ⟨d, q, nm, kd, wh, ao, an, bo, bn⟩ ⟨d, q', nm', kd', wh', ao', an', bo', bn'⟩ = false) := hid (by unfold sameId; simp [h2])
      have hq : (q == q') = false := beq_eq_false_iff_ne.2 h2
      go_enter Try.func47, Try.ntmps47
      rw [hw1] at c0 c1 z0 z1
      go_wp2
      rw [← hw1]
      go_ret
      exact ⟨by rw [HF.out]; rfl, B1.out⟩
  · have HF : Hid (sameId ⟨d, q, nm, kd, wh, ao, an, bo, bn⟩ ⟨d', q', nm', kd', wh', ao', an', bo', bn'⟩ = false) := hid (by unfold sameId; simp [h1])
    have hq : (d == d') = false := beq_eq_false_iff_ne.2 h1
    go_enter Try.func47, Try.ntmps47
    rw [hw1] at c0 c1 z0 z1
    go_wp2
    rw [← hw1]
    go_ret
    exact ⟨by rw [HF.out]; rfl, B1.out⟩
end Go.Proofs.Ytkimhdcngagmaaa.Sh
