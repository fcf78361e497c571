/-
  A row of elements in a block: one element written over, the rest cleared.
-/
import Derived.Test.YtdigfbgjefffiaaBaQ
import Derived.Lib.LazyBuf
namespace Go.Proofs.Ytdigfbgjefffiaa.Sh
open Go Go.RowKit

set_option linter.unusedSimpArgs false
set_option linter.unusedVariables false
/-- The elements l from the block's first cell on, tl behind them. -/
def RowE {α : Type} (E : Enc α) (T : TypeId) (w : World) (g : Nat) (tl : List Value) (l : List α) : Prop := w.heap[g]? = some (.cells (ev E l ++ tl).toArray T (0, 0))
theorem set_cellsE (g : Nat) (t : TypeId) : ∀ (vs us P Q : List Value) (w : World), us.length = vs.length → w.heap[g]? = some (.cells (P ++ us ++ Q).toArray t (0, 0)) → (w.setCells g P.length vs).heap[g]? = some (.cells (P ++ vs ++ Q).toArray t (0, 0))
  | [], us, P, Q, w, hl, h => by
    obtain rfl : us = [] := List.eq_nil_of_length_eq_zero hl
    exact h
  | v :: r, [], P, Q, w, hl, h => by simp at hl
  | v :: r, u :: s, P, Q, w, hl, h => by
    have h1 : (w.setCell ⟨g, P.length, none⟩ v).heap[g]? = some (.cells (P ++ [v] ++ s ++ Q).toArray t (0, 0)) := by
      rw [heap_setCell_same w g P.length _ _ v h]
      congr 2
      rw [List.setIfInBounds_toArray]
      congr 1
      simp
    have := set_cellsE g t r s (P ++ [v]) Q _ (by simpa using hl) h1
    rw [List.length_append, List.length_singleton] at this
    rw [World.setCells]
    rw [this]
    congr 2
    simp
section
variable {α : Type} {E : Enc α} {T : TypeId} {w : World} {g : Nat} {tl : List Value} {l : List α}
theorem RowE.lt (h : RowE E T w g tl l) : g < w.heap.size := (Array.getElem?_eq_some_iff.1 h).1
theorem RowE.f (h : RowE E T w g tl l) (j : Nat) : w.frozen? ⟨g, j, none⟩ = false := frozen_of_row w g j _ _ h
theorem RowE.cell (h : RowE E T w g tl l) {j i : Nat} {x : α} {u : Value} (hx : l[j]? = some x) (hi : i < E.k) (hu : (E.cells x)[i]? = some u) : w.cell? ⟨g, j * E.k + i, none⟩ = some u := by
  have h1 := ev_get E hx hi
  rw [hu] at h1
  have h2 := (List.getElem?_eq_some_iff.1 h1).1
  rw [cell_of_row _ _ _ _ _ (0, 0) h, List.getElem?_toArray, List.getElem?_append_left h2, h1]
theorem RowE.below {w' : World} (h : RowE E T w g tl l) (hb : Below w.heap.size w w') : RowE E T w' g tl l := (hb.block g h.lt).trans h
theorem RowE.els (h : RowE E T w g tl l) : Els E w w.heap.size (some ⟨g, 0, none⟩) l := fun hn => ⟨_, rfl, h.lt, fun i u hu => by
  have h2 := (List.getElem?_eq_some_iff.1 hu).1
  have e : (⟨g, 0, none⟩ : Addr).add i = ⟨g, i, none⟩ := by
    rcases Nat.eq_zero_or_pos i with e | e
    · subst e; rw [add_zero]
    · rw [add_pos _ i e]; simp
  rw [e, cell_of_row _ _ _ _ _ (0, 0) h, List.getElem?_toArray, List.getElem?_append_left h2, hu]⟩
theorem RowE.own {B n c : Nat} (h : RowE E T w g tl l) (hb : B ≤ g) (hn : l.length = n) (hc : n ≤ c) (hm : c ≤ maxLen) (hs : n * E.k + tl.length = c * E.k) : Own (E := E) w B T (.slice (some ⟨g, 0, none⟩) n c) l :=
  ⟨ev_length E l, .inr ⟨g, c, _, by rw [hn], hb, h, by rw [hn]; exact hc, hm, by rw [List.size_toArray, List.length_append, ev_length, hn]; exact hs, by
    rw [List.take_append_of_le_length (by rw [ev_length]; exact Nat.le_refl _), List.take_of_length_le (by rw [ev_length]; exact Nat.le_refl _)]⟩⟩
theorem Own.rowE {B n c : Nat} {A : Option Addr} (h : Own (E := E) w B T (.slice A n c) l) (hl : l.length = n) (hn : 0 < n) : ∃ g tl, A = some ⟨g, 0, none⟩ ∧ B ≤ g ∧ RowE E T w g tl l ∧ n ≤ c ∧ c ≤ maxLen ∧ n * E.k + tl.length = c * E.k := by
  rcases h.2 with ⟨_, h0⟩ | ⟨g, cap, cur, hv, hb, hg, hc, hm, hs, ht⟩
  · omega
  · simp only [Value.slice.injEq, true_and] at hv
    obtain ⟨rfl, rfl, rfl⟩ := hv
    have e : cur = (ev E l ++ cur.toList.drop (l.length * E.k)).toArray := by rw [← ht, List.take_append_drop]
    refine ⟨g, cur.toList.drop (l.length * E.k), rfl, hb, ?_, by omega, hm, ?_⟩
    · show w.heap[g]? = _
      rw [← e]; exact hg
    · have e9 : cur.toList.length = c * E.k := by rw [Array.length_toList]; exact hs
      have e8 : l.length * E.k ≤ c * E.k := Nat.mul_le_mul_right _ hc
      rw [List.length_drop, e9]
      omega
theorem ev_one_el (x : α) : ev E [x] = E.cells x := by simp [ev]
theorem RowE.put (h : RowE E T w g tl l) {a : Nat} (ha : a < l.length) (x : α) : RowE E T (w.setCells g (a * E.k) (E.cells x)) g tl (l.set a x) := by
  unfold RowE at h ⊢
  have e1 : l = l.take a ++ [l[a]] ++ l.drop (a + 1) := by
    rw [List.append_assoc, List.singleton_append, List.getElem_cons_drop, List.take_append_drop]
  have e2 : l.set a x = l.take a ++ [x] ++ l.drop (a + 1) := by
    rw [List.set_eq_take_append_cons_drop, if_pos ha, List.append_assoc, List.singleton_append]
  rw [e1, ev_append, ev_append, ev_one_el, List.append_assoc] at h
  rw [e2, ev_append, ev_append, ev_one_el, List.append_assoc]
  have := set_cellsE g T (E.cells x) (E.cells l[a]) (ev E (l.take a)) (ev E (l.drop (a + 1)) ++ tl) w (by rw [E.len, E.len]) h
  rwa [ev_length, List.length_take, Nat.min_eq_left (Nat.le_of_lt ha)] at this
theorem RowE.cut (h : RowE E T w g tl l) {m : Nat} (hm : m ≤ l.length) (zs : List Value) (hz : zs.length = (l.length - m) * E.k) : RowE E T (w.setCells g (m * E.k) zs) g (zs ++ tl) (l.take m) := by
  unfold RowE at h ⊢
  have e : ev E l = ev E (l.take m) ++ ev E (l.drop m) := by rw [← ev_append, List.take_append_drop]
  rw [e] at h
  have := set_cellsE g T zs (ev E (l.drop m)) (ev E (l.take m)) tl w (by rw [ev_length, List.length_drop, hz]) h
  rw [ev_length, List.length_take, Nat.min_eq_left hm] at this
  rw [this, List.append_assoc]
end
/-- A row of n elements l in a block from B on, below U, that may be written to. -/
structure RowN {α : Type} (E : Enc α) (T : TypeId) (w : World) (B U : Nat) (A : Option Addr) (n c : Nat) (l : List α) : Prop where
  len : l.length = n
  le : n ≤ c
  max : c ≤ 9223372036854775807
  row : 0 < n → ∃ g tl, A = some ⟨g, 0, none⟩ ∧ B ≤ g ∧ g < U ∧ RowE E T w g tl l
section
variable {α : Type} {E : Enc α} {T : TypeId} {w w' : World} {B U n c : Nat} {A : Option Addr} {l : List α}
theorem RowN.of_own (h : Own (E := E) w B T (.slice A n c) l) (hn : l.length = n) : RowN E T w B w.heap.size A n c l := by
  obtain ⟨A', c', e, h1, h2, _⟩ := h.els
  simp only [Value.slice.injEq] at e
  obtain ⟨rfl, e2, rfl⟩ := e
  refine ⟨hn, by omega, h2, fun h0 => ?_⟩
  obtain ⟨g, tl, e, hb, row, _, _, _⟩ := h.rowE hn h0
  exact ⟨g, tl, e, hb, row.lt, row⟩
theorem RowN.nil {A : Option Addr} : RowN E T w B U A 0 0 [] := ⟨rfl, Nat.le_refl _, by omega, fun h => absurd h (by omega)⟩
theorem RowN.kept (h : RowN E T w B U A n c l) (hk : ∀ b, B ≤ b → b < U → b < w.heap.size → w'.heap[b]? = w.heap[b]?) : RowN E T w' B U A n c l :=
  ⟨h.len, h.le, h.max, fun h0 => by
    obtain ⟨g, tl, e, h1, h2, h3⟩ := h.row h0
    exact ⟨g, tl, e, h1, h2, (hk g h1 h2 h3.lt).trans h3⟩⟩
theorem RowN.grew {X : Nat → Prop} (h : RowN E T w B U A n c l) (hg : Grew w w' X) (hx : ∀ b, B ≤ b → b < U → ¬ X b) : RowN E T w' B U A n c l := h.kept fun b h1 h2 h3 => hg.block b h3 (hx b h1 h2)
theorem RowN.below (h : RowN E T w B U A n c l) (hb : Below w.heap.size w w') : RowN E T w' B U A n c l := h.kept fun b _ _ h3 => hb.block b h3
theorem RowN.wide {B' U' : Nat} (h : RowN E T w B U A n c l) (h1 : B' ≤ B) (h2 : U ≤ U') : RowN E T w B' U' A n c l :=
  ⟨h.len, h.le, h.max, fun h0 => by
    obtain ⟨g, tl, e, k1, k2, h3⟩ := h.row h0
    exact ⟨g, tl, e, Nat.le_trans h1 k1, Nat.lt_of_lt_of_le k2 h2, h3⟩⟩
theorem RowN.elsQ {Q : Nat → Prop} (h : RowN E T w B U A n c l) (hQ : ∀ b, B ≤ b → b < U → Q b) : ElsQ E w Q A l := fun h0 => by
  obtain ⟨g, tl, e, h1, h2, h3⟩ := h.row (by rw [← h.len]; exact h0)
  subst e
  obtain ⟨ad, e2, hb, hc⟩ := h3.els h0
  obtain rfl := Option.some.inj e2
  exact ⟨_, rfl, hQ g h1 h2, hb, hc⟩
end
end Go.Proofs.Ytdigfbgjefffiaa.Sh
