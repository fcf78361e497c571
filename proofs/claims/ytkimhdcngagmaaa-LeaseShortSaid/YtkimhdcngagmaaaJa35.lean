/-
  Rows that may be written to, whatever they hold.
-/
import Derived.Test.YtkimhdcngagmaaaJa30
set_option linter.unusedVariables false
set_option linter.unusedSimpArgs false
namespace Go.Proofs.Ytkimhdcngagmaaa.Sh
open Go Go.RowKit

set_option linter.unusedSimpArgs false
set_option linter.unusedVariables false
/-- A row of n elements of k cells that may be written to, in a block from B on, below U. -/
def OpN (w : World) (T : TypeId) (k B U : Nat) (A : Option Addr) (n : Nat) : Prop := 0 < n → ∃ g, A = some ⟨g, 0, none⟩ ∧ B ≤ g ∧ g < U ∧ ∃ cs : Array Value, w.heap[g]? = some (.cells cs T (0, 0)) ∧ n * k ≤ cs.size
theorem OpN.nil (w : World) (T : TypeId) (k B U : Nat) (A : Option Addr) : OpN w T k B U A 0 := fun h => absurd h (by omega)
theorem OpN.set {w : World} {T : TypeId} {k B U n : Nat} {A : Option Addr} (h : OpN w T k B U A n) (g j : Nat) (u : Value) : OpN (w.setCell ⟨g, j, none⟩ u) T k B U A n := fun hn => by
  obtain ⟨g', e, h1, h2, cs, h3, h4⟩ := h hn
  by_cases hg : g = g'
  · subst hg
    exact ⟨_, e, h1, h2, _, heap_setCell_same w _ j _ _ u h3, by simpa using h4⟩
  · exact ⟨g', e, h1, h2, cs, (heap_setCell_other w ⟨g, j, none⟩ g' u (fun e => hg (by simpa using e.symm))).trans h3, h4⟩
theorem OpN.grew {w w' : World} {T : TypeId} {k B U n : Nat} {X : Nat → Prop} {A : Option Addr} (h : OpN w T k B U A n) (hg : Grew w w' X) (hx : ∀ b, B ≤ b → b < U → ¬ X b) : OpN w' T k B U A n := fun hn => by
  obtain ⟨g', e, h1, h2, cs, h3, h4⟩ := h hn
  exact ⟨g', e, h1, h2, cs, (hg.block g' (Array.getElem?_eq_some_iff.1 h3).1 (hx g' h1 h2)).trans h3, h4⟩
theorem OpN.below {w w' : World} {T : TypeId} {k B U n : Nat} {A : Option Addr} (h : OpN w T k B U A n) (hb : Below w.heap.size w w') : OpN w' T k B U A n := h.grew (X := fun _ => False) (Grew.of_below hb) (fun _ _ _ h => h)
theorem Own.opN {α : Type} {E : Enc α} {T : TypeId} {w : World} {B n c : Nat} {A : Option Addr} {l : List α} (h : Own (E := E) w B T (.slice A n c) l) (hl : l.length = n) {B' U : Nat} (hb : B' ≤ B) (hU : w.heap.size ≤ U) : OpN w T E.k B' U A n := fun hn => by
  obtain ⟨g, tl, e, h1, h2, h3, h4, h5⟩ := Own.rowE h hl hn
  refine ⟨g, e, by omega, Nat.lt_of_lt_of_le h2.lt hU, _, h2, ?_⟩
  rw [List.size_toArray, List.length_append, ev_length, hl, h5]
  exact Nat.mul_le_mul_right _ h3
end Go.Proofs.Ytkimhdcngagmaaa.Sh
