/-
  IDs in blocks of their own; their order; the document's own Before.
-/
import Derived.Test.YtkggagnaiiemlaaDoorCrRefRd
namespace Go.Proofs.YtkggagnaiiemlaaDoor.Sh
open Go Go.RowKit

/-- An ID in a block of its own. -/
def IdAt (w : World) (g : Nat) (d q : Int) : Prop := w.heap[g]? = some (.cells #[.int .i64 d, .int .i64 q] 23 (0, 0))
theorem IdAt.new (w : World) (d q : Int) : IdAt (w.alloc (.cells #[.int .i64 d, .int .i64 q] 23)) w.heap.size d q := heap_alloc_new w _
theorem IdAt.c0 {w : World} {g : Nat} {d q : Int} (h : IdAt w g d q) : w.cell? ⟨g, 0, none⟩ = some (.int .i64 d) := by rw [cell_of_row w g 0 _ _ (0, 0) h]; rfl
theorem IdAt.c1 {w : World} {g : Nat} {d q : Int} (h : IdAt w g d q) : w.cell? ⟨g, 1, none⟩ = some (.int .i64 q) := by rw [cell_of_row w g 1 _ _ (0, 0) h]; rfl
theorem IdAt.lt {w : World} {g : Nat} {d q : Int} (h : IdAt w g d q) : g < w.heap.size := (Array.getElem?_eq_some_iff.1 h).1
theorem IdAt.kept {w w' : World} {g : Nat} {d q : Int} (h : IdAt w g d q) (hb : Below w.heap.size w w') : IdAt w' g d q := (hb.block g h.lt).trans h
theorem below_id (w : World) (d q : Int) : Below w.heap.size w (w.alloc (.cells #[.int .i64 d, .int .i64 q] 23)) := (Below.refl _ _).alloc (Nat.le_refl _) _
theorem below_id2 (w : World) (d q d' q' : Int) : Below w.heap.size w ((w.alloc (.cells #[.int .i64 d, .int .i64 q] 23)).alloc (.cells #[.int .i64 d', .int .i64 q'] 23)) :=
  (below_id w d q).trans ((below_id _ d' q').mono (by rw [World.size_alloc]; exact Nat.le_succ _))
/-- The order of IDs. -/
def beforeI (d q d' q' : Int) : Bool := decide (d < d' ∨ (d = d' ∧ q < q'))
theorem beforeI_trans {d q d' q' d'' q'' : Int} (h1 : beforeI d q d' q' = true) (h2 : beforeI d' q' d'' q'' = true) : beforeI d q d'' q'' = true := by
  unfold beforeI at *
  simp only [decide_eq_true_eq] at *
  omega
theorem refBefore_any (d q d' q' : Int) (w : World) : Calls Tryd.prog 31 #[.agg #[.int .i64 d, .int .i64 q], .agg #[.int .i64 d', .int .i64 q']] w fun er w' => er = .returned (.bool (beforeI d q d' q')) ∧ Below w.heap.size w w' := by
  by_cases h : d = d'
  · subst h
    have hb : (d == d) = true := by simp
    by_cases hq : q < q'
    · have HE : Hid (beforeI d q d q' = true) := hid (by unfold beforeI; simp; omega)
      go_enter Tryd.func31, Tryd.ntmps31
      go_wp2
      go_ret
      exact ⟨by rw [HE.out]; rfl, below_id2 _ _ _ _ _⟩
    · have HE : Hid (beforeI d q d q' = false) := hid (by unfold beforeI; simp; omega)
      go_enter Tryd.func31, Tryd.ntmps31
      go_wp2
      go_ret
      exact ⟨by rw [HE.out]; rfl, below_id2 _ _ _ _ _⟩
  · have hb : (d == d') = false := beq_eq_false_iff_ne.2 h
    by_cases hq : d < d'
    · have HE : Hid (beforeI d q d' q' = true) := hid (by unfold beforeI; simp; omega)
      go_enter Tryd.func31, Tryd.ntmps31
      go_wp2
      go_ret
      exact ⟨by rw [HE.out]; rfl, below_id2 _ _ _ _ _⟩
    · have HE : Hid (beforeI d q d' q' = false) := hid (by unfold beforeI; simp; omega)
      go_enter Tryd.func31, Tryd.ntmps31
      go_wp2
      go_ret
      exact ⟨by rw [HE.out]; rfl, below_id2 _ _ _ _ _⟩

end Go.Proofs.YtkggagnaiiemlaaDoor.Sh
