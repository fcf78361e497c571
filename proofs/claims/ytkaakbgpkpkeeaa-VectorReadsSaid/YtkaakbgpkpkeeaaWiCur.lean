/-
  A cursor in memory: three cells of a block; Fail, Err, End, Place, New.
-/
import Derived.Test.YtkaakbgpkpkeeaaWiRef
namespace Go.Proofs.Ytkaakbgpkpkeeaa.Sh
open Go Go.RowKit

/-- A cursor at block g: its bytes' slice, its place, its error. -/
def CuRow (T : TypeId) (w : World) (g : Nat) (A : Option Addr) (n c p : Nat) (e : Int) : Prop := w.heap[g]? = some (.cells #[.slice A n c, .int .i64 (p : Int), .int .i64 e] T (0, 0))
theorem grown_set (w : World) (g k : Nat) (u : Value) : w.grownBy (w.setCell ⟨g, k, none⟩ u) (some g) :=
  ⟨rfl, rfl, rfl, by simp, fun i _ hne => Below.heap_setCell w ⟨g, k, none⟩ u i (fun e => hne (by rw [e]))⟩
theorem grown_drewN (w : World) (n : Nat) (r : Option Nat) : w.grownBy (w.drewN n) r := ⟨rfl, rfl, rfl, Nat.le_refl _, fun _ _ _ => rfl⟩
section
variable {T : TypeId} {w w' : World} {g n c p : Nat} {A : Option Addr} {e : Int}
theorem CuRow.c0 (h : CuRow T w g A n c p e) : w.cell? ⟨g, 0, none⟩ = some (.slice A n c) := by rw [cell_of_row w g 0 _ T (0, 0) h]; rfl
theorem CuRow.c1 (h : CuRow T w g A n c p e) : w.cell? ⟨g, 1, none⟩ = some (.int .i64 (p : Int)) := by rw [cell_of_row w g 1 _ T (0, 0) h]; rfl
theorem CuRow.c2 (h : CuRow T w g A n c p e) : w.cell? ⟨g, 2, none⟩ = some (.int .i64 e) := by rw [cell_of_row w g 2 _ T (0, 0) h]; rfl
theorem CuRow.f (h : CuRow T w g A n c p e) (k : Nat) : w.frozen? ⟨g, k, none⟩ = false := frozen_of_row w g k _ T h
theorem CuRow.lt (h : CuRow T w g A n c p e) : g < w.heap.size := (Array.getElem?_eq_some_iff.1 h).1
theorem CuRow.kept {r : Option Nat} (h : CuRow T w g A n c p e) (hg : w.grownBy w' r) (hne : r ≠ some g) : CuRow T w' g A n c p e := (hg.block g h.lt (fun e => hne e.symm)).trans h
theorem CuRow.below {B : Nat} (h : CuRow T w g A n c p e) (hb : Below B w w') (hg : g < B) : CuRow T w' g A n c p e := (hb.block g hg).trans h
theorem CuRow.drewN (h : CuRow T w g A n c p e) (k : Nat) : CuRow T (w.drewN k) g A n c p e := h
theorem CuRow.set1 (h : CuRow T w g A n c p e) (q : Nat) {z : Int} (hz : z = (q : Int)) : CuRow T (w.setCell ⟨g, 1, none⟩ (.int .i64 z)) g A n c q e := by
  subst hz
  exact heap_setCell_same w g 1 _ _ (.int .i64 (q : Int)) h
theorem CuRow.set2 (h : CuRow T w g A n c p e) (z : Int) : CuRow T (w.setCell ⟨g, 2, none⟩ (.int .i64 z)) g A n c p z :=
  heap_setCell_same w g 2 _ _ (.int .i64 z) h
end
theorem Byt.grown {w w' : World} {B : Nat} {A : Option Addr} {l : List UInt8} {r : Option Nat} (h : Byt w B A l) (hB : B ≤ w.heap.size) (hg : w.grownBy w' r) (hr : ∀ g, r = some g → B ≤ g) : Byt w' B A l :=
  h.keep fun q hq => hg.cell_far q (by omega) (fun e => by have := hr q.block e.symm; omega)

theorem fail_any (g : Nat) (A : Option Addr) (n c p : Nat) (e z : Int) (w : World) (h : CuRow 54 w g A n c p e) :
    Calls Try.prog 44 #[.pointer (some ⟨g, 0, none⟩), .int .i64 z] w fun er w' => er = .returned (.tuple #[]) ∧ CuRow 54 w' g A n c p (if e = 0 then z else e) ∧ w.grownBy w' (some g) := by
  have h2 := h.c2
  have f2 := h.f 2
  have H := hid h
  clear h
  go_enter Try.func44, Try.ntmps44
  by_cases he : e = 0
  · subst he
    go_wp2
    go_end0
    exact ⟨rfl, by first | exact H.out.set2 z | (rw [if_pos rfl]; exact H.out.set2 z), grown_set _ _ _ _⟩
  · go_wp2
    go_end0
    exact ⟨rfl, by first | exact H.out | (rw [if_neg he]; exact H.out), World.grownBy.refl _ _⟩
theorem refFail_any (g : Nat) (A : Option Addr) (n c p : Nat) (e z : Int) (w : World) (h : CuRow 42 w g A n c p e) :
    Calls Try.prog 46 #[.pointer (some ⟨g, 0, none⟩), .int .i64 z] w fun er w' => er = .returned (.tuple #[]) ∧ CuRow 42 w' g A n c p (if e = 0 then z else e) ∧ w.grownBy w' (some g) := by
  have h2 := h.c2
  have f2 := h.f 2
  have H := hid h
  clear h
  go_enter Try.func46, Try.ntmps46
  by_cases he : e = 0
  · subst he
    go_wp2
    go_end0
    exact ⟨rfl, by first | exact H.out.set2 z | (rw [if_pos rfl]; exact H.out.set2 z), grown_set _ _ _ _⟩
  · go_wp2
    go_end0
    exact ⟨rfl, by first | exact H.out | (rw [if_neg he]; exact H.out), World.grownBy.refl _ _⟩
theorem err_any (g : Nat) (A : Option Addr) (n c p : Nat) (e : Int) (w : World) (h : CuRow 54 w g A n c p e) :
    Calls Try.prog 32 #[.pointer (some ⟨g, 0, none⟩)] w fun er w' => er = .returned (.int .i64 e) ∧ w = w' := by
  have h2 := h.c2
  clear h
  go_enter Try.func32, Try.ntmps32
  go_wp2
  go_ret
  exact ⟨rfl, rfl⟩
theorem place_any (g : Nat) (A : Option Addr) (n c p : Nat) (e : Int) (w : World) (h : CuRow 54 w g A n c p e) :
    Calls Try.prog 31 #[.pointer (some ⟨g, 0, none⟩)] w fun er w' => er = .returned (.int .i64 (p : Int)) ∧ w = w' := by
  have h2 := h.c1
  clear h
  go_enter Try.func31, Try.ntmps31
  go_wp2
  go_ret
  exact ⟨rfl, rfl⟩
def endOf (n p : Nat) (e : Int) : Int := if e = 0 ∧ p < n then 2 else e
theorem own_far {w : World} {B n c : Nat} {A : Option Addr} {l : List UInt8} (h : OwnB w B (.slice A n c) n l) : ∀ ad, A = some ad → B ≤ ad.block := by
  rintro ad rfl
  rcases h.2 with ⟨hv, _⟩ | ⟨g, cap, cur, hv, hB, _⟩
  · simp at hv
  · injection hv with h1 _ _
    injection h1 with h1
    subst h1
    exact hB

theorem new_any (A : Option Addr) (l : List UInt8) (n c : Nat) (hn : l.length = n) (hL : n ≤ 1099511627776) (w : World) (hb : Byt w w.heap.size A l) :
    Calls Try.prog 28 #[.slice A n c] w fun er w' => ∃ g A' c', er = .returned (.pointer (some ⟨g, 0, none⟩)) ∧ CuRow 54 w' g A' n c' 0 0 ∧ n ≤ c' ∧ c' ≤ 9223372036854775807 ∧ Byt w' g A' l ∧
      w.heap.size ≤ g ∧ (∀ ad, A' = some ad → w.heap.size ≤ ad.block) ∧ Below w.heap.size w w' := by
  have HN := hid hn
  have y1 := hb.reads
  clear hn
  go_enter Try.func28, Try.ntmps28
  go_wp2_with (at_builtin; refine wpList_appB rfl _ (.tmp 3) rfl w.heap.size (.slice none 0 0) 0 [] (OwnB.nil _ _) rfl A n c l rfl HN.out y1 (by omega) (Nat.le_refl _) w (Below.refl _ _) n (by omega) ?_; intro A2 c2 w2 o2 _ b2)
  have k1 := OwnB.cap o2
  have k2 := OwnB.cap_max o2
  have k3 := own_far o2
  have k4 := o2.byt
  go_ret
  refine ⟨w2.heap.size, A2, c2, rfl, heap_alloc_new w2 _, k1, k2, ?_, b2.size, k3, b2.alloc b2.size _⟩
  exact k4.keep fun q hq => ((Below.refl w2.heap.size w2).alloc (Nat.le_refl _) _).cell hq
end Go.Proofs.Ytkaakbgpkpkeeaa.Sh
