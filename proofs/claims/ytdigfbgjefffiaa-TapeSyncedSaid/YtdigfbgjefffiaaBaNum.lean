/-
  Numbers as elements of rows.
-/
import Derived.Test.YtdigfbgjefffiaaBaEnc
namespace Go.Proofs.Ytdigfbgjefffiaa.Sh
open Go Go.RowKit

set_option linter.unusedSimpArgs false
set_option linter.unusedVariables false
def encN : Enc Int := ⟨1, fun n => [.int .i64 n], by omega, fun _ => rfl, fun x u hu => by simp at hu; rcases hu with rfl; rfl⟩
theorem slN : SlN Try.prog 34 3 1 8 := by
  obtain ⟨i0, hi0, hz0, hz1, hz2⟩ := info_parts (P := Try.prog) (e := 3) (z := .int .i64 0) (size := 1) (bytes := 8) (by kernel_rfl)
  exact ⟨Try.underlying34, ⟨i0, _, hi0, hz0, hz1, hz2, rfl⟩, by omega⟩
theorem Els.num {w : World} {B : Nat} {A : Option Addr} {l : List Int} {j : Nat} {n : Int} (h : Els encN w B A l) (hj : l[j]? = some n) : ∃ ad, A = some ad ∧ ad.block < B ∧ w.cell? (ad.add j) = some (.int .i64 n) := by
  obtain ⟨ad, aj, e, hb, ea, _, h0, _⟩ := h.get hj
  refine ⟨ad, e, hb, ?_⟩
  have := h0 _ rfl
  rw [← ea, show encN.k = 1 from rfl, Nat.mul_one] at this
  exact this
end Go.Proofs.Ytdigfbgjefffiaa.Sh
