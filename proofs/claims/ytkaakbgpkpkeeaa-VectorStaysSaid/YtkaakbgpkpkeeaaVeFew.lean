/-
  The statements' own few.
-/
import Derived.Test.YtkaakbgpkpkeeaaVeRef2
namespace Go.Proofs.Ytkaakbgpkpkeeaa.Sh
open Go Go.RowKit

set_option linter.unusedSimpArgs false
set_option linter.unusedVariables false
theorem few10_any (A : Option Addr) (l : List Int) (n k : Nat) (hn : l.length = n) (hk : n ≤ k) (hk2 : k ≤ 9223372036854775807) (w : World) (h : Els encN w w.heap.size A l) :
    Calls Try.prog 10 #[.slice A n k] w fun e w' => ∃ m : Nat, e = .returned (.slice A m k) ∧ (l.take 20).length = m ∧ m ≤ 20 ∧ m ≤ k ∧ Els encN w w.heap.size A (l.take 20) ∧ w' = w := by
  by_cases h20 : 20 < n
  · have hN : (l.take 20).length = 20 := by rw [List.length_take]; omega
    have HY := hid (h.head (hi := 20))
    have h20' : (20 : Int) < (n : Int) := by omega
    have h20k : 20 ≤ k := by omega
    have HN := hid hN
    clear h hn hN
    go_enter Try.func10, Try.ntmps10
    go_wp2_with fail
    go_ret
    exact ⟨20, rfl, HN.out, Nat.le_refl _, h20k, HY.out, rfl⟩
  · have h20' : ¬ (20 : Int) < (n : Int) := by omega
    have ht : l.take 20 = l := List.take_of_length_le (by omega)
    have HT := hid ht
    have HN := hid hn
    have HY := hid h
    clear h hn ht
    go_enter Try.func10, Try.ntmps10
    go_wp2_with fail
    go_ret
    rw [HT.out]
    exact ⟨n, rfl, (by have := HN.out; omega), by omega, hk, HY.out, rfl⟩
end Go.Proofs.Ytkaakbgpkpkeeaa.Sh
