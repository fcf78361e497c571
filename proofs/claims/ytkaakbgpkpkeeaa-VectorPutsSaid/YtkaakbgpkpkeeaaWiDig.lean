/-
  digits: how many digits a number has.
-/
import Derived.Test.YtkaakbgpkpkeeaaBaStr
import Derived.Test.YtkaakbgpkpkeeaaWiMath
namespace Go.Proofs.Ytkaakbgpkpkeeaa.Sh
open Go Go.RowKit

theorem digits_nat (n : Nat) (hn : n < 9223372036854775808) (w : World) :
    Calls Try.prog 51 #[.int .i64 (n : Int)] w fun e w' => e = .returned (.int .i64 ((be n).length : Int)) ∧ w = w' := by
  obtain ⟨L, hL⟩ : ∃ L, (be n).length = L := ⟨_, rfl⟩
  rw [hL]
  have hL8 : L ≤ 8 := by rw [← hL]; exact be_len8 hn
  have HL := hid hL
  clear hL
  go_enter Try.func51, Try.ntmps51
  go_wp2
  go_loopw [0, 3] (fun x y wr => ∃ m k : Nat, x = .int .i64 m ∧ y = .int .i64 k ∧ m < 9223372036854775808 ∧ k ≤ L ∧ Hid (k + (be m).length = L) ∧ w = wr) (fun x _ _ => (intOf x).toNat)
  case atStart => exact ⟨n, 0, rfl, rfl, hn, by omega, hid (by rw [HL.out]; omega), rfl⟩
  case round =>
    obtain ⟨m, k, rfl, rfl, hm, hk, hs, rfl⟩ := hrel
    by_cases hpos : 0 < m
    · have hz : (0 : Int) < (m : Int) := by omega
      have HB := hid (be_len_step hpos)
      have hk2 : k + 1 ≤ L := by have := hs.out; have := HB.out; omega
      have HS : Hid (k + 1 + (be (m / 256)).length = L) := by have := hs.out; have := HB.out; exact hid (by omega)
      go_wp2
      go_roundw
      case rel => exact ⟨m / 256, k + 1, by go_num, by go_num, by omega, hk2, HS, trivial⟩
      case measure => simp [intOf]; omega
    · obtain rfl : m = 0 := by omega
      have HK : Hid (k = L) := by have := hs.out; rw [be_zero] at this; exact hid (by simpa using this)
      go_wp2
      go_ret
      exact ⟨by rw [HK.out]; rfl, rfl⟩
theorem digits_neg (n : Int) (hn : n < 0) (w : World) :
    Calls Try.prog 51 #[.int .i64 n] w fun e w' => e = .returned (.int .i64 ((be n.toNat).length : Int)) ∧ w = w' := by
  rw [show n.toNat = 0 by omega, be_zero]
  have h0 : ¬ (0 < n) := by omega
  go_enter Try.func51, Try.ntmps51
  go_wp2
  refine wp_loop_rounds 1 ?_
  rw [rounds_succ]
  go_wp2
  go_ret
  exact ⟨rfl, rfl⟩
theorem digits_any (n : Int) (h0 : n < 9223372036854775808) (w : World) :
    Calls Try.prog 51 #[.int .i64 n] w fun e w' => e = .returned (.int .i64 ((be n.toNat).length : Int)) ∧ w = w' := by
  rcases Int.lt_or_le n 0 with h | h
  · exact digits_neg n h w
  · have := digits_nat n.toNat (by omega) w
    rwa [Int.toNat_of_nonneg h] at this
end Go.Proofs.Ytkaakbgpkpkeeaa.Sh
