/-
  The small functions, each by its contract: rotated; word, moved, turned, digit, Same of the document's own answers; few of the statements.
-/
import Derived.Test.YtdmglanepjhdoaaDoorShMem
import Derived.Test.YtdmglanepjhdoaaDoorShNum
import Derived.WalkSpells
import Derived.WalkLawsBesides
import Derived.Deep.QuietTactic
import Derived.BigQuiet
namespace Go.Proofs.YtdmglanepjhdoaaDoor.Sh
open Go Go.RowKit

theorem ret_int {k : IntKind} {a b : Int} (h : a = b) : Ending.returned (.int k a) = .returned (.int k b) := by rw [h]

set_option maxHeartbeats 400000 in
theorem rotated_any (x : UInt32) (n : Nat) (h0 : 0 < n) (hn : n < 32) (w : World) :
    Calls Tryd.prog 43 #[.int .u32 x.toNat, .int .i64 n] w fun e w' => e = .returned (.int .u32 (rotr x n).toNat) ∧ ∃ k, w' = w.drewN k := by
  have hx := lt32 x
  go_enter Tryd.func43, Tryd.ntmps43
  go_wp2
  go_quiet (fail)
  go_wp2
  go_ret
  exact ⟨ret_int (rot_u32 x n h0 hn), _, rfl⟩

set_option maxHeartbeats 400000 in
theorem word_any (z : Int) (h0 : 0 ≤ z) (h1 : z < 9223372036854775808) (w : World) :
    Calls Tryd.prog 40 #[.int .i64 z] w fun e w' => e = .returned (.int .i64 (z % 4294967296)) ∧ w = w' := by
  go_enter Tryd.func40, Tryd.ntmps40
  go_wp2
  go_ret
  refine ⟨ret_int ?_, rfl⟩
  obtain ⟨n, rfl⟩ := Int.eq_ofNat_of_zero_le h0
  rw [i64_and_mask n (by omega)]
  rfl

set_option maxHeartbeats 400000 in
theorem moved_any (n k : Nat) (_hn : n < 9223372036854775808) (hk : k < 64) (w : World) :
    Calls Tryd.prog 33 #[.int .i64 n, .int .i64 k] w fun e w' => e = .returned (.int .i64 (n / 2 ^ k : Nat)) ∧ w = w' := by
  go_enter Tryd.func33, Tryd.ntmps33
  go_wp2
  go_ret
  exact ⟨ret_int (by simp), rfl⟩

set_option maxHeartbeats 400000 in
theorem digit_any (n : Nat) (hn : n < 16) (w : World) :
    Calls Tryd.prog 34 #[.int .i64 n] w fun e w' => e = .returned (.int .u8 (hexDigit n).toNat) ∧ w = w' := by
  go_enter Tryd.func34, Tryd.ntmps34
  go_wp2
  all_goals go_ret
  · have h : (n : Int) < 10 := by assumption
    refine ⟨ret_int ?_, rfl⟩
    unfold hexDigit
    rw [if_pos (by omega), UInt8.toNat_ofNat', Nat.mod_eq_of_lt (by omega)]
    omega
  · have h : 10 ≤ (n : Int) := by assumption
    refine ⟨ret_int ?_, rfl⟩
    unfold hexDigit
    rw [if_neg (by omega), UInt8.toNat_ofNat', Nat.mod_eq_of_lt (by omega)]
    omega

theorem quiet_left {P : Program} {f : FuncId} {args : Array Value} {w : World} {n : Nat} {v : Value}
    (h : Calls P f args (w.drewN n) fun e w' => e = .returned v ∧ w.drewN n = w') : Calls P f args (w.drewN n) fun e w'' => e = .returned v ∧ ∃ m, w'' = w.drewN m :=
  h.mono fun _ _ ⟨he, hm⟩ => ⟨he, n, hm.symm⟩

set_option maxHeartbeats 400000 in
theorem turned_any (x : UInt32) (n : Nat) (h0 : 0 < n) (hn : n < 32) (w : World) :
    Calls Tryd.prog 39 #[.int .i64 x.toNat, .int .i64 n] w fun e w' => e = .returned (.int .i64 (rotr x n).toNat) ∧ ∃ k, w' = w.drewN k := by
  have hx := lt32 x
  go_enter Tryd.func39, Tryd.ntmps39
  go_wp2
  go_quiet ((first | (go_at_call 33; exact quiet_left (moved_any _ _ (by omega) (by omega) _)) | (go_at_call 40; rw [turn_arg x n h0 hn]; exact quiet_left (word_any _ (Int.natCast_nonneg _) (Int.ofNat_lt.2 (turn_lt x n h0 hn)) _))))
  go_wp2
  go_ret
  exact ⟨ret_int (by rw [← rot_sum x n h0 hn]; rfl), _, rfl⟩

set_option maxHeartbeats 400000 in
theorem few_any (A : Option Addr) (l : List UInt8) (c : Nat) (hc : l.length ≤ c) (hm : c ≤ 9223372036854775807) (w : World) :
    Calls Tryd.prog 14 #[.slice A l.length c] w fun e w' => e = .returned (.slice A (l.take 400).length c) ∧ w = w' := by
  have e1 : (l.take 400).length = min 400 l.length := List.length_take
  have E1 := hid e1
  clear e1
  go_enter Tryd.func14, Tryd.ntmps14
  go_wp2
  all_goals go_ret
  · have h : 400 < (l.length : Int) := by assumption
    rw [E1.out, Nat.min_eq_left (by omega)]
    exact ⟨rfl, rfl⟩
  · have h : (l.length : Int) ≤ 400 := by assumption
    rw [E1.out, Nat.min_eq_right (by omega)]
    exact ⟨rfl, rfl⟩
end Go.Proofs.YtdmglanepjhdoaaDoor.Sh
