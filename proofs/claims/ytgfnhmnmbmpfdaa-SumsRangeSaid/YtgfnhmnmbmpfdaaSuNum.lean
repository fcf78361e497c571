/-
  The register's steps as numbers. Pure.
-/
import Derived.Test.YtgfnhmnmbmpfdaaSuBurst
namespace Go.Proofs.Ytgfnhmnmbmpfdaa.Sh
open Go Go.RowKit
set_option linter.unusedVariables false
set_option linter.unusedSimpArgs false
/-- The n lowest bits of a byte, the highest first. -/
def lowB (x : UInt8) : Nat → List Bool
  | 0 => []
  | n + 1 => x.toNat.testBit n :: lowB x n
theorem bitsB_low (x : UInt8) : bitsB x = lowB x 8 := rfl
theorem runS_low (v : Reg) (x : UInt8) (n : Nat) : runS v (lowB x (n + 1)) = runS (stepS v (x.toNat.testBit n)) (lowB x n) := rfl
theorem shl_num (v : Reg) : (v <<< 1).toNat = v.toNat * 2 % 65536 := by
  rw [BitVec.toNat_shiftLeft, Nat.shiftLeft_eq]
theorem stepS_num (v : Reg) (b : Bool) : (stepS v b).toNat = if (v.msb ^^ b) then (v.toNat * 2 % 65536) ^^^ 4129 else v.toNat * 2 % 65536 := by
  unfold stepS
  split
  · rw [BitVec.toNat_xor, shl_num]; rfl
  · rw [BitVec.toNat_xor, shl_num]; exact Nat.xor_zero _
theorem top_num (v : Reg) : v.toNat / 32768 = v.msb.toNat := by
  rw [BitVec.msb_eq_decide]
  have := v.isLt
  by_cases h : 2 ^ (16 - 1) ≤ v.toNat
  · rw [decide_eq_true h]; simp; omega
  · rw [decide_eq_false h]; simp; omega
theorem bit_num (x m : Nat) : x / 2 ^ m % 2 = (x.testBit m).toNat := (Nat.toNat_testBit x m).symm
theorem div_cast (x m : Nat) : ((x : Int) / 2 ^ m) = ((x / 2 ^ m : Nat) : Int) := by norm_cast
/-! ### the program's -/
theorem bitP (x : UInt8) (m : Nat) : bits .and .u8 ((x.toNat : Int) / 2 ^ m) 1 = ((x.toNat.testBit m).toNat : Int) := by
  have h : x.toNat / 2 ^ m < 256 := Nat.lt_of_le_of_lt (Nat.div_le_self _ _) (lt8 x)
  rw [div_cast, show (1 : Int) = ((1 : Nat) : Int) from rfl, u8_and_nat _ _ h (by omega), Nat.and_one_is_mod, bit_num]
theorem flagP (a b : Bool) : (bits .xor .u16 (a.toNat : Int) (IntKind.u16.wrap (b.toNat : Int)) == 1) = (a ^^ b) := by
  cases a <;> cases b <;> decide
theorem topP (v : Reg) : (v.toNat : Int) / 32768 = (v.msb.toNat : Int) := by rw [← top_num]; omega
theorem isP (v : Reg) (x : UInt8) (m : Nat) : (bits .xor .u16 ((v.toNat : Int) / 32768) (IntKind.u16.wrap (bits .and .u8 ((x.toNat : Int) / 2 ^ m) 1)) == 1) = (v.msb ^^ x.toNat.testBit m) := by
  rw [bitP, topP, flagP]
theorem is7P (v : Reg) (x : UInt8) : (bits .xor .u16 ((v.toNat : Int) / 32768) (IntKind.u16.wrap (bits .and .u8 ((x.toNat : Int) / 128) 1)) == 1) = (v.msb ^^ x.toNat.testBit 7) := isP v x 7
theorem nilP {v : Reg} {b : Bool} (h : (v.msb ^^ b) = false) : IntKind.u16.wrap ((v.toNat : Int) * 2) = ((stepS v b).toNat : Int) := by
  rw [stepS_num, h, IntKind.wrap_u16]
  simp
theorem oneP {v : Reg} {b : Bool} (h : (v.msb ^^ b) = true) : bits .xor .u16 (IntKind.u16.wrap ((v.toNat : Int) * 2)) 4129 = ((stepS v b).toNat : Int) := by
  rw [stepS_num, h, IntKind.wrap_u16, if_pos rfl, ← u16_xor_nat _ _ (Nat.mod_lt _ (by omega)) (by omega)]
  congr 1
end Go.Proofs.Ytgfnhmnmbmpfdaa.Sh
