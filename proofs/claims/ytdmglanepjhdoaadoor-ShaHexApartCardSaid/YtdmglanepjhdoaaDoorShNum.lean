/-
  Words of 32 bits: the model's operations on them, and those of numbers below 2 to the 32, are the ones of UInt32. Plain lemmas; nothing of the program.
-/
import Derived.Test.YtdmglanepjhdoaaDoorShMath
import Derived.Laws.BitsAllLaws
import Derived.Laws.BitsLemmas
import Derived.WalkKit
namespace Go.Proofs.YtdmglanepjhdoaaDoor.Sh
open Go

theorem lt32 (x : UInt32) : x.toNat < 4294967296 := x.toNat_lt
theorem lt8 (x : UInt8) : x.toNat < 256 := x.toNat_lt

theorem rotr_nat (x : UInt32) (n : Nat) (h0 : 0 < n) (hn : n < 32) :
    (rotr x n).toNat = (x.toNat / 2 ^ n) ||| (x.toNat * 2 ^ (32 - n) % 4294967296) := by
  unfold rotr
  rw [UInt32.toNat_or, UInt32.toNat_shiftRight, UInt32.toNat_shiftLeft]
  have h1 : (UInt32.ofNat n).toNat = n := by rw [UInt32.toNat_ofNat']; exact Nat.mod_eq_of_lt (by omega)
  have h2 : (UInt32.ofNat (32 - n)).toNat = 32 - n := by rw [UInt32.toNat_ofNat']; exact Nat.mod_eq_of_lt (by omega)
  rw [h1, h2, Nat.mod_eq_of_lt hn, Nat.mod_eq_of_lt (show 32 - n < 32 by omega), Nat.shiftRight_eq_div_pow, Nat.shiftLeft_eq]

theorem rot_u32 (x : UInt32) (n : Nat) (h0 : 0 < n) (hn : n < 32) :
    bits .or .u32 ((x.toNat : Int) / 2 ^ n) ((x.toNat : Int) * 2 ^ (32 - n) % 4294967296) = ((rotr x n).toNat : Int) := by
  have hx := lt32 x
  have e1 : ((x.toNat : Int) / 2 ^ n) = ((x.toNat / 2 ^ n : Nat) : Int) := by simp
  have e2 : ((x.toNat : Int) * 2 ^ (32 - n) % 4294967296) = ((x.toNat * 2 ^ (32 - n) % 4294967296 : Nat) : Int) := by simp
  rw [e1, e2, u32_or_nat _ _ (Nat.lt_of_le_of_lt (Nat.div_le_self _ _) hx) (Nat.mod_lt _ (by omega)), rotr_nat x n h0 hn]

/-- Turned, as numbers below 2 to the 32 are turned by a sum. -/
theorem rot_sum (x : UInt32) (n : Nat) (h0 : 0 < n) (hn : n < 32) : (x.toNat / 2 ^ n + x.toNat * 2 ^ (32 - n)) % 4294967296 = (rotr x n).toNat := by
  rw [rotr_nat x n h0 hn]
  have hx := lt32 x
  have hp : (2 : Nat) ^ n * 2 ^ (32 - n) = 4294967296 := by rw [← Nat.pow_add, show n + (32 - n) = 32 by omega]
  have hd : x.toNat / 2 ^ n < 2 ^ (32 - n) := by
    apply Nat.div_lt_of_lt_mul
    rw [hp]
    exact hx
  have hm : x.toNat * 2 ^ (32 - n) % 4294967296 = 2 ^ (32 - n) * (x.toNat % 2 ^ n) := by
    rw [Nat.mul_comm x.toNat, ← hp, Nat.mul_comm (2 ^ n), Nat.mul_mod_mul_left]
  rw [Nat.add_mod, hm, Nat.or_comm, Nat.mod_eq_of_lt (Nat.lt_of_le_of_lt (Nat.div_le_self _ _) hx)]
  have hmod : x.toNat % 2 ^ n < 2 ^ n := Nat.mod_lt _ (Nat.two_pow_pos n)
  rw [← Nat.two_pow_add_eq_or_of_lt hd, Nat.add_comm]
  refine Nat.mod_eq_of_lt ?_
  have : 2 ^ (32 - n) * (x.toNat % 2 ^ n) + 2 ^ (32 - n) ≤ 4294967296 := by
    rw [← hp, ← Nat.mul_succ, Nat.mul_comm (2 ^ n)]
    exact Nat.mul_le_mul_left _ hmod
  omega

theorem add32 (x y : UInt32) : ((x + y).toNat : Int) = ((x.toNat : Int) + y.toNat) % 4294967296 := by
  rw [UInt32.toNat_add]; simp
theorem i64_and_mask (n : Nat) (hn : n < 9223372036854775808) : bits .and .i64 (n : Int) 4294967295 = ((n % 4294967296 : Nat) : Int) := by
  have ho : ∀ a : Nat, a < 9223372036854775808 → (BitVec.ofInt 64 (a : Int)).toNat = a := fun a ha => by
    rw [BitVec.ofInt_natCast, BitVec.toNat_ofNat]; exact Nat.mod_eq_of_lt (by omega)
  have h4 := ho 4294967295 (by omega)
  show IntKind.i64.wrap ((BitVec.ofInt 64 (n : Int) &&& BitVec.ofInt 64 ((4294967295 : Nat) : Int)).toNat : Int) = _
  rw [BitVec.toNat_and, ho n hn, h4, show (4294967295 : Nat) = 2 ^ 32 - 1 from rfl, Nat.and_two_pow_sub_one_eq_mod, IntKind.wrap_i64]
  have : n % 2 ^ 32 < 2 ^ 32 := Nat.mod_lt _ (by omega)
  omega

theorem turn_lt (x : UInt32) (n : Nat) (h0 : 0 < n) (_hn : n < 32) : x.toNat / 2 ^ n + x.toNat * 2 ^ (32 - n) < 9223372036854775808 := by
  have hx := lt32 x
  have h1 : x.toNat / 2 ^ n ≤ x.toNat / 2 ^ 1 := Nat.div_le_div_left (Nat.pow_le_pow_right (by omega) (by omega)) (by omega)
  have h2 : x.toNat * 2 ^ (32 - n) ≤ 4294967295 * 2 ^ 31 := Nat.mul_le_mul (by omega) (Nat.pow_le_pow_right (by omega) (by omega))
  generalize x.toNat / 2 ^ n = a at *
  generalize x.toNat * 2 ^ (32 - n) = b at *
  omega
theorem wrap64_nat (n : Nat) (h : n < 9223372036854775808) : Go.RowKit.wrap64 (n : Int) = n := by
  unfold Go.RowKit.wrap64
  omega
theorem turn_arg (x : UInt32) (n : Nat) (h0 : 0 < n) (hn : n < 32) :
    Go.RowKit.wrap64 ((x.toNat : Int) / 2 ^ n + Go.RowKit.wrap64 ((x.toNat : Int) * 2 ^ (32 - n))) = ((x.toNat / 2 ^ n + x.toNat * 2 ^ (32 - n) : Nat) : Int) := by
  have h := turn_lt x n h0 hn
  have e1 : ((x.toNat : Int) / 2 ^ n) = ((x.toNat / 2 ^ n : Nat) : Int) := by simp
  have e2 : ((x.toNat : Int) * 2 ^ (32 - n)) = ((x.toNat * 2 ^ (32 - n) : Nat) : Int) := by simp
  rw [e1, e2, wrap64_nat (x.toNat * 2 ^ (32 - n)) (Nat.lt_of_le_of_lt (Nat.le_add_left _ _) h), ← Int.natCast_add, wrap64_nat _ h]

theorem u_and (x y : UInt32) : bits .and .u32 (x.toNat : Int) (y.toNat : Int) = ((x &&& y).toNat : Int) := by
  rw [u32_and_nat _ _ (lt32 x) (lt32 y), UInt32.toNat_and]
theorem u_or (x y : UInt32) : bits .or .u32 (x.toNat : Int) (y.toNat : Int) = ((x ||| y).toNat : Int) := by
  rw [u32_or_nat _ _ (lt32 x) (lt32 y), UInt32.toNat_or]
theorem u_xor (x y : UInt32) : bits .xor .u32 (x.toNat : Int) (y.toNat : Int) = ((x ^^^ y).toNat : Int) := by
  rw [u32_xor_nat _ _ (lt32 x) (lt32 y), UInt32.toNat_xor]
theorem u_not (x : UInt32) : bits .xor .u32 IntKind.u32.max (x.toNat : Int) = ((~~~x).toNat : Int) := by
  have h : IntKind.u32.max = (((-1 : UInt32)).toNat : Int) := by decide
  rw [h, u_xor]
  have e : -1 ^^^ x = ~~~x := by
    apply UInt32.toNat_inj.1
    apply Nat.eq_of_testBit_eq
    intro i
    rw [UInt32.toNat_xor, UInt32.toNat_not, Nat.testBit_xor, show ((-1 : UInt32)).toNat = 2 ^ 32 - 1 from rfl, Nat.testBit_two_pow_sub_one,
      show UInt32.size - 1 - x.toNat = 2 ^ 32 - (x.toNat + 1) from by have := lt32 x; simp only [UInt32.size]; omega, Nat.testBit_two_pow_sub_succ (lt32 x)]
    by_cases hi : i < 32
    · simp [hi]
    · have : x.toNat.testBit i = false := Nat.testBit_lt_two_pow (Nat.lt_of_lt_of_le (lt32 x) (Nat.pow_le_pow_right (n := 2) (by omega) (by omega : 32 ≤ i)))
      simp [hi, this]
  rw [e]
theorem sum2 (x y : UInt32) : ((x.toNat : Int) + y.toNat) % 4294967296 = ((x + y).toNat : Int) := (add32 x y).symm
theorem sum5 (a b c d e : UInt32) : ((a.toNat : Int) + b.toNat + c.toNat + d.toNat + e.toNat) % 4294967296 = ((a + b + c + d + e).toNat : Int) := by
  simp only [UInt32.toNat_add]
  omega
theorem u_wrap (x y : UInt32) : IntKind.u32.wrap ((x.toNat : Int) + (y.toNat : Int)) = ((x + y).toNat : Int) := by
  rw [IntKind.wrap_u32', add32]

theorem toU32 (x : UInt8) : (x.toUInt32).toNat = x.toNat := UInt8.toNat_toUInt32 x
theorem shl_u32 (x : UInt8) (n : Nat) (m : Int) (hn : n < 32) (hm : m = 2 ^ n) : IntKind.u32.wrap (IntKind.u32.wrap (x.toNat : Int) * m) = ((x.toUInt32 <<< UInt32.ofNat n).toNat : Int) := by
  subst hm
  have h1 : (UInt32.ofNat n).toNat = n := by rw [UInt32.toNat_ofNat']; exact Nat.mod_eq_of_lt (by omega)
  have hx := lt8 x
  rw [UInt32.toNat_shiftLeft, h1, toU32, Nat.mod_eq_of_lt hn, Nat.shiftLeft_eq, IntKind.wrap_u32', IntKind.wrap_u32']
  have : (x.toNat : Int) % 4294967296 = x.toNat := by omega
  rw [this]
  simp
theorem word4_val (a b c d : UInt8) :
    bits .or .u32 (bits .or .u32 (bits .or .u32 (IntKind.u32.wrap (IntKind.u32.wrap (a.toNat : Int) * 16777216)) (IntKind.u32.wrap (IntKind.u32.wrap (b.toNat : Int) * 65536)))
      (IntKind.u32.wrap (IntKind.u32.wrap (c.toNat : Int) * 256))) (IntKind.u32.wrap (d.toNat : Int)) = ((word4 a b c d).toNat : Int) := by
  have hd : IntKind.u32.wrap (d.toNat : Int) = (d.toUInt32.toNat : Int) := by
    have := lt8 d
    rw [IntKind.wrap_u32', toU32]; omega
  rw [shl_u32 a 24 16777216 (by omega) (by decide), shl_u32 b 16 65536 (by omega) (by decide), shl_u32 c 8 256 (by omega) (by decide), hd, u_or, u_or, u_or]
  rfl

theorem sum4w (a b c d : UInt32) : IntKind.u32.wrap (IntKind.u32.wrap (IntKind.u32.wrap ((a.toNat : Int) + b.toNat) + c.toNat) + d.toNat) = ((a + b + c + d).toNat : Int) := by
  rw [u_wrap, u_wrap, u_wrap]
theorem shr_u32 (x : UInt32) (n : Nat) (m : Int) (hn : n < 32) (hm : m = 2 ^ n) : (x.toNat : Int) / m = ((x >>> UInt32.ofNat n).toNat : Int) := by
  subst hm
  have h1 : (UInt32.ofNat n).toNat = n := by rw [UInt32.toNat_ofNat']; exact Nat.mod_eq_of_lt (by omega)
  rw [UInt32.toNat_shiftRight, h1, Nat.mod_eq_of_lt hn, Nat.shiftRight_eq_div_pow]
  simp
theorem sig0_val (x : UInt32) : bits .xor .u32 (bits .xor .u32 ((rotr x 7).toNat : Int) ((rotr x 18).toNat : Int)) ((x.toNat : Int) / 8) = ((sig0 x).toNat : Int) := by
  rw [u_xor, shr_u32 x 3 8 (by omega) (by decide), u_xor]; rfl
theorem sig1_val (x : UInt32) : bits .xor .u32 (bits .xor .u32 ((rotr x 17).toNat : Int) ((rotr x 19).toNat : Int)) ((x.toNat : Int) / 1024) = ((sig1 x).toNat : Int) := by
  rw [u_xor, shr_u32 x 10 1024 (by omega) (by decide), u_xor]; rfl

end Go.Proofs.YtdmglanepjhdoaaDoor.Sh
