/-
  Words on memory for walks over bytes: a slice of bytes that reads as a list, nil let in; a row of the call's own that holds bytes. Plain lemmas; nothing of the program.
-/
import Derived.Test.YtaadmgbmaekicaaGreatDoorJn1
import Derived.Test.YtaadmgbmaekicaaGreatDoorJn10
import Derived.WalkKit
import Derived.Deep.Draws
import Derived.Deep.AppendLies
import Derived.Laws.CopyOwn
import Derived.Laws.IdiomStrings
import Derived.Lib.BufferRead
import Derived.Deep.MidRow
import Derived.Laws.BitsAllLaws
import Derived.Laws.BitsLemmas
import Derived.WalkSpells
import Derived.WalkLawsBesides
import Derived.Deep.QuietTactic
import Derived.BigQuiet
import Derived.Deep.RegionHeld3
import Derived.Test.YtaadmgbmaekicaaGreatDoorJn2
set_option linter.unusedVariables false
set_option linter.unusedSimpArgs false
namespace Go.Proofs.YtaadmgbmaekicaaGreatDoor.Sh
open Go Go.RowKit

section
variable {w w' : World} {B B' : Nat} {A : Option Addr} {l : List UInt8}
end

end Go.Proofs.YtaadmgbmaekicaaGreatDoor.Sh
/-
  Words of 32 bits: the model's operations on them, and those of numbers below 2 to the 32, are the ones of UInt32. Plain lemmas; nothing of the program.
-/
namespace Go.Proofs.YtaadmgbmaekicaaGreatDoor.Sh
open Go

theorem lt32 (x : UInt32) : x.toNat < 4294967296 := x.toNat_lt
theorem rotr_nat (x : UInt32) (n : Nat) (h0 : 0 < n) (hn : n < 32) :
    (rotr x n).toNat = (x.toNat / 2 ^ n) ||| (x.toNat * 2 ^ (32 - n) % 4294967296) := by
  unfold rotr
  rw [UInt32.toNat_or, UInt32.toNat_shiftRight, UInt32.toNat_shiftLeft]
  have h1 : (UInt32.ofNat n).toNat = n := by rw [UInt32.toNat_ofNat']; exact Nat.mod_eq_of_lt (by omega)
  have h2 : (UInt32.ofNat (32 - n)).toNat = 32 - n := by rw [UInt32.toNat_ofNat']; exact Nat.mod_eq_of_lt (by omega)
  rw [h1, h2, Nat.mod_eq_of_lt hn, Nat.mod_eq_of_lt (show 32 - n < 32 by omega), Nat.shiftRight_eq_div_pow, Nat.shiftLeft_eq]

theorem rot_u32 (x : UInt32) (n : Nat) (h0 : 0 < n) (hn : n < 32) :
    bits .or .u32 ((x.toNat : Int) / 2 ^ n) ((x.toNat : Int) * 2 ^ (32 - n) % 4294967296) = ((rotr x n).toNat : Int) := by
  have hx := lt32 x
  have e1 : ((x.toNat : Int) / 2 ^ n) = ((x.toNat / 2 ^ n : Nat) : Int) := by simp
  have e2 : ((x.toNat : Int) * 2 ^ (32 - n) % 4294967296) = ((x.toNat * 2 ^ (32 - n) % 4294967296 : Nat) : Int) := by simp
  rw [e1, e2, u32_or_nat _ _ (Nat.lt_of_le_of_lt (Nat.div_le_self _ _) hx) (Nat.mod_lt _ (by omega)), rotr_nat x n h0 hn]

/-- Turned, as numbers below 2 to the 32 are turned by a sum. -/
theorem rot_sum (x : UInt32) (n : Nat) (h0 : 0 < n) (hn : n < 32) : (x.toNat / 2 ^ n + x.toNat * 2 ^ (32 - n)) % 4294967296 = (rotr x n).toNat := by
  rw [rotr_nat x n h0 hn]
  have hx := lt32 x
  have hp : (2 : Nat) ^ n * 2 ^ (32 - n) = 4294967296 := by rw [← Nat.pow_add, show n + (32 - n) = 32 by omega]
  have hd : x.toNat / 2 ^ n < 2 ^ (32 - n) := by
    apply Nat.div_lt_of_lt_mul
    rw [hp]
    exact hx
  have hm : x.toNat * 2 ^ (32 - n) % 4294967296 = 2 ^ (32 - n) * (x.toNat % 2 ^ n) := by
    rw [Nat.mul_comm x.toNat, ← hp, Nat.mul_comm (2 ^ n), Nat.mul_mod_mul_left]
  rw [Nat.add_mod, hm, Nat.or_comm, Nat.mod_eq_of_lt (Nat.lt_of_le_of_lt (Nat.div_le_self _ _) hx)]
  have hmod : x.toNat % 2 ^ n < 2 ^ n := Nat.mod_lt _ (Nat.two_pow_pos n)
  rw [← Nat.two_pow_add_eq_or_of_lt hd, Nat.add_comm]
  refine Nat.mod_eq_of_lt ?_
  have : 2 ^ (32 - n) * (x.toNat % 2 ^ n) + 2 ^ (32 - n) ≤ 4294967296 := by
    rw [← hp, ← Nat.mul_succ, Nat.mul_comm (2 ^ n)]
    exact Nat.mul_le_mul_left _ hmod
  omega

theorem add32 (x y : UInt32) : ((x + y).toNat : Int) = ((x.toNat : Int) + y.toNat) % 4294967296 := by
  rw [UInt32.toNat_add]; simp
theorem i64_and_mask (n : Nat) (hn : n < 9223372036854775808) : bits .and .i64 (n : Int) 4294967295 = ((n % 4294967296 : Nat) : Int) := by
  have ho : ∀ a : Nat, a < 9223372036854775808 → (BitVec.ofInt 64 (a : Int)).toNat = a := fun a ha => by
    rw [BitVec.ofInt_natCast, BitVec.toNat_ofNat]; exact Nat.mod_eq_of_lt (by omega)
  have h4 := ho 4294967295 (by omega)
  show IntKind.i64.wrap ((BitVec.ofInt 64 (n : Int) &&& BitVec.ofInt 64 ((4294967295 : Nat) : Int)).toNat : Int) = _
  rw [BitVec.toNat_and, ho n hn, h4, show (4294967295 : Nat) = 2 ^ 32 - 1 from rfl, Nat.and_two_pow_sub_one_eq_mod, IntKind.wrap_i64]
  have : n % 2 ^ 32 < 2 ^ 32 := Nat.mod_lt _ (by omega)
  omega

theorem turn_lt (x : UInt32) (n : Nat) (h0 : 0 < n) (_hn : n < 32) : x.toNat / 2 ^ n + x.toNat * 2 ^ (32 - n) < 9223372036854775808 := by
  have hx := lt32 x
  have h1 : x.toNat / 2 ^ n ≤ x.toNat / 2 ^ 1 := Nat.div_le_div_left (Nat.pow_le_pow_right (by omega) (by omega)) (by omega)
  have h2 : x.toNat * 2 ^ (32 - n) ≤ 4294967295 * 2 ^ 31 := Nat.mul_le_mul (by omega) (Nat.pow_le_pow_right (by omega) (by omega))
  generalize x.toNat / 2 ^ n = a at *
  generalize x.toNat * 2 ^ (32 - n) = b at *
  omega
theorem wrap64_nat (n : Nat) (h : n < 9223372036854775808) : Go.RowKit.wrap64 (n : Int) = n := by
  unfold Go.RowKit.wrap64
  omega
theorem turn_arg (x : UInt32) (n : Nat) (h0 : 0 < n) (hn : n < 32) :
    Go.RowKit.wrap64 ((x.toNat : Int) / 2 ^ n + Go.RowKit.wrap64 ((x.toNat : Int) * 2 ^ (32 - n))) = ((x.toNat / 2 ^ n + x.toNat * 2 ^ (32 - n) : Nat) : Int) := by
  have h := turn_lt x n h0 hn
  have e1 : ((x.toNat : Int) / 2 ^ n) = ((x.toNat / 2 ^ n : Nat) : Int) := by simp
  have e2 : ((x.toNat : Int) * 2 ^ (32 - n)) = ((x.toNat * 2 ^ (32 - n) : Nat) : Int) := by simp
  rw [e1, e2, wrap64_nat (x.toNat * 2 ^ (32 - n)) (Nat.lt_of_le_of_lt (Nat.le_add_left _ _) h), ← Int.natCast_add, wrap64_nat _ h]

theorem u_and (x y : UInt32) : bits .and .u32 (x.toNat : Int) (y.toNat : Int) = ((x &&& y).toNat : Int) := by
  rw [u32_and_nat _ _ (lt32 x) (lt32 y), UInt32.toNat_and]
theorem u_or (x y : UInt32) : bits .or .u32 (x.toNat : Int) (y.toNat : Int) = ((x ||| y).toNat : Int) := by
  rw [u32_or_nat _ _ (lt32 x) (lt32 y), UInt32.toNat_or]
theorem u_xor (x y : UInt32) : bits .xor .u32 (x.toNat : Int) (y.toNat : Int) = ((x ^^^ y).toNat : Int) := by
  rw [u32_xor_nat _ _ (lt32 x) (lt32 y), UInt32.toNat_xor]
theorem u_not (x : UInt32) : bits .xor .u32 IntKind.u32.max (x.toNat : Int) = ((~~~x).toNat : Int) := by
  have h : IntKind.u32.max = (((-1 : UInt32)).toNat : Int) := by decide
  rw [h, u_xor]
  have e : -1 ^^^ x = ~~~x := by
    apply UInt32.toNat_inj.1
    apply Nat.eq_of_testBit_eq
    intro i
    rw [UInt32.toNat_xor, UInt32.toNat_not, Nat.testBit_xor, show ((-1 : UInt32)).toNat = 2 ^ 32 - 1 from rfl, Nat.testBit_two_pow_sub_one,
      show UInt32.size - 1 - x.toNat = 2 ^ 32 - (x.toNat + 1) from by have := lt32 x; simp only [UInt32.size]; omega, Nat.testBit_two_pow_sub_succ (lt32 x)]
    by_cases hi : i < 32
    · simp [hi]
    · have : x.toNat.testBit i = false := Nat.testBit_lt_two_pow (Nat.lt_of_lt_of_le (lt32 x) (Nat.pow_le_pow_right (n := 2) (by omega) (by omega : 32 ≤ i)))
      simp [hi, this]
  rw [e]
theorem sum2 (x y : UInt32) : ((x.toNat : Int) + y.toNat) % 4294967296 = ((x + y).toNat : Int) := (add32 x y).symm
theorem sum5 (a b c d e : UInt32) : ((a.toNat : Int) + b.toNat + c.toNat + d.toNat + e.toNat) % 4294967296 = ((a + b + c + d + e).toNat : Int) := by
  simp only [UInt32.toNat_add]
  omega
theorem u_wrap (x y : UInt32) : IntKind.u32.wrap ((x.toNat : Int) + (y.toNat : Int)) = ((x + y).toNat : Int) := by
  rw [IntKind.wrap_u32', add32]

theorem toU32 (x : UInt8) : (x.toUInt32).toNat = x.toNat := UInt8.toNat_toUInt32 x
theorem shl_u32 (x : UInt8) (n : Nat) (m : Int) (hn : n < 32) (hm : m = 2 ^ n) : IntKind.u32.wrap (IntKind.u32.wrap (x.toNat : Int) * m) = ((x.toUInt32 <<< UInt32.ofNat n).toNat : Int) := by
  subst hm
  have h1 : (UInt32.ofNat n).toNat = n := by rw [UInt32.toNat_ofNat']; exact Nat.mod_eq_of_lt (by omega)
  have hx := lt8 x
  rw [UInt32.toNat_shiftLeft, h1, toU32, Nat.mod_eq_of_lt hn, Nat.shiftLeft_eq, IntKind.wrap_u32', IntKind.wrap_u32']
  have : (x.toNat : Int) % 4294967296 = x.toNat := by omega
  rw [this]
  simp
theorem word4_val (a b c d : UInt8) :
    bits .or .u32 (bits .or .u32 (bits .or .u32 (IntKind.u32.wrap (IntKind.u32.wrap (a.toNat : Int) * 16777216)) (IntKind.u32.wrap (IntKind.u32.wrap (b.toNat : Int) * 65536)))
      (IntKind.u32.wrap (IntKind.u32.wrap (c.toNat : Int) * 256))) (IntKind.u32.wrap (d.toNat : Int)) = ((word4 a b c d).toNat : Int) := by
  have hd : IntKind.u32.wrap (d.toNat : Int) = (d.toUInt32.toNat : Int) := by
    have := lt8 d
    rw [IntKind.wrap_u32', toU32]; omega
  rw [shl_u32 a 24 16777216 (by omega) (by decide), shl_u32 b 16 65536 (by omega) (by decide), shl_u32 c 8 256 (by omega) (by decide), hd, u_or, u_or, u_or]
  rfl

theorem sum4w (a b c d : UInt32) : IntKind.u32.wrap (IntKind.u32.wrap (IntKind.u32.wrap ((a.toNat : Int) + b.toNat) + c.toNat) + d.toNat) = ((a + b + c + d).toNat : Int) := by
  rw [u_wrap, u_wrap, u_wrap]
theorem shr_u32 (x : UInt32) (n : Nat) (m : Int) (hn : n < 32) (hm : m = 2 ^ n) : (x.toNat : Int) / m = ((x >>> UInt32.ofNat n).toNat : Int) := by
  subst hm
  have h1 : (UInt32.ofNat n).toNat = n := by rw [UInt32.toNat_ofNat']; exact Nat.mod_eq_of_lt (by omega)
  rw [UInt32.toNat_shiftRight, h1, Nat.mod_eq_of_lt hn, Nat.shiftRight_eq_div_pow]
  simp
theorem sig0_val (x : UInt32) : bits .xor .u32 (bits .xor .u32 ((rotr x 7).toNat : Int) ((rotr x 18).toNat : Int)) ((x.toNat : Int) / 8) = ((sig0 x).toNat : Int) := by
  rw [u_xor, shr_u32 x 3 8 (by omega) (by decide), u_xor]; rfl
theorem sig1_val (x : UInt32) : bits .xor .u32 (bits .xor .u32 ((rotr x 17).toNat : Int) ((rotr x 19).toNat : Int)) ((x.toNat : Int) / 1024) = ((sig1 x).toNat : Int) := by
  rw [u_xor, shr_u32 x 10 1024 (by omega) (by decide), u_xor]; rfl

end Go.Proofs.YtaadmgbmaekicaaGreatDoor.Sh
/-
  The small functions, each by its contract: rotated; word, moved, turned, digit, Same of the document's own answers; few of the statements.
-/
namespace Go.Proofs.YtaadmgbmaekicaaGreatDoor.Sh
open Go Go.RowKit

set_option maxHeartbeats 400000 in
theorem rotated_any (x : UInt32) (n : Nat) (h0 : 0 < n) (hn : n < 32) (w : World) :
    Calls Tryz.prog 133 #[.int .u32 x.toNat, .int .i64 n] w fun e w' => e = .returned (.int .u32 (rotr x n).toNat) ∧ ∃ k, w' = w.drewN k := by
  have hx := lt32 x
  go_enter Tryz.func133, Tryz.ntmps133
  go_wp2
  go_quiet (fail)
  go_wp2
  go_ret
  exact ⟨ret_int (rot_u32 x n h0 hn), _, rfl⟩

set_option maxHeartbeats 400000 in
theorem word_any (z : Int) (h0 : 0 ≤ z) (h1 : z < 9223372036854775808) (w : World) :
    Calls Tryz.prog 127 #[.int .i64 z] w fun e w' => e = .returned (.int .i64 (z % 4294967296)) ∧ w = w' := by
  go_enter Tryz.func127, Tryz.ntmps127
  go_wp2
  go_ret
  refine ⟨ret_int ?_, rfl⟩
  obtain ⟨n, rfl⟩ := Int.eq_ofNat_of_zero_le h0
  rw [i64_and_mask n (by omega)]
  rfl

set_option maxHeartbeats 400000 in
theorem moved_any (n k : Nat) (_hn : n < 9223372036854775808) (hk : k < 64) (w : World) :
    Calls Tryz.prog 104 #[.int .i64 n, .int .i64 k] w fun e w' => e = .returned (.int .i64 (n / 2 ^ k : Nat)) ∧ w = w' := by
  go_enter Tryz.func104, Tryz.ntmps104
  go_wp2
  go_ret
  exact ⟨ret_int (by simp), rfl⟩

set_option maxHeartbeats 400000 in
theorem turned_any (x : UInt32) (n : Nat) (h0 : 0 < n) (hn : n < 32) (w : World) :
    Calls Tryz.prog 126 #[.int .i64 x.toNat, .int .i64 n] w fun e w' => e = .returned (.int .i64 (rotr x n).toNat) ∧ ∃ k, w' = w.drewN k := by
  have hx := lt32 x
  go_enter Tryz.func126, Tryz.ntmps126
  go_wp2
  go_quiet ((first | (go_at_call 104; exact quiet_left (moved_any _ _ (by omega) (by omega) _)) | (go_at_call 127; rw [turn_arg x n h0 hn]; exact quiet_left (word_any _ (Int.natCast_nonneg _) (Int.ofNat_lt.2 (turn_lt x n h0 hn)) _))))
  go_wp2
  go_ret
  exact ⟨ret_int (by rw [← rot_sum x n h0 hn]; rfl), _, rfl⟩

end Go.Proofs.YtaadmgbmaekicaaGreatDoor.Sh
/-
  Same, and Hex of both sides, by contract.
-/
namespace Go.Proofs.YtaadmgbmaekicaaGreatDoor.Sh
open Go Go.RowKit

theorem digits_at (n : Nat) (hn : n < 16) (w : World) :
    (Instr.index 9 (.string ⟨#[48, 49, 50, 51, 52, 53, 54, 55, 56, 57, 97, 98, 99, 100, 101, 102]⟩) (.int .u8 (n : Int))).run Tryz.prog w = .ok (.int .u8 ((hexDigit n).toNat : Int)) w := by
  have h : n = 0 ∨ n = 1 ∨ n = 2 ∨ n = 3 ∨ n = 4 ∨ n = 5 ∨ n = 6 ∨ n = 7 ∨ n = 8 ∨ n = 9 ∨ n = 10 ∨ n = 11 ∨ n = 12 ∨ n = 13 ∨ n = 14 ∨ n = 15 := by omega
  rcases h with rfl | rfl | rfl | rfl | rfl | rfl | rfl | rfl | rfl | rfl | rfl | rfl | rfl | rfl | rfl | rfl <;> (show _ = _; kernel_rfl)

theorem hexOf_snoc (l : List UInt8) (x : UInt8) : hexOf (l ++ [x]) = hexOf l ++ [hexDigit (x.toNat / 16), hexDigit (x.toNat % 16)] := by
  simp [hexOf]
theorem hexOf_length (l : List UInt8) : (hexOf l).length = 2 * l.length := by
  induction l with
  | nil => rfl
  | cons x r ih => simp only [hexOf, List.flatMap_cons, List.length_append, List.length_cons, List.length_nil] at ih ⊢; omega

end Go.Proofs.YtaadmgbmaekicaaGreatDoor.Sh
/-
  append to a row of the call's own, in one law for every source that reads (nothing of it let in): what it owns behind it, that nothing below has turned.
-/
namespace Go.Proofs.YtaadmgbmaekicaaGreatDoor.Sh
open Go Go.RowKit

section
variable {P : Program} {w : World}
end

end Go.Proofs.YtaadmgbmaekicaaGreatDoor.Sh
/-
  The program's side of a block: rounds and schedule, by contract.
-/
namespace Go.Proofs.YtaadmgbmaekicaaGreatDoor.Sh
open Go Go.RowKit

/-- Words as cells. -/
def wv (l : List UInt32) : List Value := l.map fun x => Value.int .u32 x.toNat
def stv (s : St) : Value := .agg #[.int .u32 s.a.toNat, .int .u32 s.b.toNat, .int .u32 s.c.toNat, .int .u32 s.d.toNat, .int .u32 s.e.toNat, .int .u32 s.f.toNat, .int .u32 s.g.toNat, .int .u32 s.h.toNat]
/-- The table of the words k lies in block 0. -/
def Tab (w : World) : Prop := ∀ t, t < 64 → w.cell? ⟨0, t, none⟩ = some (.int .u32 (kWords.getD t 0).toNat)
theorem Tab.below {w w' : World} {B : Nat} (h : Tab w) (hB : 0 < B) (hb : Below B w w') : Tab w' := fun t ht => (hb.cell (p := ⟨0, t, none⟩) hB).trans (h t ht)
theorem Tab.pos {w : World} (h : Tab w) : 0 < w.heap.size := World.block_lt_of_cell? w _ (h 0 (by omega))

theorem rotated_int (x : UInt32) (z : Int) (h0 : 0 < z) (hz : z < 32) (w : World) :
    Calls Tryz.prog 133 #[.int .u32 x.toNat, .int .i64 z] w fun e w' => e = .returned (.int .u32 (rotr x z.toNat).toNat) ∧ ∃ k, w' = w.drewN k := by
  obtain ⟨n, rfl⟩ := Int.eq_ofNat_of_zero_le (Int.le_of_lt h0)
  exact rotated_any x n (by omega) (by omega) w
theorem row8 {w : World} {g : Nat} {t : TypeId} {v0 v1 v2 v3 v4 v5 v6 v7 : Value} (h : w.heap[g]? = some (.cells #[v0, v1, v2, v3, v4, v5, v6, v7] t (0, 0))) :
    (w.cell? ⟨g, 0, none⟩ = some v0 ∧ w.cell? ⟨g, 1, none⟩ = some v1 ∧ w.cell? ⟨g, 2, none⟩ = some v2 ∧ w.cell? ⟨g, 3, none⟩ = some v3 ∧ w.cell? ⟨g, 4, none⟩ = some v4 ∧ w.cell? ⟨g, 5, none⟩ = some v5 ∧ w.cell? ⟨g, 6, none⟩ = some v6 ∧ w.cell? ⟨g, 7, none⟩ = some v7) ∧
    (w.frozen? ⟨g, 0, none⟩ = false ∧ w.frozen? ⟨g, 1, none⟩ = false ∧ w.frozen? ⟨g, 2, none⟩ = false ∧ w.frozen? ⟨g, 3, none⟩ = false ∧ w.frozen? ⟨g, 4, none⟩ = false ∧ w.frozen? ⟨g, 5, none⟩ = false ∧ w.frozen? ⟨g, 6, none⟩ = false ∧ w.frozen? ⟨g, 7, none⟩ = false) :=
  ⟨⟨cell_of_row w g 0 _ t (0, 0) h, cell_of_row w g 1 _ t (0, 0) h, cell_of_row w g 2 _ t (0, 0) h, cell_of_row w g 3 _ t (0, 0) h, cell_of_row w g 4 _ t (0, 0) h, cell_of_row w g 5 _ t (0, 0) h, cell_of_row w g 6 _ t (0, 0) h, cell_of_row w g 7 _ t (0, 0) h⟩,
    ⟨frozen_of_row w g 0 _ t h, frozen_of_row w g 1 _ t h, frozen_of_row w g 2 _ t h, frozen_of_row w g 3 _ t h, frozen_of_row w g 4 _ t h, frozen_of_row w g 5 _ t h, frozen_of_row w g 6 _ t h, frozen_of_row w g 7 _ t h⟩⟩
def zeros8 : Array Value := #[.int .u32 0, .int .u32 0, .int .u32 0, .int .u32 0, .int .u32 0, .int .u32 0, .int .u32 0, .int .u32 0]

set_option maxRecDepth 100000 in
set_option maxHeartbeats 1000000 in
theorem rounds_any (s : St) (b off : Nat) (ws : List UInt32) (hl : ws.length = 64) (w : World) (hT : Tab w) (hb : b < w.heap.size)
    (hw : ∀ t x, ws[t]? = some x → w.cell? ⟨b, off + t, none⟩ = some (.int .u32 x.toNat)) :
    Calls Tryz.prog 125 #[stv s, .pointer (some ⟨b, off, none⟩)] w fun e w' => e = .returned (stv (rounds s ws 64)) ∧ Below w.heap.size w w' := by
  unfold stv
  go_enter Tryz.func125, Tryz.ntmps125
  go_wp2
  go_quiet (fail)
  go_wp2
  go_quiet (fail)
  go_wp2
  go_loopw [5, 6, 7, 8, 9, 10, 11, 12, 34] (fun v5 v6 v7 v8 v9 v10 v11 v12 i wr => ∃ k : Nat, k ≤ 64 ∧ i = .int .i64 k ∧ ∃ S : St, Hid (S = rounds s ws k) ∧ v5 = .int .u32 S.a.toNat ∧ v6 = .int .u32 S.b.toNat ∧ v7 = .int .u32 S.c.toNat ∧
      v8 = .int .u32 S.d.toNat ∧ v9 = .int .u32 S.e.toNat ∧ v10 = .int .u32 S.f.toNat ∧ v11 = .int .u32 S.g.toNat ∧ v12 = .int .u32 S.h.toNat ∧ Below w.heap.size w wr ∧ Hid (wr.heap[w.heap.size + 1]? = some (.cells zeros8 120 (0, 0))))
    (fun _ _ _ _ _ _ _ _ i _ => 64 - (intOf i).toNat)
  case atStart =>
    refine ⟨0, by omega, rfl, s, hid rfl, rfl, rfl, rfl, rfl, rfl, rfl, rfl, rfl, ?_, ?_⟩
    · exact below_drewN (below_drewN (((Below.refl _ _).alloc (Nat.le_refl _) _).alloc (by simp) _) _) _
    · refine hid ?_
      have hz := heap_alloc_new (w.alloc (.cells #[.int .u32 s.a.toNat, .int .u32 s.b.toNat, .int .u32 s.c.toNat, .int .u32 s.d.toNat, .int .u32 s.e.toNat, .int .u32 s.f.toNat, .int .u32 s.g.toNat, .int .u32 s.h.toNat] 120)) (.cells zeros8 120)
      rw [World.size_alloc] at hz
      exact hz
  case round =>
    obtain ⟨k, hk, rfl, S, hS, rfl, rfl, rfl, rfl, rfl, rfl, rfl, rfl, hbel, hblk⟩ := hrel
    obtain ⟨a, b1, c, d, e, f, g, h8⟩ := S
    dsimp only at *
    by_cases hlt : k < 64
    · obtain ⟨x, hx⟩ : ∃ x, ws[k]? = some x := ⟨ws[k], by simp [hl, hlt]⟩
      obtain ⟨t, ht⟩ : ∃ t, t = kWords.getD k 0 := ⟨_, rfl⟩
      have c1 : wr.cell? ⟨0, k, none⟩ = some (.int .u32 t.toNat) := by rw [ht]; exact hT.below hT.pos hbel k hlt
      have c2 : wr.cell? ⟨b, off + k, none⟩ = some (.int .u32 x.toNat) := (hbel.cell (p := ⟨b, off + k, none⟩) hb).trans (hw k x hx)
      have HX := hid hx
      have HT := hid ht
      clear hx ht
      have hk0 : (0 : Int) ≤ (k : Int) := Int.natCast_nonneg _
      have hk1 : (k : Int) < 64 := by omega
      obtain ⟨C, hC⟩ : ∃ C, C = choice e f g := ⟨_, rfl⟩
      obtain ⟨M, hM⟩ : ∃ M, M = major a b1 c := ⟨_, rfl⟩
      obtain ⟨E, hE⟩ : ∃ E, E = bigE e := ⟨_, rfl⟩
      obtain ⟨F, hF⟩ : ∃ F, F = bigA a := ⟨_, rfl⟩
      have k1 : bits .xor .u32 (bits .and .u32 (e.toNat : Int) (f.toNat : Int)) (bits .and .u32 (bits .xor .u32 IntKind.u32.max (e.toNat : Int)) (g.toNat : Int)) = (C.toNat : Int) := by
        rw [u_not, u_and, u_and, u_xor, hC]; rfl
      have k2 : bits .xor .u32 (bits .xor .u32 (bits .and .u32 (a.toNat : Int) (b1.toNat : Int)) (bits .and .u32 (a.toNat : Int) (c.toNat : Int))) (bits .and .u32 (b1.toNat : Int) (c.toNat : Int)) = (M.toNat : Int) := by
        rw [u_and, u_and, u_and, u_xor, u_xor, hM]; rfl
      have k3 : bits .xor .u32 (bits .xor .u32 ((rotr e 6).toNat : Int) ((rotr e 11).toNat : Int)) ((rotr e 25).toNat : Int) = (E.toNat : Int) := by
        rw [u_xor, u_xor, hE]; rfl
      have k4 : bits .xor .u32 (bits .xor .u32 ((rotr a 2).toNat : Int) ((rotr a 13).toNat : Int)) ((rotr a 22).toNat : Int) = (F.toNat : Int) := by
        rw [u_xor, u_xor, hF]; rfl
      have HC := hid hC
      have HM := hid hM
      have HE := hid hE
      have HF := hid hF
      clear hC hM hE hF
      go_wp2_with fail
      go_quiet ((go_at_call 133; exact quiet_dr (rotated_int _ _ (by omega) (by omega) _)))
      go_wp2_with (go_at_call 133; refine (rotated_int _ _ (by omega) (by omega) _).mono ?_; rintro er wr' ⟨rfl, qr, rfl⟩)
      have hS' := hS.out
      rw [sum5, sum2, sum2, sum2, HF.out, HM.out, HE.out, HC.out, HT.out]
      go_roundw
      case rel =>
        refine ⟨k + 1, by omega, by go_num, step ⟨a, b1, c, d, e, f, g, h8⟩ (kWords.getD k 0) x, hid ?_, rfl, rfl, rfl, rfl, rfl, rfl, rfl, rfl, below_drewN hbel _, hid hblk.out⟩
        show _ = step (rounds s ws k) (kWords.getD k 0) (ws.getD k 0)
        rw [← hS', List.getD_eq_getElem?_getD (l := ws), HX.out]
        rfl
      case measure => simp [intOf]; omega
    · obtain rfl : k = 64 := by omega
      have hz := hblk.out
      obtain ⟨⟨z0, z1, z2, z3, z4, z5, z6, z7⟩, y0, y1, y2, y3, y4, y5, y6, y7⟩ := row8 hz
      have HZ := hid hz
      clear hz hblk
      go_wp2
      refine bodyPost_ret (v := stv ⟨a, b1, c, d, e, f, g, h8⟩) (by simp [results, Tryz.results125, go_sem, stv, z0, z1, z2, z3, z4, z5, z6, z7]) rfl ⟨by rw [hS.out]; rfl, ?_⟩
      repeat' (refine Below.setCell ?_ (by simp) _)
      exact hbel
end Go.Proofs.YtaadmgbmaekicaaGreatDoor.Sh
