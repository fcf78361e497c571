/-
  Bits turned one by one, within 16 side by side; three texts put together. Pure.
-/
import Derived.Test.YtgfnhmnmbmpfdaaSuMath
namespace Go.Proofs.Ytgfnhmnmbmpfdaa.Sh

set_option linter.unusedVariables false
set_option linter.unusedSimpArgs false
/-- The sum of bytes. -/
def sumS (l : List UInt8) : Reg := moreS 65535#16 l
theorem sumS_three (a b c : List UInt8) (h1 : a.length = b.length) (h2 : b.length = c.length) : sumS a ^^^ sumS b ^^^ sumS c = sumS (List.zipWith (· ^^^ ·) (List.zipWith (· ^^^ ·) a b) c) := by
  have h := moreS_xor (65535#16 ^^^ 65535#16) 65535#16 (List.zipWith (· ^^^ ·) a b) c (by rw [List.length_zipWith]; omega)
  rw [moreS_xor 65535#16 65535#16 a b h1] at h
  exact h.symm
/-- One bit turned. -/
def flipB (l : List UInt8) (p : Nat) : List UInt8 := l.set (p / 8) (l.getD (p / 8) 0 ^^^ UInt8.ofNat (128 >>> (p % 8)))
theorem flipB_length (l : List UInt8) (p : Nat) : (flipB l p).length = l.length := by unfold flipB; rw [List.length_set]
theorem one_bit {t i : Nat} (ht : t < 8) (hi : i < 8) : (UInt8.ofNat (128 >>> t)).toNat.testBit (7 - i) = decide (i = t) := by
  rcases (by omega : t = 0 ∨ t = 1 ∨ t = 2 ∨ t = 3 ∨ t = 4 ∨ t = 5 ∨ t = 6 ∨ t = 7) with rfl | rfl | rfl | rfl | rfl | rfl | rfl | rfl <;>
    rcases (by omega : i = 0 ∨ i = 1 ∨ i = 2 ∨ i = 3 ∨ i = 4 ∨ i = 5 ∨ i = 6 ∨ i = 7) with rfl | rfl | rfl | rfl | rfl | rfl | rfl | rfl <;> decide
theorem flipB_bits {l : List UInt8} {p : Nat} (h : p < 8 * l.length) (j : Nat) (hj : j < 8 * l.length) : (bitsOf (flipB l p))[j]? = ((bitsOf l)[j]?).map (fun b => b ^^ decide (j = p)) := by
  obtain ⟨i, s, hs, rfl⟩ : ∃ i s, s < 8 ∧ j = 8 * i + s := ⟨j / 8, j % 8, Nat.mod_lt _ (by omega), by omega⟩
  have hi : i < l.length := by omega
  have hx : l[i]? = some l[i] := List.getElem?_eq_getElem hi
  rw [bitsOf_get hx hs, Option.map_some]
  by_cases e : i = p / 8
  · subst e
    have h2 : (flipB l p)[p / 8]? = some (l[p / 8] ^^^ UInt8.ofNat (128 >>> (p % 8))) := by
      unfold flipB
      rw [List.getElem?_set_self hi, List.getD_eq_getElem?_getD, hx]; rfl
    rw [bitsOf_get h2 hs, UInt8.toNat_xor, Nat.testBit_xor, one_bit (Nat.mod_lt _ (by omega)) hs]
    have e2 : decide (s = p % 8) = decide (8 * (p / 8) + s = p) := by
      by_cases h3 : s = p % 8
      · rw [decide_eq_true h3, decide_eq_true (by omega)]
      · rw [decide_eq_false h3, decide_eq_false (by omega)]
    rw [e2]
  · have h2 : (flipB l p)[i]? = some l[i] := by
      unfold flipB
      rw [List.getElem?_set_ne (fun h => e h.symm), hx]
    rw [bitsOf_get h2 hs, decide_eq_false (by omega), Bool.xor_false]
/-- Which bits are turned by the first k of 16 from a place on. -/
def winE (p v k n : Nat) : List Bool := (List.range n).map fun j => decide (p ≤ j ∧ j < p + k) && v.testBit (j - p)
theorem winE_length (p v k n : Nat) : (winE p v k n).length = n := by unfold winE; simp
theorem winE_get {p v k n j : Nat} (h : j < n) : (winE p v k n)[j]? = some (decide (p ≤ j ∧ j < p + k) && v.testBit (j - p)) := by unfold winE; rw [List.getElem?_map, List.getElem?_range h]; rfl
/-- The bytes with the first k turned. -/
def Turned (l : List UInt8) (p v k : Nat) (t : List UInt8) : Prop := t.length = l.length ∧ bitsOf t = List.zipWith (· ^^ ·) (bitsOf l) (winE p v k (8 * l.length))
theorem zip_get {a b : List Bool} {j : Nat} {x y : Bool} (hx : a[j]? = some x) (hy : b[j]? = some y) : (List.zipWith (· ^^ ·) a b)[j]? = some (x ^^ y) := by
  rw [List.getElem?_zipWith, hx, hy]
theorem Turned.zero (l : List UInt8) (p v : Nat) : Turned l p v 0 l := by
  refine ⟨rfl, List.ext_getElem? fun j => ?_⟩
  by_cases hj : j < 8 * l.length
  · obtain ⟨x, hx⟩ : ∃ x, (bitsOf l)[j]? = some x := ⟨_, List.getElem?_eq_getElem (by rw [bitsOf_length]; exact hj)⟩
    rw [zip_get hx (winE_get hj), hx, decide_eq_false (by omega), Bool.false_and, Bool.xor_false]
  · rw [List.getElem?_eq_none (by rw [bitsOf_length]; omega), List.getElem?_eq_none (by rw [List.length_zipWith, bitsOf_length, winE_length]; omega)]
theorem Turned.skip {l t : List UInt8} {p v k : Nat} (h : Turned l p v k t) (hb : v.testBit k = false) : Turned l p v (k + 1) t := by
  refine ⟨h.1, h.2.trans (List.ext_getElem? fun j => ?_)⟩
  by_cases hj : j < 8 * l.length
  · obtain ⟨x, hx⟩ : ∃ x, (bitsOf l)[j]? = some x := ⟨_, List.getElem?_eq_getElem (by rw [bitsOf_length]; exact hj)⟩
    rw [zip_get hx (winE_get hj), zip_get hx (winE_get hj)]
    by_cases e : j = p + k
    · subst e
      rw [show p + k - p = k by omega, hb, Bool.and_false, Bool.and_false]
    · have : decide (p ≤ j ∧ j < p + k) = decide (p ≤ j ∧ j < p + (k + 1)) := by
        by_cases h1 : p ≤ j ∧ j < p + k
        · rw [decide_eq_true h1, decide_eq_true (by omega)]
        · rw [decide_eq_false h1, decide_eq_false (by omega)]
      rw [this]
  · rw [List.getElem?_eq_none (by rw [List.length_zipWith, bitsOf_length, winE_length]; omega), List.getElem?_eq_none (by rw [List.length_zipWith, bitsOf_length, winE_length]; omega)]
theorem Turned.turn {l t : List UInt8} {p v k : Nat} (h : Turned l p v k t) (hb : v.testBit k = true) (hp : p + k < 8 * l.length) : Turned l p v (k + 1) (flipB t (p + k)) := by
  refine ⟨(flipB_length _ _).trans h.1, List.ext_getElem? fun j => ?_⟩
  by_cases hj : j < 8 * l.length
  · obtain ⟨x, hx⟩ : ∃ x, (bitsOf l)[j]? = some x := ⟨_, List.getElem?_eq_getElem (by rw [bitsOf_length]; exact hj)⟩
    rw [flipB_bits (by rw [h.1]; exact hp) j (by rw [h.1]; exact hj), h.2, zip_get hx (winE_get hj), zip_get hx (winE_get hj), Option.map_some]
    by_cases e : j = p + k
    · subst e
      rw [show p + k - p = k by omega, hb, decide_eq_false (by omega : ¬ (p ≤ p + k ∧ p + k < p + k)), decide_eq_true (by omega : p ≤ p + k ∧ p + k < p + (k + 1)), decide_eq_true rfl]
      cases x <;> rfl
    · have : decide (p ≤ j ∧ j < p + k) = decide (p ≤ j ∧ j < p + (k + 1)) := by
        by_cases h1 : p ≤ j ∧ j < p + k
        · rw [decide_eq_true h1, decide_eq_true (by omega)]
        · rw [decide_eq_false h1, decide_eq_false (by omega)]
      rw [this, decide_eq_false e, Bool.xor_false]
  · rw [List.getElem?_eq_none (by rw [bitsOf_length, flipB_length, h.1]; omega), List.getElem?_eq_none (by rw [List.length_zipWith, bitsOf_length, winE_length]; omega)]
theorem winE_parts {p v n : Nat} (h : p + 16 ≤ n) : winE p v 16 n = List.replicate p false ++ (List.range 16).map (v.testBit ·) ++ List.replicate (n - (p + 16)) false := by
  refine List.ext_getElem? fun j => ?_
  have hl : (List.replicate p false ++ (List.range 16).map (v.testBit ·) ++ List.replicate (n - (p + 16)) false).length = n := by simp; omega
  by_cases hj : j < n
  · rw [winE_get hj]
    rcases Nat.lt_or_ge j p with h1 | h1
    · rw [List.getElem?_append_left (by simp; omega), List.getElem?_append_left (by simpa using h1), List.getElem?_replicate, if_pos h1, decide_eq_false (by omega), Bool.false_and]
    · rcases Nat.lt_or_ge j (p + 16) with h2 | h2
      · rw [List.getElem?_append_left (by simp; omega), List.getElem?_append_right (by simpa using h1), List.length_replicate, List.getElem?_map, List.getElem?_range (by omega), decide_eq_true ⟨h1, h2⟩, Bool.true_and]; rfl
      · rw [List.getElem?_append_right (by simp; omega), List.getElem?_replicate, if_pos (by simp; omega), decide_eq_false (by omega), Bool.false_and]
  · rw [List.getElem?_eq_none (by rw [winE_length]; omega), List.getElem?_eq_none (by rw [hl]; omega)]
theorem Turned.sum {l t : List UInt8} {p v : Nat} (h : Turned l p v 16 t) (hp : p + 16 ≤ 8 * l.length) (hv : v < 65536) : sumS t = sumS l ↔ v = 0 := by
  have h1 : sumS t = sumS l ^^^ runS 0#16 (winE p v 16 (8 * l.length)) := by
    have := runS_xor 65535#16 0#16 (bitsOf l) (winE p v 16 (8 * l.length)) (by rw [bitsOf_length, winE_length])
    rw [← h.2] at this
    exact this
  have h2 : sumS t = sumS l ↔ runS 0#16 (winE p v 16 (8 * l.length)) = 0#16 := by
    rw [h1]
    constructor
    · intro e
      have e2 : sumS l ^^^ (sumS l ^^^ runS 0#16 (winE p v 16 (8 * l.length))) = sumS l ^^^ sumS l := by rw [e]
      rw [← BitVec.xor_assoc, BitVec.xor_self, BitVec.zero_xor] at e2
      exact e2
    · intro e
      rw [e, BitVec.xor_zero]
  rw [h2, winE_parts hp, runS_burst _ _ (by simp)]
  constructor
  · intro hb
    apply Nat.eq_of_testBit_eq
    intro i
    rw [Nat.zero_testBit]
    rcases Nat.lt_or_ge i 16 with hi | hi
    · exact hb _ (List.mem_map.2 ⟨i, List.mem_range.2 hi, rfl⟩)
    · exact Nat.testBit_lt_two_pow (Nat.lt_of_lt_of_le hv (Nat.pow_le_pow_right (by omega) hi : 2 ^ 16 ≤ 2 ^ i))
  · rintro rfl b hb
    obtain ⟨i, _, rfl⟩ := List.mem_map.1 hb
    exact Nat.zero_testBit i
end Go.Proofs.Ytgfnhmnmbmpfdaa.Sh
