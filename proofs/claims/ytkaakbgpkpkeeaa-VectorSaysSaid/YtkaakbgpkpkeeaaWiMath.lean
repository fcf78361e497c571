/-
  Numbers as bytes: base 256, the greatest digit first. What the digits of a number are, and what number digits say. Plain lemmas; nothing of the program.
-/
import Derived.WalkKit
namespace Go.Proofs.Ytkaakbgpkpkeeaa.Sh

/-- The digits of a number in base 256, none of 0. -/
def be (n : Nat) : List UInt8 := if n = 0 then [] else be (n / 256) ++ [UInt8.ofNat (n % 256)]
termination_by n
decreasing_by omega
/-- The number that digits say. -/
def val (l : List UInt8) : Nat := l.foldl (fun a x => 256 * a + x.toNat) 0

theorem be_zero : be 0 = [] := by rw [be]; simp
theorem be_pos {n : Nat} (h : 0 < n) : be n = be (n / 256) ++ [UInt8.ofNat (n % 256)] := by rw [be, if_neg (by omega)]
theorem val_nil : val [] = 0 := rfl
theorem val_snoc (l : List UInt8) (x : UInt8) : val (l ++ [x]) = 256 * val l + x.toNat := by simp [val, List.foldl_append]
theorem snoc_cases {α : Type} (l : List α) : l = [] ∨ ∃ a x, l = a ++ [x] := by
  rcases List.eq_nil_or_concat l with h | ⟨a, x, h⟩
  · exact .inl h
  · exact .inr ⟨a, x, by rw [h, List.concat_eq_append]⟩
theorem ofNat_mod (n : Nat) : (UInt8.ofNat (n % 256)).toNat = n % 256 := by
  rw [UInt8.toNat_ofNat']; exact Nat.mod_eq_of_lt (Nat.mod_lt _ (by omega))
theorem val_be (n : Nat) : val (be n) = n := by
  induction n using Nat.strongRecOn with
  | ind n ih =>
    rcases Nat.eq_zero_or_pos n with rfl | h
    · rw [be_zero]; rfl
    · rw [be_pos h, val_snoc, ih _ (by omega), ofNat_mod]; omega
theorem be_len_le (n : Nat) : ∀ k, n < 256 ^ k → (be n).length ≤ k := by
  induction n using Nat.strongRecOn with
  | ind n ih =>
    intro k hk
    rcases Nat.eq_zero_or_pos n with rfl | h
    · rw [be_zero]; simp
    · cases k with
      | zero => simp at hk; omega
      | succ k =>
        rw [be_pos h]
        have := ih (n / 256) (by omega) k (by rw [Nat.pow_succ] at hk; omega)
        simp; omega
theorem be_len8 {n : Nat} (h : n < 9223372036854775808) : (be n).length ≤ 8 := be_len_le n 8 (by omega)
theorem be_len7 {n : Nat} (h : n < 72057594037927936) : (be n).length ≤ 7 := be_len_le n 7 (by omega)
theorem be_len_pos {n : Nat} (h : 0 < n) : 0 < (be n).length := by rw [be_pos h]; simp
theorem be_len_step {n : Nat} (h : 0 < n) : (be n).length = (be (n / 256)).length + 1 := by rw [be_pos h]; simp
theorem be_len_mono (m : Nat) : ∀ n, n ≤ m → (be n).length ≤ (be m).length := by
  induction m using Nat.strongRecOn with
  | ind m ih =>
    intro n hn
    rcases Nat.eq_zero_or_pos n with rfl | h
    · rw [be_zero]; simp
    · rw [be_len_step h, be_len_step (by omega : 0 < m)]
      have := ih (m / 256) (by omega) (n / 256) (by omega)
      omega
/-- The first digit is not 0. -/
theorem be_head (n : Nat) : (be n).head? ≠ some 0 := by
  induction n using Nat.strongRecOn with
  | ind n ih =>
    rcases Nat.eq_zero_or_pos n with rfl | h
    · rw [be_zero]; simp
    · rw [be_pos h]
      rcases Nat.eq_zero_or_pos (n / 256) with h0 | h0
      · rw [h0, be_zero]
        intro e
        simp only [List.nil_append, List.head?_cons, Option.some.injEq] at e
        have := ofNat_mod n
        rw [e] at this
        simp at this
        omega
      · have hl := be_len_pos h0
        have := ih (n / 256) (by omega)
        rw [List.head?_append]
        cases hb : be (n / 256) with
        | nil => rw [hb] at hl; simp at hl
        | cons x r => rw [hb] at this; simpa using this
theorem val_pos {l : List UInt8} (h : l.head? ≠ some 0) (hl : 0 < l.length) : 0 < val l := by
  induction hn : l.length using Nat.strongRecOn generalizing l with
  | ind n ih =>
    rcases snoc_cases l with rfl | ⟨a, x, rfl⟩
    · simp at hl
    · rw [val_snoc]
      cases ha : a with
      | nil =>
        subst ha
        simp at h
        have : x.toNat ≠ 0 := fun e => h (UInt8.toNat_inj.1 e)
        omega
      | cons y r =>
        have := ih a.length (by rw [← hn]; simp) (l := a) (by rw [ha] at h ⊢; simpa using h) (by rw [ha]; simp) rfl
        rw [ha] at this
        omega
/-- No other digits say the same number. -/
theorem be_val (l : List UInt8) (h : l.head? ≠ some 0) : be (val l) = l := by
  induction hn : l.length using Nat.strongRecOn generalizing l with
  | ind n ih =>
    rcases snoc_cases l with rfl | ⟨a, x, rfl⟩
    · rw [val_nil, be_zero]
    · have hp := val_pos h (by simp)
      have hx : x.toNat < 256 := x.toNat_lt
      rw [be_pos hp, val_snoc]
      have hd : (256 * val a + x.toNat) / 256 = val a := by omega
      have hm : (256 * val a + x.toNat) % 256 = x.toNat := by omega
      rw [hd, hm]
      have hh : a.head? ≠ some 0 := by
        cases ha : a with
        | nil => simp
        | cons y r => rw [ha] at h; simpa using h
      rw [ih a.length (by rw [← hn]; simp) a hh rfl]
      congr 2
      apply UInt8.toNat_inj.1
      rw [UInt8.toNat_ofNat']
      exact Nat.mod_eq_of_lt hx
theorem val_lt (l : List UInt8) : val l < 256 ^ l.length := by
  induction hn : l.length using Nat.strongRecOn generalizing l with
  | ind n ih =>
    rcases snoc_cases l with rfl | ⟨a, x, rfl⟩
    · simp at hn; subst hn; simp [val]
    · have hx : x.toNat < 256 := x.toNat_lt
      have ha : a.length + 1 = n := by rw [← hn]; simp
      have := ih a.length (by omega) a rfl
      rw [val_snoc, ← ha, Nat.pow_succ]
      omega
theorem val_append (a b : List UInt8) : val (a ++ b) = 256 ^ b.length * val a + val b := by
  induction hn : b.length using Nat.strongRecOn generalizing b with
  | ind n ih =>
    rcases snoc_cases b with rfl | ⟨c, x, rfl⟩
    · simp at hn; subst hn; simp [val]
    · have hc : c.length + 1 = n := by rw [← hn]; simp
      rw [← List.append_assoc, val_snoc, ih c.length (by omega) c rfl, val_snoc, ← hc, Nat.pow_succ, Nat.mul_add, Nat.mul_comm (256 ^ c.length) 256, Nat.mul_assoc, Nat.add_assoc]
theorem val_cons (x : UInt8) (l : List UInt8) : val (x :: l) = 256 ^ l.length * x.toNat + val l := by
  have := val_append [x] l
  simpa [val] using this
theorem val_mono_take (l : List UInt8) (k : Nat) : val (l.take k) ≤ val l := by
  have := val_append (l.take k) (l.drop k)
  rw [List.take_append_drop] at this
  rw [this]
  have h : 1 ≤ 256 ^ (l.drop k).length := Nat.pow_pos (by omega)
  calc val (l.take k) = 1 * val (l.take k) := by omega
    _ ≤ 256 ^ (l.drop k).length * val (l.take k) := Nat.mul_le_mul_right _ h
    _ ≤ _ := Nat.le_add_right _ _
theorem val_take_succ {l : List UInt8} {k : Nat} {x : UInt8} (h : l[k]? = some x) : val (l.take (k + 1)) = 256 * val (l.take k) + x.toNat := by
  rw [List.take_add_one, h]
  exact val_snoc _ _
/-- Eight digits say no number above 2 to the 63 just if the first is below 128. -/
theorem val_eight {x : UInt8} {l : List UInt8} (h : l.length = 7) : val (x :: l) < 9223372036854775808 ↔ x.toNat ≤ 127 := by
  have := val_lt l
  rw [val_cons, h] at *
  omega
theorem val_seven {l : List UInt8} (h : l.length ≤ 7) : val l < 9223372036854775808 := by
  have h1 := val_lt l
  have h2 : 256 ^ l.length ≤ 256 ^ 7 := Nat.pow_le_pow_right (by omega) h
  omega
/-- The digits of n, from the i-th on behind. -/
theorem be_digit (n : Nat) : ∀ i, i < (be n).length → (be n)[(be n).length - 1 - i]? = some (UInt8.ofNat (n / 256 ^ i % 256)) := by
  induction n using Nat.strongRecOn with
  | ind n ih =>
    intro i hi
    rcases Nat.eq_zero_or_pos n with rfl | h
    · rw [be_zero] at hi; simp at hi
    · have hs := be_len_step h
      rw [be_pos h]
      cases i with
      | zero =>
        simp
      | succ i =>
        have := ih (n / 256) (by omega) i (by omega)
        rw [Nat.div_div_eq_div_mul, ← Nat.pow_succ'] at this
        rw [List.getElem?_append_left (by simp; omega)]
        rw [← this]
        congr 1
        simp
        omega

/-! ### What stands at a place -/
/-- The encoding of a number. -/
def enc (n : Nat) : List UInt8 := UInt8.ofNat (be n).length :: be n
/-- What a number's bytes say: the number, how many bytes, the error. -/
def look (l : List UInt8) : Nat × Nat × Int :=
  match l with
  | [] => (0, 0, 3)
  | k :: t =>
    if 8 < k.toNat then (0, 0, 2)
    else if t.length < k.toNat then (0, 0, 3)
    else if (t.take k.toNat).head? = some 0 then (0, 0, 2)
    else if 9223372036854775808 ≤ val (t.take k.toNat) then (0, 0, 2)
    else (val (t.take k.toNat), k.toNat + 1, 0)
theorem enc_length (n : Nat) : (enc n).length = (be n).length + 1 := by simp [enc]
theorem enc_len_le {n : Nat} (h : n < 9223372036854775808) : (enc n).length ≤ 9 := by have := be_len8 h; rw [enc_length]; omega
theorem toNat_len {n : Nat} (h : n < 9223372036854775808) : (UInt8.ofNat (be n).length).toNat = (be n).length := by
  have := be_len8 h
  rw [UInt8.toNat_ofNat']
  exact Nat.mod_eq_of_lt (by omega)
/-- What is put is read. -/
theorem look_enc {n : Nat} (h : n < 9223372036854775808) (r : List UInt8) : look (enc n ++ r) = (n, (enc n).length, 0) := by
  have h8 := be_len8 h
  have hl := toNat_len h
  have ht : (be n ++ r).take (be n).length = be n := by simp
  simp only [enc, List.cons_append, look, hl]
  rw [if_neg (by omega), if_neg (by simp), ht, if_neg (be_head n), val_be, if_neg (by omega)]
  simp
/-- What is read was put. -/
theorem look_ok {l : List UInt8} {n u : Nat} (h : look l = (n, u, 0)) : n < 9223372036854775808 ∧ u ≤ l.length ∧ l.take u = enc n ∧ u = (enc n).length := by
  cases l with
  | nil => simp [look] at h
  | cons k t =>
    simp only [look] at h
    split at h
    · simp at h
    split at h
    · simp at h
    split at h
    · simp at h
    split at h
    · simp at h
    rename_i h1 h2 h3 h4
    simp only [Prod.mk.injEq, and_true] at h
    obtain ⟨rfl, rfl⟩ := h
    have hb := be_val _ h3
    have hlen : (t.take k.toNat).length = k.toNat := by rw [List.length_take]; omega
    have he : enc (val (t.take k.toNat)) = k :: t.take k.toNat := by
      unfold enc
      rw [hb, hlen]
      congr 1
      apply UInt8.toNat_inj.1
      rw [UInt8.toNat_ofNat']
      exact Nat.mod_eq_of_lt k.toNat_lt
    refine ⟨by omega, by simp; omega, by rw [he]; simp, by rw [he]; simp; omega⟩
/-- A part of what is put is too short. -/
theorem look_short {n : Nat} (h : n < 9223372036854775808) {c : Nat} (hc : c < (enc n).length) (r : List UInt8) : look ((enc n ++ r).take c) = (0, 0, 3) := by
  have h8 := be_len8 h
  have hl := toNat_len h
  rw [enc_length] at hc
  rw [List.take_append_of_le_length (by rw [enc_length]; omega)]
  cases c with
  | zero => simp [look]
  | succ c =>
    simp only [enc, List.take_succ_cons, look, hl]
    rw [if_neg (by omega), if_pos (by rw [List.length_take]; omega)]
theorem look_cases (l : List UInt8) : (∃ n u, look l = (n, u, 0)) ∨ look l = (0, 0, 2) ∨ look l = (0, 0, 3) := by
  cases l with
  | nil => simp [look]
  | cons k t =>
    simp only [look]
    repeat' split
    all_goals simp
end Go.Proofs.Ytkaakbgpkpkeeaa.Sh
