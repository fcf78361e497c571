/-
  Numbers as bytes: base 256, the greatest digit first. What the digits of a number are, and what number digits say. Plain lemmas; nothing of the program.
-/
import Derived.WalkKit
import Derived.Test.YtaadmgbmaekicaaGreatDoorJn2
import Derived.Laws.ShiftsVar
set_option linter.unusedVariables false
set_option linter.unusedSimpArgs false
namespace Go.Proofs.YtaadmgbmaekicaaGreatDoor.Sh

/-- The digits of a number in base 256, none of 0. -/
def be (n : Nat) : List UInt8 := if n = 0 then [] else be (n / 256) ++ [UInt8.ofNat (n % 256)]
termination_by n
decreasing_by omega
/-- The number that digits say. -/
def val (l : List UInt8) : Nat := l.foldl (fun a x => 256 * a + x.toNat) 0

theorem be_zero : be 0 = [] := by rw [be]; simp
theorem be_pos {n : Nat} (h : 0 < n) : be n = be (n / 256) ++ [UInt8.ofNat (n % 256)] := by rw [be, if_neg (by omega)]
theorem val_nil : val [] = 0 := rfl
theorem val_snoc (l : List UInt8) (x : UInt8) : val (l ++ [x]) = 256 * val l + x.toNat := by simp [val, List.foldl_append]
theorem snoc_cases {α : Type} (l : List α) : l = [] ∨ ∃ a x, l = a ++ [x] := by
  rcases List.eq_nil_or_concat l with h | ⟨a, x, h⟩
  · exact .inl h
  · exact .inr ⟨a, x, by rw [h, List.concat_eq_append]⟩
theorem ofNat_mod (n : Nat) : (UInt8.ofNat (n % 256)).toNat = n % 256 := by
  rw [UInt8.toNat_ofNat']; exact Nat.mod_eq_of_lt (Nat.mod_lt _ (by omega))
theorem val_be (n : Nat) : val (be n) = n := by
  induction n using Nat.strongRecOn with
  | ind n ih =>
    rcases Nat.eq_zero_or_pos n with rfl | h
    · rw [be_zero]; rfl
    · rw [be_pos h, val_snoc, ih _ (by omega), ofNat_mod]; omega
theorem be_len_le (n : Nat) : ∀ k, n < 256 ^ k → (be n).length ≤ k := by
  induction n using Nat.strongRecOn with
  | ind n ih =>
    intro k hk
    rcases Nat.eq_zero_or_pos n with rfl | h
    · rw [be_zero]; simp
    · cases k with
      | zero => simp at hk; omega
      | succ k =>
        rw [be_pos h]
        have := ih (n / 256) (by omega) k (by rw [Nat.pow_succ] at hk; omega)
        simp; omega
theorem be_len8 {n : Nat} (h : n < 9223372036854775808) : (be n).length ≤ 8 := be_len_le n 8 (by omega)
theorem be_len7 {n : Nat} (h : n < 72057594037927936) : (be n).length ≤ 7 := be_len_le n 7 (by omega)
theorem be_len_pos {n : Nat} (h : 0 < n) : 0 < (be n).length := by rw [be_pos h]; simp
theorem be_len_step {n : Nat} (h : 0 < n) : (be n).length = (be (n / 256)).length + 1 := by rw [be_pos h]; simp
theorem be_len_mono (m : Nat) : ∀ n, n ≤ m → (be n).length ≤ (be m).length := by
  induction m using Nat.strongRecOn with
  | ind m ih =>
    intro n hn
    rcases Nat.eq_zero_or_pos n with rfl | h
    · rw [be_zero]; simp
    · rw [be_len_step h, be_len_step (by omega : 0 < m)]
      have := ih (m / 256) (by omega) (n / 256) (by omega)
      omega
/-- The first digit is not 0. -/
theorem be_head (n : Nat) : (be n).head? ≠ some 0 := by
  induction n using Nat.strongRecOn with
  | ind n ih =>
    rcases Nat.eq_zero_or_pos n with rfl | h
    · rw [be_zero]; simp
    · rw [be_pos h]
      rcases Nat.eq_zero_or_pos (n / 256) with h0 | h0
      · rw [h0, be_zero]
        intro e
        simp only [List.nil_append, List.head?_cons, Option.some.injEq] at e
        have := ofNat_mod n
        rw [e] at this
        simp at this
        omega
      · have hl := be_len_pos h0
        have := ih (n / 256) (by omega)
        rw [List.head?_append]
        cases hb : be (n / 256) with
        | nil => rw [hb] at hl; simp at hl
        | cons x r => rw [hb] at this; simpa using this
theorem val_pos {l : List UInt8} (h : l.head? ≠ some 0) (hl : 0 < l.length) : 0 < val l := by
  induction hn : l.length using Nat.strongRecOn generalizing l with
  | ind n ih =>
    rcases snoc_cases l with rfl | ⟨a, x, rfl⟩
    · simp at hl
    · rw [val_snoc]
      cases ha : a with
      | nil =>
        subst ha
        simp at h
        have : x.toNat ≠ 0 := fun e => h (UInt8.toNat_inj.1 e)
        omega
      | cons y r =>
        have := ih a.length (by rw [← hn]; simp) (l := a) (by rw [ha] at h ⊢; simpa using h) (by rw [ha]; simp) rfl
        rw [ha] at this
        omega
/-- No other digits say the same number. -/
theorem be_val (l : List UInt8) (h : l.head? ≠ some 0) : be (val l) = l := by
  induction hn : l.length using Nat.strongRecOn generalizing l with
  | ind n ih =>
    rcases snoc_cases l with rfl | ⟨a, x, rfl⟩
    · rw [val_nil, be_zero]
    · have hp := val_pos h (by simp)
      have hx : x.toNat < 256 := x.toNat_lt
      rw [be_pos hp, val_snoc]
      have hd : (256 * val a + x.toNat) / 256 = val a := by omega
      have hm : (256 * val a + x.toNat) % 256 = x.toNat := by omega
      rw [hd, hm]
      have hh : a.head? ≠ some 0 := by
        cases ha : a with
        | nil => simp
        | cons y r => rw [ha] at h; simpa using h
      rw [ih a.length (by rw [← hn]; simp) a hh rfl]
      congr 2
      apply UInt8.toNat_inj.1
      rw [UInt8.toNat_ofNat']
      exact Nat.mod_eq_of_lt hx
theorem val_lt (l : List UInt8) : val l < 256 ^ l.length := by
  induction hn : l.length using Nat.strongRecOn generalizing l with
  | ind n ih =>
    rcases snoc_cases l with rfl | ⟨a, x, rfl⟩
    · simp at hn; subst hn; simp [val]
    · have hx : x.toNat < 256 := x.toNat_lt
      have ha : a.length + 1 = n := by rw [← hn]; simp
      have := ih a.length (by omega) a rfl
      rw [val_snoc, ← ha, Nat.pow_succ]
      omega
theorem val_append (a b : List UInt8) : val (a ++ b) = 256 ^ b.length * val a + val b := by
  induction hn : b.length using Nat.strongRecOn generalizing b with
  | ind n ih =>
    rcases snoc_cases b with rfl | ⟨c, x, rfl⟩
    · simp at hn; subst hn; simp [val]
    · have hc : c.length + 1 = n := by rw [← hn]; simp
      rw [← List.append_assoc, val_snoc, ih c.length (by omega) c rfl, val_snoc, ← hc, Nat.pow_succ, Nat.mul_add, Nat.mul_comm (256 ^ c.length) 256, Nat.mul_assoc, Nat.add_assoc]
theorem val_cons (x : UInt8) (l : List UInt8) : val (x :: l) = 256 ^ l.length * x.toNat + val l := by
  have := val_append [x] l
  simpa [val] using this
theorem val_mono_take (l : List UInt8) (k : Nat) : val (l.take k) ≤ val l := by
  have := val_append (l.take k) (l.drop k)
  rw [List.take_append_drop] at this
  rw [this]
  have h : 1 ≤ 256 ^ (l.drop k).length := Nat.pow_pos (by omega)
  calc val (l.take k) = 1 * val (l.take k) := by omega
    _ ≤ 256 ^ (l.drop k).length * val (l.take k) := Nat.mul_le_mul_right _ h
    _ ≤ _ := Nat.le_add_right _ _
theorem val_take_succ {l : List UInt8} {k : Nat} {x : UInt8} (h : l[k]? = some x) : val (l.take (k + 1)) = 256 * val (l.take k) + x.toNat := by
  rw [List.take_add_one, h]
  exact val_snoc _ _
/-- Eight digits say no number above 2 to the 63 just if the first is below 128. -/
theorem val_eight {x : UInt8} {l : List UInt8} (h : l.length = 7) : val (x :: l) < 9223372036854775808 ↔ x.toNat ≤ 127 := by
  have := val_lt l
  rw [val_cons, h] at *
  omega
theorem val_seven {l : List UInt8} (h : l.length ≤ 7) : val l < 9223372036854775808 := by
  have h1 := val_lt l
  have h2 : 256 ^ l.length ≤ 256 ^ 7 := Nat.pow_le_pow_right (by omega) h
  omega
/-- The digits of n, from the i-th on behind. -/
theorem be_digit (n : Nat) : ∀ i, i < (be n).length → (be n)[(be n).length - 1 - i]? = some (UInt8.ofNat (n / 256 ^ i % 256)) := by
  induction n using Nat.strongRecOn with
  | ind n ih =>
    intro i hi
    rcases Nat.eq_zero_or_pos n with rfl | h
    · rw [be_zero] at hi; simp at hi
    · have hs := be_len_step h
      rw [be_pos h]
      cases i with
      | zero =>
        simp
      | succ i =>
        have := ih (n / 256) (by omega) i (by omega)
        rw [Nat.div_div_eq_div_mul, ← Nat.pow_succ'] at this
        rw [List.getElem?_append_left (by simp; omega)]
        rw [← this]
        congr 1
        simp
        omega

/-! ### What stands at a place -/
/-- The encoding of a number. -/
def enc (n : Nat) : List UInt8 := UInt8.ofNat (be n).length :: be n
/-- What a number's bytes say: the number, how many bytes, the error. -/
def look (l : List UInt8) : Nat × Nat × Int :=
  match l with
  | [] => (0, 0, 3)
  | k :: t =>
    if 8 < k.toNat then (0, 0, 2)
    else if t.length < k.toNat then (0, 0, 3)
    else if (t.take k.toNat).head? = some 0 then (0, 0, 2)
    else if 9223372036854775808 ≤ val (t.take k.toNat) then (0, 0, 2)
    else (val (t.take k.toNat), k.toNat + 1, 0)
theorem enc_length (n : Nat) : (enc n).length = (be n).length + 1 := by simp [enc]
theorem enc_len_le {n : Nat} (h : n < 9223372036854775808) : (enc n).length ≤ 9 := by have := be_len8 h; rw [enc_length]; omega
theorem toNat_len {n : Nat} (h : n < 9223372036854775808) : (UInt8.ofNat (be n).length).toNat = (be n).length := by
  have := be_len8 h
  rw [UInt8.toNat_ofNat']
  exact Nat.mod_eq_of_lt (by omega)
/-- What is put is read. -/
theorem look_enc {n : Nat} (h : n < 9223372036854775808) (r : List UInt8) : look (enc n ++ r) = (n, (enc n).length, 0) := by
  have h8 := be_len8 h
  have hl := toNat_len h
  have ht : (be n ++ r).take (be n).length = be n := by simp
  simp only [enc, List.cons_append, look, hl]
  rw [if_neg (by omega), if_neg (by simp), ht, if_neg (be_head n), val_be, if_neg (by omega)]
  simp
/-- What is read was put. -/
theorem look_ok {l : List UInt8} {n u : Nat} (h : look l = (n, u, 0)) : n < 9223372036854775808 ∧ u ≤ l.length ∧ l.take u = enc n ∧ u = (enc n).length := by
  cases l with
  | nil => simp [look] at h
  | cons k t =>
    simp only [look] at h
    split at h
    · simp at h
    split at h
    · simp at h
    split at h
    · simp at h
    split at h
    · simp at h
    rename_i h1 h2 h3 h4
    simp only [Prod.mk.injEq, and_true] at h
    obtain ⟨rfl, rfl⟩ := h
    have hb := be_val _ h3
    have hlen : (t.take k.toNat).length = k.toNat := by rw [List.length_take]; omega
    have he : enc (val (t.take k.toNat)) = k :: t.take k.toNat := by
      unfold enc
      rw [hb, hlen]
      congr 1
      apply UInt8.toNat_inj.1
      rw [UInt8.toNat_ofNat']
      exact Nat.mod_eq_of_lt k.toNat_lt
    refine ⟨by omega, by simp; omega, by rw [he]; simp, by rw [he]; simp; omega⟩
/-- A part of what is put is too short. -/
theorem look_short {n : Nat} (h : n < 9223372036854775808) {c : Nat} (hc : c < (enc n).length) (r : List UInt8) : look ((enc n ++ r).take c) = (0, 0, 3) := by
  have h8 := be_len8 h
  have hl := toNat_len h
  rw [enc_length] at hc
  rw [List.take_append_of_le_length (by rw [enc_length]; omega)]
  cases c with
  | zero => simp [look]
  | succ c =>
    simp only [enc, List.take_succ_cons, look, hl]
    rw [if_neg (by omega), if_pos (by rw [List.length_take]; omega)]
theorem look_cases (l : List UInt8) : (∃ n u, look l = (n, u, 0)) ∨ look l = (0, 0, 2) ∨ look l = (0, 0, 3) := by
  cases l with
  | nil => simp [look]
  | cons k t =>
    simp only [look]
    repeat' split
    all_goals simp
end Go.Proofs.YtaadmgbmaekicaaGreatDoor.Sh
/-
  digits: how many digits a number has.
-/
namespace Go.Proofs.YtaadmgbmaekicaaGreatDoor.Sh
open Go Go.RowKit

theorem digits_nat (n : Nat) (hn : n < 9223372036854775808) (w : World) :
    Calls Tryz.prog 123 #[.int .i64 (n : Int)] w fun e w' => e = .returned (.int .i64 ((be n).length : Int)) ∧ w = w' := by
  obtain ⟨L, hL⟩ : ∃ L, (be n).length = L := ⟨_, rfl⟩
  rw [hL]
  have hL8 : L ≤ 8 := by rw [← hL]; exact be_len8 hn
  have HL := hid hL
  clear hL
  go_enter Tryz.func123, Tryz.ntmps123
  go_wp2
  go_loopw [0, 3] (fun x y wr => ∃ m k : Nat, x = .int .i64 m ∧ y = .int .i64 k ∧ m < 9223372036854775808 ∧ k ≤ L ∧ Hid (k + (be m).length = L) ∧ w = wr) (fun x _ _ => (intOf x).toNat)
  case atStart => exact ⟨n, 0, rfl, rfl, hn, by omega, hid (by rw [HL.out]; omega), rfl⟩
  case round =>
    obtain ⟨m, k, rfl, rfl, hm, hk, hs, rfl⟩ := hrel
    by_cases hpos : 0 < m
    · have hz : (0 : Int) < (m : Int) := by omega
      have HB := hid (be_len_step hpos)
      have hk2 : k + 1 ≤ L := by have := hs.out; have := HB.out; omega
      have HS : Hid (k + 1 + (be (m / 256)).length = L) := by have := hs.out; have := HB.out; exact hid (by omega)
      go_wp2
      go_roundw
      case rel => exact ⟨m / 256, k + 1, by go_num, by go_num, by omega, hk2, HS, trivial⟩
      case measure => simp [intOf]; omega
    · obtain rfl : m = 0 := by omega
      have HK : Hid (k = L) := by have := hs.out; rw [be_zero] at this; exact hid (by simpa using this)
      go_wp2
      go_ret
      exact ⟨by rw [HK.out]; rfl, rfl⟩
theorem digits_neg (n : Int) (hn : n < 0) (w : World) :
    Calls Tryz.prog 123 #[.int .i64 n] w fun e w' => e = .returned (.int .i64 ((be n.toNat).length : Int)) ∧ w = w' := by
  rw [show n.toNat = 0 by omega, be_zero]
  have h0 : ¬ (0 < n) := by omega
  go_enter Tryz.func123, Tryz.ntmps123
  go_wp2
  refine wp_loop_rounds 1 ?_
  rw [rounds_succ]
  go_wp2
  go_ret
  exact ⟨rfl, rfl⟩
theorem digits_any (n : Int) (h0 : n < 9223372036854775808) (w : World) :
    Calls Tryz.prog 123 #[.int .i64 n] w fun e w' => e = .returned (.int .i64 ((be n.toNat).length : Int)) ∧ w = w' := by
  rcases Int.lt_or_le n 0 with h | h
  · exact digits_neg n h w
  · have := digits_nat n.toNat (by omega) w
    rwa [Int.toNat_of_nonneg h] at this
end Go.Proofs.YtaadmgbmaekicaaGreatDoor.Sh
/-
  followed, Number, Text: what is put.
-/
namespace Go.Proofs.YtaadmgbmaekicaaGreatDoor.Sh
open Go Go.RowKit

theorem enc_take (m j D : Nat) (hD : (be m).length = D) (hj : j < D) : (be m).take (j + 1) = (be m).take j ++ [UInt8.ofNat (m / 256 ^ (D - 1 - j) % 256)] := by
  have h := be_digit m (D - 1 - j) (by omega)
  rw [hD, show D - 1 - (D - 1 - j) = j by omega] at h
  exact take_succ_of h

theorem shr_digit (z I : Int) (D j : Nat) (hz : 0 ≤ z) (hj : j < D) (hI : I = (D : Int) - 1 - j) : z / 2 ^ (8 * I).toNat % 256 = ((UInt8.ofNat (z.toNat / 256 ^ (D - 1 - j) % 256)).toNat : Int) := by
  obtain ⟨m, rfl⟩ := Int.eq_ofNat_of_zero_le hz
  rw [ofNat_mod, Int.toNat_natCast, show (8 * I).toNat = 8 * (D - 1 - j) by omega, Int.natCast_emod, Int.natCast_ediv, Int.natCast_pow, Int.pow_mul]
  rfl
theorem pos_of_len {z : Int} {D : Nat} (h : (be z.toNat).length = D) (hD : 0 < D) : 0 ≤ z := by
  rcases Int.lt_or_le z 0 with h0 | h0
  · rw [show z.toNat = 0 by omega, be_zero] at h
    simp at h
    omega
  · exact h0

set_option maxHeartbeats 2000000 in
theorem followed_any (A : Option Addr) (l : List UInt8) (z : Int) (s : ByteArray) (n c : Nat) (hn : l.length = n) (hL : n ≤ 1099511627776)
    (hz : z < 9223372036854775808) (hz0 : -9223372036854775808 ≤ z) (hs : s.size ≤ 1099511627776) (w : World) (hb : Byt w w.heap.size A l) :
    Calls Tryz.prog 97 #[.slice A n c, .int .i64 z, .string s] w fun e w' => ∃ A' c' N, e = .returned (.slice A' N c') ∧ N = n + (enc z.toNat).length + s.size ∧ N ≤ c' ∧ c' ≤ 9223372036854775807 ∧
      OwnB w' w.heap.size (.slice A' N c') N (l ++ enc z.toNat ++ s.data.toList) ∧ Below w.heap.size w w' := by
  obtain ⟨i0, hi0, hzz0, hzz1, hzz2⟩ := info_parts info_u8
  obtain ⟨D, hD⟩ : ∃ D, (be z.toNat).length = D := ⟨_, rfl⟩
  have hD8 : D ≤ 8 := by rw [← hD]; exact be_len8 (by omega)
  have HC := hid (fun w => hD ▸ digits_any z hz w)
  have HN := hid hn
  have HD := hid hD
  have d1 : IntKind.u8.wrap (D : Int) = (D : Int) := by rw [IntKind.wrap_u8']; omega
  obtain ⟨dx, hdx⟩ : ∃ x : UInt8, x = UInt8.ofNat D := ⟨_, rfl⟩
  have hdz : (D : Int) = (dx.toNat : Int) := by rw [hdx, UInt8.toNat_ofNat', Nat.mod_eq_of_lt (by omega)]
  have HDX := hid hdx
  have HDZ := hid hdz
  clear hn hD hdx hdz
  go_enter Tryz.func97, Tryz.ntmps97
  go_wp2_with fail
  refine (HC.out w).mono ?_
  rintro er w' ⟨rfl, rfl⟩
  go_wp2_with (first
    | (at_make; refine wpList_make_own _ rfl _ _ 22 rfl w.heap.size 5 i0 (.int .u8 0) 1 Tryz.underlying22 hi0 hzz0 hzz1 .i64 .i64 _ (n + 1 + D + s.size) rfl rfl (by omega) (by rw [hzz2]; omega) (by unfold maxLen; omega) (Nat.le_refl _) ?_; intro w1 hown1 hg1; have b1 : Below w.heap.size w w1 := (Below.refl _ _).grown hg1 (Nat.le_refl _) (by simp); have o1 : OwnB w1 w.heap.size (.slice (some ⟨w.heap.size, 0, none⟩) 0 (n + 1 + D + s.size)) 0 [] := hown1; have y1 := hb.below b1; clear hg1 hown1)
    | (at_builtin; refine wpList_appB rfl (.tmp 21) (.tmp 22) rfl w.heap.size _ 0 [] o1 rfl A n c l rfl HN.out y1.reads (by omega) b1.size w b1 n (by omega) ?_; intro A2 c2 w2 o2 _ b2; clear o1 b1 y1)
    | (at_builtin; refine wpList_appB rfl (.tmp 24) (.tmp 27) rfl w.heap.size (.slice A2 n c2) n _ (OwnB.alloc o2 _) rfl (some ⟨w2.heap.size, 0, none⟩) 1 1 [dx] rfl rfl (reads_byte w2 _ dx (by rw [← HDZ.out]) _ _) (by omega) (le_alloc b2.size _) w (b2.alloc b2.size _) (n + 1) (by omega) ?_; intro A3 c3 w3 o3 _ b3; clear o2 b2))
  go_loopw [8, 9] (fun v i wr => ∃ (j N cr : Nat) (I : Int) (Ar : Option Addr), v = .slice Ar N cr ∧ i = .int .i64 I ∧ N ≤ n + 1 + D ∧ -1 ≤ I ∧ I < (D : Int) ∧ Hid (I = (D : Int) - 1 - j) ∧ Hid (N = n + 1 + j) ∧ OwnB wr w.heap.size (.slice Ar N cr) N (l ++ [dx] ++ (be z.toNat).take j) ∧ Below w.heap.size w wr) (fun _ i _ => (intOf i + 1).toNat)
  case atStart => exact ⟨0, n + 1, c3, _, A3, rfl, rfl, by omega, by omega, by omega, hid (by omega), hid (by omega), by simpa using o3, b3⟩
  case round =>
    clear o3 b3
    obtain ⟨j, N, cr, I, Ar, rfl, rfl, hN1, hI0, hI1, HI, HNN, own, bel⟩ := hrel
    by_cases hlt : 0 ≤ I
    · obtain ⟨x, hx⟩ : ∃ x, x = UInt8.ofNat (z.toNat / 256 ^ (D - 1 - j) % 256) := ⟨_, rfl⟩
      have hjD : j < D := by have := HI.out; omega
      have hz1 := pos_of_len HD.out (by omega)
      have HX : Hid (z / 2 ^ (8 * I).toNat % 256 = (x.toNat : Int)) := hid (by rw [hx]; exact shr_digit z I D j hz1 hjD HI.out)
      have HT : Hid ((be z.toNat).take (j + 1) = (be z.toNat).take j ++ [x]) := hid (by rw [hx]; exact enc_take _ j D HD.out hjD)
      clear hx
      go_wp2_with (at_builtin; refine wpList_appB rfl (.tmp 35) (.tmp 41) rfl w.heap.size (.slice Ar N cr) N _ (OwnB.alloc own _) rfl (some ⟨wr.heap.size, 0, none⟩) 1 1 [x] rfl rfl (reads_byte wr _ x HX.out _ _) (by omega) (le_alloc bel.size _) w (bel.alloc bel.size _) (N + 1) (by omega) ?_; intro A4 c4 w4 o4 _ b4; clear own bel)
      have o5 : Hid (OwnB w4 w.heap.size (.slice A4 (N + 1) c4) (N + 1) (l ++ [dx] ++ (be z.toNat).take (j + 1))) := hid (by rw [HT.out, ← List.append_assoc]; exact o4)
      clear o4
      go_roundw
      case rel => exact ⟨j + 1, N + 1, c4, I - 1, A4, rfl, by go_num, by have := HNN.out; omega, by omega, by omega, hid (by have := HI.out; omega), hid (by have := HNN.out; omega), o5.out, b4⟩
      case measure => simp [intOf]; omega
    · have HE : Hid ((be z.toNat).take j = be z.toNat) := hid (List.take_of_length_le (by rw [HD.out]; have := HI.out; omega))
      have HNE : Hid (N + s.size = n + (enc z.toNat).length + s.size) := hid (by rw [enc_length, HD.out]; have := HI.out; have := HNN.out; omega)
      have HEN : Hid ([dx] ++ be z.toNat = enc z.toNat) := hid (by rw [HDX.out, enc, HD.out]; rfl)
      rw [HE.out, List.append_assoc, HEN.out] at own
      go_wp2_with (at_builtin; refine wpList_appS rfl (.tmp 43) (.tmp 44) rfl w.heap.size (.slice Ar N cr) N _ own rfl s rfl (by omega) bel.size w bel (N + s.size) rfl ?_; intro A4 c4 w4 o4 _ b4; clear own bel)
      have h1 := OwnB.cap o4
      have h2 := OwnB.cap_max o4
      have O4 := hid o4
      clear o4
      go_ret
      exact ⟨A4, c4, _, rfl, HNE.out, h1, h2, by first | exact O4.out | (rw [← List.append_assoc]; exact O4.out), b4⟩

/-- What Number and Text tell: new bytes, l ahead, then k. -/
def Puts (w w' : World) (e : Ending) (l k : List UInt8) : Prop := ∃ A' c' N, e = .returned (.slice A' N c') ∧ N = l.length + k.length ∧ N ≤ c' ∧ c' ≤ 9223372036854775807 ∧ OwnB w' w.heap.size (.slice A' N c') N (l ++ k) ∧ Below w.heap.size w w'
def encText (s : ByteArray) : List UInt8 := enc s.size ++ s.data.toList
theorem encText_length (s : ByteArray) : (encText s).length = (enc s.size).length + s.size := by rw [encText, List.length_append, size_list]

theorem number_any (A : Option Addr) (l : List UInt8) (z : Int) (n c : Nat) (hn : l.length = n) (hL : n ≤ 1099511627776)
    (hz : z < 9223372036854775808) (hz0 : -9223372036854775808 ≤ z) (w : World) (hb : Byt w w.heap.size A l) :
    Calls Tryz.prog 48 #[.slice A n c, .int .i64 z] w fun e w' => Puts w w' e l (enc z.toNat) := by
  have HC := hid (followed_any A l z ⟨#[]⟩ n c hn hL hz hz0 (by decide) w hb)
  have HN := hid hn
  clear hn hb
  go_enter Tryz.func48, Tryz.ntmps48
  go_wp2_with fail
  refine HC.out.mono ?_
  rintro er w2 ⟨A2, c2, N, rfl, h1, h2, h3, h4, h5⟩
  have H1 := hid h1
  have H4 := hid h4
  clear h1 h4
  go_wp2
  go_ret
  refine ⟨A2, c2, N, rfl, ?_, h2, h3, ?_, h5⟩
  · have := H1.out; rw [HN.out, this]; rfl
  · have := H4.out; simpa using this
theorem text_any (A : Option Addr) (l : List UInt8) (s : ByteArray) (n c : Nat) (hn : l.length = n) (hL : n ≤ 1099511627776)
    (hs : s.size ≤ 1099511627776) (w : World) (hb : Byt w w.heap.size A l) :
    Calls Tryz.prog 51 #[.slice A n c, .string s] w fun e w' => Puts w w' e l (encText s) := by
  have HC := hid (followed_any A l (s.size : Int) s n c hn hL (by omega) (by omega) hs w hb)
  have HN := hid hn
  clear hn hb
  go_enter Tryz.func51, Tryz.ntmps51
  go_wp2_with fail
  refine HC.out.mono ?_
  rintro er w2 ⟨A2, c2, N, rfl, h1, h2, h3, h4, h5⟩
  have H1 := hid h1
  have H4 := hid h4
  clear h1 h4
  go_wp2
  go_ret
  refine ⟨A2, c2, N, rfl, ?_, h2, h3, ?_, h5⟩
  · have := H1.out; rw [HN.out, encText_length]; simp only [Int.toNat_natCast] at this; omega
  · have := H4.out; rw [encText, ← List.append_assoc]; simpa only [Int.toNat_natCast] using this
end Go.Proofs.YtaadmgbmaekicaaGreatDoor.Sh
