/-
  followed, Number, Text: what is put.
-/
import Derived.Test.YtkaakbgpkpkeeaaWiDig
import Derived.Laws.ShiftsVar
namespace Go.Proofs.Ytkaakbgpkpkeeaa.Sh
open Go Go.RowKit

theorem enc_take (m j D : Nat) (hD : (be m).length = D) (hj : j < D) : (be m).take (j + 1) = (be m).take j ++ [UInt8.ofNat (m / 256 ^ (D - 1 - j) % 256)] := by
  have h := be_digit m (D - 1 - j) (by omega)
  rw [hD, show D - 1 - (D - 1 - j) = j by omega] at h
  exact take_succ_of h

theorem shr_digit (z I : Int) (D j : Nat) (hz : 0 ≤ z) (hj : j < D) (hI : I = (D : Int) - 1 - j) : z / 2 ^ (8 * I).toNat % 256 = ((UInt8.ofNat (z.toNat / 256 ^ (D - 1 - j) % 256)).toNat : Int) := by
  obtain ⟨m, rfl⟩ := Int.eq_ofNat_of_zero_le hz
  rw [ofNat_mod, Int.toNat_natCast, show (8 * I).toNat = 8 * (D - 1 - j) by omega, Int.natCast_emod, Int.natCast_ediv, Int.natCast_pow, Int.pow_mul]
  rfl
theorem pos_of_len {z : Int} {D : Nat} (h : (be z.toNat).length = D) (hD : 0 < D) : 0 ≤ z := by
  rcases Int.lt_or_le z 0 with h0 | h0
  · rw [show z.toNat = 0 by omega, be_zero] at h
    simp at h
    omega
  · exact h0

set_option maxHeartbeats 2000000 in
theorem followed_any (A : Option Addr) (l : List UInt8) (z : Int) (s : ByteArray) (n c : Nat) (hn : l.length = n) (hL : n ≤ 1099511627776)
    (hz : z < 9223372036854775808) (hz0 : -9223372036854775808 ≤ z) (hs : s.size ≤ 1099511627776) (w : World) (hb : Byt w w.heap.size A l) :
    Calls Try.prog 47 #[.slice A n c, .int .i64 z, .string s] w fun e w' => ∃ A' c' N, e = .returned (.slice A' N c') ∧ N = n + (enc z.toNat).length + s.size ∧ N ≤ c' ∧ c' ≤ 9223372036854775807 ∧
      OwnB w' w.heap.size (.slice A' N c') N (l ++ enc z.toNat ++ s.data.toList) ∧ Below w.heap.size w w' := by
  obtain ⟨i0, hi0, hzz0, hzz1, hzz2⟩ := info_parts info_u8
  obtain ⟨D, hD⟩ : ∃ D, (be z.toNat).length = D := ⟨_, rfl⟩
  have hD8 : D ≤ 8 := by rw [← hD]; exact be_len8 (by omega)
  have HC := hid (fun w => hD ▸ digits_any z hz w)
  have HN := hid hn
  have HD := hid hD
  have d1 : IntKind.u8.wrap (D : Int) = (D : Int) := by rw [IntKind.wrap_u8']; omega
  obtain ⟨dx, hdx⟩ : ∃ x : UInt8, x = UInt8.ofNat D := ⟨_, rfl⟩
  have hdz : (D : Int) = (dx.toNat : Int) := by rw [hdx, UInt8.toNat_ofNat', Nat.mod_eq_of_lt (by omega)]
  have HDX := hid hdx
  have HDZ := hid hdz
  clear hn hD hdx hdz
  go_enter Try.func47, Try.ntmps47
  go_wp2_with fail
  refine (HC.out w).mono ?_
  rintro er w' ⟨rfl, rfl⟩
  go_wp2_with (first
    | (at_make; refine wpList_make_own _ rfl _ _ 32 rfl w.heap.size 5 i0 (.int .u8 0) 1 Try.underlying32 hi0 hzz0 hzz1 .i64 .i64 _ (n + 1 + D + s.size) rfl rfl (by omega) (by rw [hzz2]; omega) (by unfold maxLen; omega) (Nat.le_refl _) ?_; intro w1 hown1 hg1; have b1 : Below w.heap.size w w1 := (Below.refl _ _).grown hg1 (Nat.le_refl _) (by simp); have o1 : OwnB w1 w.heap.size (.slice (some ⟨w.heap.size, 0, none⟩) 0 (n + 1 + D + s.size)) 0 [] := hown1; have y1 := hb.below b1; clear hg1 hown1)
    | (at_builtin; refine wpList_appB rfl (.tmp 21) (.tmp 22) rfl w.heap.size _ 0 [] o1 rfl A n c l rfl HN.out y1.reads (by omega) b1.size w b1 n (by omega) ?_; intro A2 c2 w2 o2 _ b2; clear o1 b1 y1)
    | (at_builtin; refine wpList_appB rfl (.tmp 24) (.tmp 27) rfl w.heap.size (.slice A2 n c2) n _ (OwnB.alloc o2 _) rfl (some ⟨w2.heap.size, 0, none⟩) 1 1 [dx] rfl rfl (reads_byte w2 _ dx (by rw [← HDZ.out]) _ _) (by omega) (le_alloc b2.size _) w (b2.alloc b2.size _) (n + 1) (by omega) ?_; intro A3 c3 w3 o3 _ b3; clear o2 b2))
  go_loopw [8, 9] (fun v i wr => ∃ (j N cr : Nat) (I : Int) (Ar : Option Addr), v = .slice Ar N cr ∧ i = .int .i64 I ∧ N ≤ n + 1 + D ∧ -1 ≤ I ∧ I < (D : Int) ∧ Hid (I = (D : Int) - 1 - j) ∧ Hid (N = n + 1 + j) ∧ OwnB wr w.heap.size (.slice Ar N cr) N (l ++ [dx] ++ (be z.toNat).take j) ∧ Below w.heap.size w wr) (fun _ i _ => (intOf i + 1).toNat)
  case atStart => exact ⟨0, n + 1, c3, _, A3, rfl, rfl, by omega, by omega, by omega, hid (by omega), hid (by omega), by simpa using o3, b3⟩
  case round =>
    clear o3 b3
    obtain ⟨j, N, cr, I, Ar, rfl, rfl, hN1, hI0, hI1, HI, HNN, own, bel⟩ := hrel
    by_cases hlt : 0 ≤ I
    · obtain ⟨x, hx⟩ : ∃ x, x = UInt8.ofNat (z.toNat / 256 ^ (D - 1 - j) % 256) := ⟨_, rfl⟩
      have hjD : j < D := by have := HI.out; omega
      have hz1 := pos_of_len HD.out (by omega)
      have HX : Hid (z / 2 ^ (8 * I).toNat % 256 = (x.toNat : Int)) := hid (by rw [hx]; exact shr_digit z I D j hz1 hjD HI.out)
      have HT : Hid ((be z.toNat).take (j + 1) = (be z.toNat).take j ++ [x]) := hid (by rw [hx]; exact enc_take _ j D HD.out hjD)
      clear hx
      go_wp2_with (at_builtin; refine wpList_appB rfl (.tmp 35) (.tmp 41) rfl w.heap.size (.slice Ar N cr) N _ (OwnB.alloc own _) rfl (some ⟨wr.heap.size, 0, none⟩) 1 1 [x] rfl rfl (reads_byte wr _ x HX.out _ _) (by omega) (le_alloc bel.size _) w (bel.alloc bel.size _) (N + 1) (by omega) ?_; intro A4 c4 w4 o4 _ b4; clear own bel)
      have o5 : Hid (OwnB w4 w.heap.size (.slice A4 (N + 1) c4) (N + 1) (l ++ [dx] ++ (be z.toNat).take (j + 1))) := hid (by rw [HT.out, ← List.append_assoc]; exact o4)
      clear o4
      go_roundw
      case rel => exact ⟨j + 1, N + 1, c4, I - 1, A4, rfl, by go_num, by have := HNN.out; omega, by omega, by omega, hid (by have := HI.out; omega), hid (by have := HNN.out; omega), o5.out, b4⟩
      case measure => simp [intOf]; omega
    · have HE : Hid ((be z.toNat).take j = be z.toNat) := hid (List.take_of_length_le (by rw [HD.out]; have := HI.out; omega))
      have HNE : Hid (N + s.size = n + (enc z.toNat).length + s.size) := hid (by rw [enc_length, HD.out]; have := HI.out; have := HNN.out; omega)
      have HEN : Hid ([dx] ++ be z.toNat = enc z.toNat) := hid (by rw [HDX.out, enc, HD.out]; rfl)
      rw [HE.out, List.append_assoc, HEN.out] at own
      go_wp2_with (at_builtin; refine wpList_appS rfl (.tmp 43) (.tmp 44) rfl w.heap.size (.slice Ar N cr) N _ own rfl s rfl (by omega) bel.size w bel (N + s.size) rfl ?_; intro A4 c4 w4 o4 _ b4; clear own bel)
      have h1 := OwnB.cap o4
      have h2 := OwnB.cap_max o4
      have O4 := hid o4
      clear o4
      go_ret
      exact ⟨A4, c4, _, rfl, HNE.out, h1, h2, by first | exact O4.out | (rw [← List.append_assoc]; exact O4.out), b4⟩

/-- What Number and Text tell: new bytes, l ahead, then k. -/
def Puts (w w' : World) (e : Ending) (l k : List UInt8) : Prop := ∃ A' c' N, e = .returned (.slice A' N c') ∧ N = l.length + k.length ∧ N ≤ c' ∧ c' ≤ 9223372036854775807 ∧ OwnB w' w.heap.size (.slice A' N c') N (l ++ k) ∧ Below w.heap.size w w'
def encText (s : ByteArray) : List UInt8 := enc s.size ++ s.data.toList
theorem encText_length (s : ByteArray) : (encText s).length = (enc s.size).length + s.size := by rw [encText, List.length_append, size_list]

theorem number_any (A : Option Addr) (l : List UInt8) (z : Int) (n c : Nat) (hn : l.length = n) (hL : n ≤ 1099511627776)
    (hz : z < 9223372036854775808) (hz0 : -9223372036854775808 ≤ z) (w : World) (hb : Byt w w.heap.size A l) :
    Calls Try.prog 40 #[.slice A n c, .int .i64 z] w fun e w' => Puts w w' e l (enc z.toNat) := by
  have HC := hid (followed_any A l z ⟨#[]⟩ n c hn hL hz hz0 (by decide) w hb)
  have HN := hid hn
  clear hn hb
  go_enter Try.func40, Try.ntmps40
  go_wp2_with fail
  refine HC.out.mono ?_
  rintro er w2 ⟨A2, c2, N, rfl, h1, h2, h3, h4, h5⟩
  have H1 := hid h1
  have H4 := hid h4
  clear h1 h4
  go_wp2
  go_ret
  refine ⟨A2, c2, N, rfl, ?_, h2, h3, ?_, h5⟩
  · have := H1.out; rw [HN.out, this]; rfl
  · have := H4.out; simpa using this
end Go.Proofs.Ytkaakbgpkpkeeaa.Sh
