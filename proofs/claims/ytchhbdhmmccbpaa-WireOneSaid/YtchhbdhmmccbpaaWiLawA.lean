/-
  The walks of WireSizes and WirePuts.
-/
import Derived.Test.YtchhbdhmmccbpaaWiLives
namespace Go.Proofs.Ytchhbdhmmccbpaa.Sh
open Go Go.RowKit

theorem enc_mono {a b : Int} (h : a ≤ b) : (enc a.toNat).length ≤ (enc b.toNat).length := by
  rw [enc_length, enc_length]
  have := be_len_mono b.toNat a.toNat (by omega)
  omega
/-- Number of no bytes: the length alone. -/
theorem num_len (z : Int) (hz : z < 9223372036854775808) (hz0 : -9223372036854775808 ≤ z) (w : World) :
    Calls Try.prog 11 #[.slice none 0 0, .int .i64 z] w fun e w' => ∃ A' c' N, e = .returned (.slice A' N c') ∧ N = (enc z.toNat).length ∧ Below w.heap.size w w' :=
  (number_any none [] z 0 0 rfl (by omega) hz hz0 w Byt.nil).mono fun _ _ ⟨A', c', N, h1, h2, _, _, _, h6⟩ => ⟨A', c', N, h1, by rw [h2]; simp, h6⟩

set_option maxHeartbeats 1000000 in
theorem wireSizes_walk (a b : Int) (ha : a < 9223372036854775808) (ha0 : -9223372036854775808 ≤ a) (hb : b < 9223372036854775808) (hb0 : -9223372036854775808 ≤ b) (w : World) :
    Calls Try.prog 7 #[.int .i64 a, .int .i64 b] w fun e w' => e = .returned (.bool true) ∧ Below w.heap.size w w' := by
  have HA := hid (fun w => num_len a ha ha0 w)
  have HB := hid (fun w => num_len b hb hb0 w)
  by_cases hab : b < a
  · have hm := enc_mono (Int.le_of_lt hab)
    have HM := hid hm
    clear hm
    go_enter Try.func7, Try.ntmps7
    go_wp2_with fail
    refine (HB.out w).mono ?_
    rintro er w1 ⟨A1, c1, N1, rfl, h1, b1⟩
    have H1 := hid h1
    clear h1
    go_wp2_with fail
    refine (HA.out w1).mono ?_
    rintro er w2 ⟨A2, c2, N2, rfl, h2, b2⟩
    have hle : (N1 : Int) ≤ (N2 : Int) := by have := H1.out; have := HM.out; omega
    have b02 := b1.trans (b2.mono b1.size)
    clear h2 b1 b2
    go_wp2_with fail
    refine (lives_any w2).mono ?_
    rintro er w3 ⟨rfl, b3⟩
    have b03 := b02.trans (b3.mono b02.size)
    go_wp2
    go_ret
    exact ⟨rfl, b03⟩
  · have hm := enc_mono (a := a) (b := b) (by omega)
    have HM := hid hm
    clear hm
    go_enter Try.func7, Try.ntmps7
    go_wp2_with fail
    refine (HA.out w).mono ?_
    rintro er w1 ⟨A1, c1, N1, rfl, h1, b1⟩
    have H1 := hid h1
    clear h1
    go_wp2_with fail
    refine (HB.out w1).mono ?_
    rintro er w2 ⟨A2, c2, N2, rfl, h2, b2⟩
    have hle : (N1 : Int) ≤ (N2 : Int) := by have := H1.out; have := HM.out; omega
    have b02 := b1.trans (b2.mono b1.size)
    clear h2 b1 b2
    go_wp2_with fail
    refine (lives_any w2).mono ?_
    rintro er w3 ⟨rfl, b3⟩
    have b03 := b02.trans (b3.mono b02.size)
    go_wp2
    go_ret
    exact ⟨rfl, b03⟩

/-- What few leaves. -/
theorem Byt.few {w : World} {B : Nat} {A : Option Addr} {l : List UInt8} {n k : Nat} (h : Byt w B A l) (hn : l.length = n) : Byt w B A (l.take k) ∧ (l.take k).length = min k n := ⟨h.head, by rw [List.length_take, hn]⟩

set_option maxHeartbeats 2000000 in
theorem wirePuts_walk (A T : Option Addr) (l t : List UInt8) (z : Int) (n c m d : Nat) (hn : l.length = n) (hm : t.length = m) (hc : n ≤ c) (hd : m ≤ d)
    (hz : z < 9223372036854775808) (hz0 : -9223372036854775808 ≤ z) (w : World) (hb : Byt w w.heap.size A l) (ht : Byt w w.heap.size T t) :
    Calls Try.prog 3 #[.slice A n c, .int .i64 z, .slice T m d] w fun e w' => e = .returned (.bool true) ∧ Below w.heap.size w w' := by
  have F1 := hid (few_any A l n c 50 hn hc w)
  have F2 := hid (few_any T t m d 300 hm hd w)
  obtain ⟨hb1, hl1⟩ := hb.few (k := 50) hn
  obtain ⟨ht1, hm1⟩ := ht.few (k := 300) hm
  obtain ⟨l1, hl1'⟩ : ∃ l1, l1 = l.take 50 := ⟨_, rfl⟩
  obtain ⟨t1, ht1'⟩ : ∃ t1, t1 = t.take 300 := ⟨_, rfl⟩
  obtain ⟨n1, hn1⟩ : ∃ n1, n1 = min 50 n := ⟨_, rfl⟩
  obtain ⟨m1, hm1'⟩ : ∃ m1, m1 = min 300 m := ⟨_, rfl⟩
  rw [← hl1'] at hb1 hl1
  rw [← ht1'] at ht1 hm1
  rw [← hn1] at hl1 F1
  rw [← hm1'] at hm1 F2
  have hn50 : n1 ≤ 50 := by omega
  have hm300 : m1 ≤ 300 := by omega
  have hs : (⟨t1.toArray⟩ : ByteArray).size ≤ 300 := by show t1.toArray.size ≤ 300; rw [List.size_toArray]; omega
  have HN := hid (fun W (hW : Below w.heap.size w W) => number_any A l1 z n1 c hl1 (by omega) hz hz0 W ((hb1.below hW).more hW.size))
  have HRN := hid (fun W (hW : Below w.heap.size w W) => refNumber_any A l1 z n1 c hl1 (by omega) hz hz0 W ((hb1.below hW).more hW.size))
  have HT := hid (fun W (hW : Below w.heap.size w W) => text_any A l1 ⟨t1.toArray⟩ n1 c hl1 (by omega) (by omega) W ((hb1.below hW).more hW.size))
  have HRT := hid (fun W (hW : Below w.heap.size w W) => refText_any A l1 ⟨t1.toArray⟩ n1 c hl1 (by omega) (by omega) W ((hb1.below hW).more hW.size))
  have HCV := hid (fun W (hW : Below w.heap.size w W) => conv_byt (n := m1) (c := d) (ht1.below hW) hm1)
  have HE9 := hid (enc_len_le (n := z.toNat) (by omega))
  have HE8 := hid (enc_len_le (n := (⟨t1.toArray⟩ : ByteArray).size) (by omega))
  have HL1 := hid hl1
  have HS := hid hs
  clear hn hm hb ht hb1 ht1 hl1 hm1 hl1' ht1' hn1 hm1' hs
  go_enter Try.func3, Try.ntmps3
  go_wp2_with fail
  refine F1.out.mono ?_
  rintro er w' ⟨rfl, rfl⟩
  go_wp2_with fail
  refine F2.out.mono ?_
  rintro er w' ⟨rfl, rfl⟩
  clear F1 F2
  go_wp2_with fail
  refine (HN.out w (Below.refl _ _)).mono ?_
  rintro er w1 ⟨A1, c1, N1, rfl, h1, h2, h3, o1, b1⟩
  have y1 := o1.byt
  have hN1 := hid h1
  clear h1 h2 h3 o1
  go_wp2_with fail
  refine (HRN.out w1 b1).mono ?_
  rintro er w2 ⟨A2, c2, N2, rfl, h1, h2, h3, o2, b2⟩
  have y2 := o2.byt
  obtain rfl : N2 = N1 := by rw [h1, hN1.out]
  have b02 := b1.trans (b2.mono b1.size)
  have HQ := hid (same_eq A1 A2 _ N2 c1 c2 (by rw [List.length_append, h1]) (by have := HL1.out; have := HE9.out; omega) w2 ((y1.below b2).more b2.size) y2)
  clear h1 h2 h3 o2 b1 b2 y1 y2
  go_wp2_with fail
  refine HQ.out.mono ?_
  rintro er w3 ⟨rfl, hq⟩
  have b03 : Below w.heap.size w w3 := by obtain ⟨q, rfl⟩ := hq; exact below_drewN b02 q
  clear hq HQ b02
  have hcv := HCV.out w3.drew b03.drew
  go_wp2_with fail
  have B03 := hid b03.drew
  clear b03
  go_region_with ((first
    | (go_at_call 13; (refine (HT.out _ B03.out).mono ?_); rintro er w4 ⟨A4, c4, N4, rfl, h1, h2, h3, o4, b4⟩; have y4 := hid o4.byt; have hN4 := hid h1; have hBB4 := hid (B03.out.trans (b4.mono B03.out.size)); have hcv4 := HCV.out w4 hBB4.out; clear h1 h2 h3 o4 b4 hcv)
    | (go_at_call 14; (refine (HRT.out _ hBB4.out).mono ?_); rintro er w5 ⟨A5, c5, N5, rfl, h1, h2, h3, o5, b5⟩; obtain rfl : N5 = N4 := (by rw [h1, hN4.out]); have hBB5 := hid (hBB4.out.trans (b5.mono hBB4.out.size)); have HQ := hid (same_eq A4 A5 _ N5 c4 c5 (by rw [List.length_append, h1]) (by have := HL1.out; have := HE8.out; have := HS.out; rw [h1, encText_length]; omega) w5 ((y4.out.below b5).more b5.size) o5.byt); clear h1 h2 h3 o5 b5 hcv4)
    | (go_at_call 10; (refine HQ.out.mono ?_); rintro er w6 ⟨rfl, hq⟩; have b06 : Below w.heap.size w w6 := (by obtain ⟨q, rfl⟩ := hq; exact below_drewN hBB5.out q); clear hq)
    | fail))
  all_goals
    go_wp2_with fail
    refine (lives_any w6).mono ?_
    rintro er w7 ⟨rfl, b7⟩
    have b07 := b06.trans (b7.mono b06.size)
    go_wp2
    go_ret
    exact ⟨rfl, b07⟩
end Go.Proofs.Ytchhbdhmmccbpaa.Sh
