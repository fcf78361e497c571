/-
  The walk of WireRound.
-/
import Derived.Test.YtchhbdhmmccbpaaWiLawB
namespace Go.Proofs.Ytchhbdhmmccbpaa.Sh
open Go Go.RowKit

theorem num_full {N : Nat} (h : N < 9223372036854775808) (r : List UInt8) : numStep (enc N ++ r) 0 0 (N : Int) (N : Int) = ((N : Int), (enc N).length, 0) := by
  unfold numStep
  rw [if_neg (by simp), List.drop_zero, look_enc h, if_neg (by simp), if_neg (by omega), Nat.zero_add]
theorem text_full {s : ByteArray} {m : Nat} (hs : s.size = m) (hm : m ≤ 300) (a r : List UInt8) : textStep (a ++ (encText s ++ r)) a.length 0 300 = (s.data.toList, a.length + (encText s).length, 0) := by
  have hl := size_list s
  rw [hs] at hl
  unfold textStep
  have hd : (a ++ (encText s ++ r)).drop a.length = encText s ++ r := by simp
  have he : encText s ++ r = enc m ++ (s.data.toList ++ r) := by rw [encText, hs, List.append_assoc]
  rw [if_neg (by simp), hd, he, look_enc (by omega)]
  simp only
  have hel : (encText s).length = (enc m).length + m := by rw [encText_length, hs]
  rw [if_neg (by simp), if_neg (by omega), if_neg (by simp only [List.length_append]; omega), hel]
  refine Prod.ext ?_ (Prod.ext ?_ rfl)
  · show ((a ++ (enc m ++ (s.data.toList ++ r))).drop (a.length + (enc m).length)).take m = _
    rw [← List.append_assoc, List.drop_append_of_le_length (by simp), List.drop_of_length_le (by simp), List.nil_append, List.take_append_of_le_length (by omega), List.take_of_length_le (by omega)]
  · show a.length + (enc m).length + m = a.length + ((enc m).length + m)
    omega
theorem num_few {l : List UInt8} (hl : look l = (0, 0, 3)) (least most : Int) : numStep l 0 0 least most = (0, 0, 3) := by
  unfold numStep
  rw [if_neg (by simp), List.drop_zero, hl, if_pos (by decide)]
/-- A part of it is too short. -/
theorem round_short {N : Nat} (h : N < 9223372036854775808) {s : ByteArray} {m : Nat} (hs : s.size = m) (hm : m ≤ 300) {k : Nat} (hk : k < (enc N).length + (encText s).length) :
    ∃ (V p q : Nat) (S : List UInt8) (e : Int), numStep ((enc N ++ encText s).take k) 0 0 (N : Int) (N : Int) = ((V : Int), p, e) ∧ textStep ((enc N ++ encText s).take k) p e 300 = (S, q, 3) := by
  have hel : (encText s).length = (enc m).length + m := by rw [encText_length, hs]
  by_cases h1 : k < (enc N).length
  · refine ⟨0, 0, 0, [], 3, num_few (look_short h h1 _) _ _, ?_⟩
    unfold textStep
    rw [if_pos (by decide)]
  · have ht : (enc N ++ encText s).take k = enc N ++ (encText s).take (k - (enc N).length) := by
      rw [List.take_append, List.take_of_length_le (by omega)]
    rw [ht]
    refine ⟨N, (enc N).length, (enc N).length, [], 0, num_full h _, ?_⟩
    have hd : (enc N ++ (encText s).take (k - (enc N).length)).drop (enc N).length = (encText s).take (k - (enc N).length) := by simp
    unfold textStep
    rw [if_neg (by simp), hd]
    by_cases h2 : k - (enc N).length < (enc m).length
    · have : look ((encText s).take (k - (enc N).length)) = (0, 0, 3) := by
        rw [encText, hs]
        exact look_short (by omega) h2 _
      rw [this, if_pos (by decide)]
    · have h3 : (encText s).take (k - (enc N).length) = enc m ++ s.data.toList.take (k - (enc N).length - (enc m).length) := by
        rw [encText, hs, List.take_append, List.take_of_length_le (by omega)]
      have hl : (enc N ++ (encText s).take (k - (enc N).length)).length = k := by
        rw [List.length_append, List.length_take, hel]; omega
      rw [hl, h3, look_enc (by omega), if_neg (by simp), if_neg (by simp only; omega), if_pos (by simp only; omega)]
theorem turnN (z : Int) (h0 : -9223372036854775808 ≤ z) (h1 : z < 9223372036854775808) : ∃ N : Nat, N < 9223372036854775808 ∧ ((z < 0 ∧ -(z + 1) = (N : Int)) ∨ ((0 : Int) ≤ (N : Int) ∧ z = (N : Int))) := by
  rcases Int.lt_or_le z 0 with h | h
  · exact ⟨(-(z + 1)).toNat, by omega, .inl ⟨h, by omega⟩⟩
  · exact ⟨z.toNat, by omega, .inr ⟨by omega, by omega⟩⟩

set_option maxHeartbeats 8000000 in
theorem wireRound_walk (z y : Int) (T H : Option Addr) (t b : List UInt8) (m d k f : Nat) (hm : t.length = m) (hk : b.length = k) (hd : m ≤ d) (hf : k ≤ f) 
    (hz : z < 9223372036854775808) (hz0 : -9223372036854775808 ≤ z) (hy : y < 9223372036854775808) (hy0 : -9223372036854775808 ≤ y) (w : World) (ht : Byt w w.heap.size T t) (hb : Byt w w.heap.size H b) :
    Calls Try.prog 5 #[.int .i64 z, .slice T m d, .slice H k f, .int .i64 y] w fun e w' => e = .returned (.bool true) ∧ Below w.heap.size w w' := by
  have F1 := hid (few_any T t m d 300 hm hd w)
  have F2 := hid (fun W => few_any H b k f 50 hk hf W)
  obtain ⟨ht1, hm1⟩ := ht.few (k := 300) hm
  obtain ⟨hb1, hk1⟩ := hb.few (k := 50) hk
  obtain ⟨t1, ht1'⟩ : ∃ t1, t1 = t.take 300 := ⟨_, rfl⟩
  obtain ⟨b1, hb1'⟩ : ∃ b1, b1 = b.take 50 := ⟨_, rfl⟩
  obtain ⟨m1, hm1'⟩ : ∃ m1, m1 = min 300 m := ⟨_, rfl⟩
  obtain ⟨k1, hk1'⟩ : ∃ k1, k1 = min 50 k := ⟨_, rfl⟩
  rw [← ht1'] at ht1 hm1
  rw [← hb1'] at hb1 hk1
  rw [← hm1'] at hm1 F1
  rw [← hk1'] at hk1 F2
  have hm300 : m1 ≤ 300 := by omega
  have hk50 : k1 ≤ 50 := by omega
  obtain ⟨s, hs⟩ : ∃ s : ByteArray, s = ⟨t1.toArray⟩ := ⟨_, rfl⟩
  have hsz : s.size = m1 := by rw [hs]; show t1.toArray.size = m1; rw [List.size_toArray]; exact hm1
  have HCV := hid (fun W (hW : Below w.heap.size w W) => conv_byt (n := m1) (c := d) (ht1.below hW) hm1)
  rw [← hs] at HCV
  have HSZ := hid hsz
  have HB1 := hid (fun W (hW : Below w.heap.size w W) => (hb1.below hW).more hW.size)
  have HKL := hid hk1
  obtain ⟨N, hN, hNz⟩ := turnN z hz0 hz
  obtain ⟨K, hK, hKy⟩ := turnN y hy0 hy
  have HNUM := hid (fun W => number_any none [] (N : Int) 0 0 rfl (by omega) (by omega) (by omega) W Byt.nil)
  have HEN := hid (enc_len_le hN)
  have HET : Hid ((encText s).length ≤ 309) := hid (by
    rw [encText_length, hsz]
    have := enc_len_le (n := m1) (by omega)
    omega)
  have HEN1 : Hid (1 ≤ (enc N).length) := hid (by rw [enc_length]; omega)
  have HET1 : Hid (1 ≤ (encText s).length) := hid (by rw [encText_length, enc_length]; omega)
  clear hm hk ht hb ht1 hb1 hm1 hk1 ht1' hb1' hm1' hk1' hs hsz hz hz0 hy hy0
  rcases hNz with ⟨hzn, hza⟩ | ⟨hzn, rfl⟩
  all_goals rcases hKy with ⟨hyn, hya⟩ | ⟨hyn, rfl⟩
  all_goals
    go_enter Try.func5, Try.ntmps5
    go_wp2_with fail
    refine F1.out.mono ?_
    rintro er w' ⟨rfl, rfl⟩
    clear F1
    have B0 : Hid (Below w.heap.size w w.drew) := hid (Below.refl _ _).drew
    have hcv := HCV.out w.drew B0.out
    go_wp2_with fail
    go_region_with ((first
      | (go_at_call 11; (refine (HNUM.out _).mono ?_); rintro er w1 ⟨A1, c1, N1, rfl, h1, h2, h3, o1, b1⟩; rw [List.nil_append, Int.toNat_natCast] at o1; have B1 := hid (B0.out.trans (b1.mono B0.out.size)); have hcv1 := HCV.out w1 B1.out; have HTX := hid (text_any A1 (enc N) s N1 c1 o1.len (by have := HEN.out; have := o1.len; omega) (by rw [HSZ.out]; omega) w1 o1.byt); clear h1 h2 h3 o1 b1 hcv)
      | (go_at_call 13; (refine HTX.out.mono ?_); rintro er w2 ⟨A2, c2, L, rfl, hL, h2, h3, o2, b2⟩; have HLE := hid hL; clear hL; have B2 := hid (B1.out.trans (b2.mono B1.out.size)); have y2 := o2.byt; clear o2 b2)
      | fail))
    all_goals
      have hL2 : 2 ≤ L := by have := HLE.out; have := HEN1.out; have := HET1.out; omega
      have hLb : L ≤ 318 := by have := HLE.out; have := HEN.out; have := HET.out; omega
      obtain ⟨I, hIL, hI⟩ : ∃ I : Nat, I < L ∧ (K : Int) % (L : Int) = (I : Int) := ⟨K % L, Nat.mod_lt _ (by omega), by simp⟩
      obtain ⟨V, p1, q1, S, e1, hns, hts⟩ := round_short hN HSZ.out hm300 (k := I) (by rw [← HLE.out]; exact hIL)
      have HNS := hid hns
      have HTS := hid hts
      have hIc : (I : Int) ≤ (L : Int) := by omega
      have hLc : (L : Int) ≤ (c2 : Int) := by omega
      have HNEW := hid (cu_new (A := A2) (l := (enc N ++ encText s).take I) (n := I) (c := c2) (by rw [List.length_take, List.length_append, ← HLE.out]; omega) (by omega) w2 y2.head)
      have HBL : Hid ((enc N ++ encText s).length = L) := hid (by rw [List.length_append, HLE.out])
      clear h3 hns hts
      go_wp2_with fail
      rw [hI]
      have hI0 : (0 : Int) ≤ (I : Int) := Int.natCast_nonneg _
      clear hI
      refine HNEW.out.mono ?_
      rintro er w3 ⟨gs, As, cs, rfl, S3, hgs, b3⟩
      have ls := S3.lt
      have y3 := (y2.below b3).more b3.size
      have b03 := B2.out.trans (b3.mono B2.out.size)
      have s2 := B2.out.size
      clear HNEW y2 b3 B2
      go_wp2_with (at_builtin; refine wpList_appB rfl (.tmp 42) (.tmp 43) rfl w3.heap.size (.slice none 0 0) 0 [] (OwnB.nil _ _) rfl A2 L c2 _ rfl HBL.out y3.reads (by omega) (Nat.le_refl _) w3 (Below.refl _ _) L (by omega) ?_; intro A4 c4 w4 o4 _ b4)
      have b04 := b03.trans (b4.mono b03.size)
      have S4 := S3.below b4 ls
      have s3 := b03.size
      clear y3 S3 b03
      refine (F2.out w4).mono ?_
      rintro er w' ⟨rfl, rfl⟩
      have rh := (HB1.out w4 b04).reads
      have HO4 := hid o4
      clear o4
      go_wp2_with (at_builtin; refine wpList_appB rfl (.tmp 45) (.tmp 47) rfl w3.heap.size (.slice A4 L c4) L _ HO4.out rfl H k1 f b1 rfl HKL.out rh (by omega) b4.size w4 (Below.refl _ _) (L + k1) rfl ?_; intro A5 c5 w5 o5 _ b5)
      have S5 := S4.below b5 (by have := S4.lt; omega)
      have b05 : Below w.heap.size w w5 := b04.trans (b5.mono s3)
      have y5 : Byt w5 w5.heap.size A5 (enc N ++ (encText s ++ b1)) := by have := o5.byt; simpa only [List.nil_append, List.append_assoc] using this
      have HNEW2 := hid (cu_new (A := A5) (l := enc N ++ (encText s ++ b1)) (n := L + k1) (c := c5) (by rw [← List.append_assoc, List.length_append, HBL.out, HKL.out]) (by omega) w5 y5)
      have ls5 := S5.lt
      clear y5 o5 b5 rh HO4 b4 b04 S4
      refine HNEW2.out.mono ?_
      rintro er w6 ⟨gc, Ac, cc, rfl, C6, hgc, b6⟩
      have S6 := S5.below b6 ls5
      have b06 := b05.trans (b6.mono b05.size)
      clear HNEW2 S5 b6 b05
      have NS := cu_number S6 (N : Int) (N : Int)
      rw [HNS.out] at NS
      have HC7 := hid NS
      clear NS
      go_wp2_with fail
      refine HC7.out.mono ?_
      rintro er w7 ⟨rfl, S7, g7⟩
      have C7 := C6.other g7 (by omega) (.inl (by omega))
      have b07 := b06.grown g7 b06.size (fun k hk => by injection hk with hk; omega)
      clear HC7 S6 C6 b06 g7
      have NS := cu_text S7 300
      rw [HTS.out] at NS
      have HC8 := hid NS
      clear NS
      go_wp2_with fail
      refine HC8.out.mono ?_
      rintro er w8 ⟨rfl, S8, g8⟩
      have C8 := C7.other g8 (by omega) (.inl (by omega))
      have b08 := b07.grown g8 b07.size (fun k hk => by injection hk with hk; omega)
      clear HC8 S7 C7 b07 g8
      have NS := cu_number C8 (N : Int) (N : Int)
      rw [num_full hN] at NS
      have HC9 := hid NS
      clear NS
      go_wp2_with fail
      refine HC9.out.mono ?_
      rintro er w9 ⟨rfl, C9, g9⟩
      have S9 := S8.other g9 (by omega) (.inr (by omega))
      have b09 := b08.grown g9 b08.size (fun k hk => by injection hk with hk; omega)
      clear HC9 S8 C8 b08 g9
      have NS := cu_text C9 300
      have hss : (⟨s.data.toList.toArray⟩ : ByteArray) = s := by cases s; simp
      simp only [text_full HSZ.out hm300] at NS
      rw [← HLE.out, hss] at NS
      have HC10 := hid NS
      clear NS hss
      go_wp2_with fail
      refine HC10.out.mono ?_
      rintro er w10 ⟨rfl, C10, g10⟩
      have S10 := S9.other g10 (by omega) (.inr (by omega))
      have b010 := b09.grown g10 b09.size (fun k hk => by injection hk with hk; omega)
      clear HC10 S9 C9 b09 g10
      have hcv10 := HCV.out w10 b010
      have HE1 := hid (err_any gs As I cs q1 3 w10 S10.row)
      have HE2 := hid (err_any gc Ac (L + k1) cc L 0 w10 C10.row)
      have HE3 := hid (place_any gc Ac (L + k1) cc L 0 w10 C10.row)
      clear S10 C10
      go_wp2_with fail
      refine HE1.out.mono ?_
      rintro er w' ⟨rfl, rfl⟩
      go_wp2_with fail
      refine HE2.out.mono ?_
      rintro er w' ⟨rfl, rfl⟩
      go_wp2_with fail
      refine HE3.out.mono ?_
      rintro er w' ⟨rfl, rfl⟩
      go_wp2_with fail
      refine (lives_any w10).mono ?_
      rintro er w11 ⟨rfl, b11⟩
      have b011 := b010.trans (b11.mono b010.size)
      go_wp2
      go_ret
      exact ⟨rfl, b011⟩
end Go.Proofs.Ytchhbdhmmccbpaa.Sh
