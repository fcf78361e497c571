/-
  The walk of WireOne.
-/
import Derived.Test.YtchhbdhmmccbpaaWiLawA
namespace Go.Proofs.Ytchhbdhmmccbpaa.Sh
open Go Go.RowKit

theorem num_one {l : List UInt8} {least most : Int} {V p' : Nat} (h : numStep l 0 0 least most = ((V : Int), p', 0)) : l.take p' = enc V ∧ p' = (enc V).length ∧ p' ≤ l.length ∧ V < 9223372036854775808 := by
  unfold numStep at h
  rw [if_neg (by simp), List.drop_zero] at h
  split at h
  · rename_i h2
    simp only [Prod.mk.injEq] at h
    exact absurd h.2.2 h2
  · rename_i h2
    split at h
    · simp at h
    · simp only [Prod.mk.injEq, and_true, Nat.zero_add] at h
      obtain ⟨h3, h4⟩ := h
      have hl : look l = (V, p', 0) := by
        have e1 : (look l).1 = V := by omega
        have e2 : (look l).2.2 = 0 := by omega
        rw [← e1, ← h4, ← e2]
      obtain ⟨k1, k2, k3, k4⟩ := look_ok hl
      exact ⟨k3, k4, k2, k1⟩
theorem text_one {l : List UInt8} {most : Int} {S : List UInt8} {q : Nat} (h : textStep l 0 0 most = (S, q, 0)) : l.take q = encText ⟨S.toArray⟩ ∧ q = (encText ⟨S.toArray⟩).length ∧ q ≤ l.length ∧ (S.length : Int) ≤ most := by
  unfold textStep at h
  rw [if_neg (by simp), List.drop_zero] at h
  split at h
  · rename_i h2
    simp only [Prod.mk.injEq] at h
    exact absurd h.2.2 h2
  · rename_i h2
    split at h
    · simp at h
    · rename_i hm
      split at h
      · simp at h
      · rename_i h5
        simp only [Prod.mk.injEq, and_true, Nat.zero_add] at h
        obtain ⟨h3, h4⟩ := h
        obtain ⟨N, U, hl⟩ : ∃ N U, look l = (N, U, 0) := ⟨_, _, by
          have e2 : (look l).2.2 = 0 := by omega
          rw [← e2]⟩
        rw [hl] at h3 h4 h5 hm
        simp only [Nat.zero_add] at h3 h4 h5 hm
        obtain ⟨k1, k2, k3, k4⟩ := look_ok hl
        have hS : S.length = N := by rw [← h3, List.length_take, List.length_drop]; omega
        have hsz : (⟨S.toArray⟩ : ByteArray).size = N := by show S.toArray.size = N; rw [List.size_toArray]; exact hS
        have he : encText ⟨S.toArray⟩ = enc N ++ S := by rw [encText, hsz]
        refine ⟨?_, ?_, by omega, by rw [hS]; omega⟩
        · rw [he, ← h4, List.take_add, k3, h3]
        · rw [he, List.length_append, hS, ← h4, k4]

set_option maxHeartbeats 4000000 in
theorem wireOne_walk (A : Option Addr) (l : List UInt8) (n c : Nat) (hn : l.length = n) (hc : n ≤ c) (w : World) (hb : Byt w w.heap.size A l) :
    Calls Try.prog 6 #[.slice A n c] w fun e w' => e = .returned (.bool true) ∧ Below w.heap.size w w' := by
  have F1 := hid (few_any A l n c 40 hn hc w)
  obtain ⟨hb1, hl1⟩ := hb.few (k := 40) hn
  obtain ⟨l1, hl1'⟩ : ∃ l1, l1 = l.take 40 := ⟨_, rfl⟩
  obtain ⟨n1, hn1⟩ : ∃ n1, n1 = min 40 n := ⟨_, rfl⟩
  rw [← hl1'] at hb1 hl1
  rw [← hn1] at hl1 F1
  have hn40 : n1 ≤ 40 := by omega
  have hnc : n1 ≤ c := by omega
  have HB := hid (fun W (hW : Below w.heap.size w W) => (hb1.below hW).more hW.size)
  have HL := hid hl1
  obtain ⟨V, p1, e1, hns, hV, hp1, hz1⟩ := numStep_nat l1 0 0 0 9223372036854775807 (by omega)
  obtain ⟨S, q1, r1, hts⟩ : ∃ S q r, textStep l1 0 0 100 = (S, q, r) := ⟨_, _, _, rfl⟩
  have hq1 := textStep_place l1 0 0 100 (by omega)
  rw [hts] at hq1
  simp only at hq1
  rw [hl1] at hp1 hq1
  have HNO : Hid (e1 = 0 → l1.take p1 = enc V ∧ p1 = (enc V).length) := hid (by
    rintro rfl
    obtain ⟨h1, h2, _, _⟩ := num_one hns
    exact ⟨h1, h2⟩)
  have HTO : Hid (r1 = 0 → l1.take q1 = encText ⟨S.toArray⟩ ∧ q1 = (encText ⟨S.toArray⟩).length ∧ S.length ≤ 100) := hid (by
    rintro rfl
    obtain ⟨h1, h2, _, h3⟩ := text_one hts
    exact ⟨h1, h2, by omega⟩)
  have HNEW := hid (fun W (hW : Below w.heap.size w W) => cu_new (A := A) (c := c) hl1 (by omega) W (HB.out W hW))
  have HNS := hid hns
  have HTS := hid hts
  have HNUM := hid (fun W => number_any none [] (V : Int) 0 0 rfl (by omega) (by omega) (by omega) W Byt.nil)
  have hp1c : (p1 : Int) ≤ (n1 : Int) := by omega
  have hq1c : (q1 : Int) ≤ (n1 : Int) := by omega
  have hn1c : (n1 : Int) ≤ (c : Int) := by omega
  clear hn hb hb1 hl1 hl1' hn1 hns hts hz1
  go_enter Try.func6, Try.ntmps6
  go_wp2_with fail
  refine F1.out.mono ?_
  rintro er w' ⟨rfl, rfl⟩
  clear F1
  go_wp2_with fail
  refine (HNEW.out w (Below.refl _ _)).mono ?_
  rintro er w1 ⟨gc, Ac, cc, rfl, C1, hgc, b1⟩
  have lc := C1.lt
  go_wp2_with fail
  refine (HNEW.out w1 b1).mono ?_
  rintro er w2 ⟨gd, Ad, cd, rfl, D2, hgd, b2⟩
  have C2 := C1.below b2 lc
  have b02 := b1.trans (b2.mono b1.size)
  have ld := D2.lt
  have s1 := b1.size
  clear C1 b1 b2
  have NC := cu_number C2 0 9223372036854775807
  rw [HNS.out] at NC
  have HNC := hid NC
  clear NC
  go_wp2_with fail
  refine HNC.out.mono ?_
  rintro er w3 ⟨rfl, C3, g3⟩
  have D3 := D2.other g3 (by omega) (.inl (by omega))
  have b03 := b02.grown g3 b02.size (fun k hk => by injection hk with hk; omega)
  clear C2 D2 b02 HNC g3
  have ND := cu_text D3 100
  rw [HTS.out] at ND
  have HND := hid ND
  clear ND
  go_wp2_with fail
  refine HND.out.mono ?_
  rintro er w4 ⟨rfl, D4, g4⟩
  have C4 := C3.other g4 (by omega) (.inr (by omega))
  have b04 := b03.grown g4 b03.size (fun k hk => by injection hk with hk; omega)
  clear C3 D3 b03 HND g4
  have HE1 := hid (err_any gc Ac n1 cc p1 e1 w4 C4.row)
  go_wp2_with fail
  refine HE1.out.mono ?_
  rintro er w5 ⟨rfl, rfl⟩
  clear HE1
  by_cases hec : e1 = 0
  · subst hec
    obtain ⟨hne, hpe⟩ := HNO.out rfl
    have HNE := hid hne
    have HPE := hid hpe
    clear hne hpe
    have B04 := hid b04.drew
    have HD4 := hid D4
    have HPL := hid (place_any gc Ac n1 cc p1 0 w4.drew C4.row)
    clear b04 D4 C4
    go_wp2_with fail
    go_region_with ((first
      | (go_at_call 26; (refine HPL.out.mono ?_); rintro er w5 ⟨rfl, rfl⟩)
      | (go_at_call 11; (refine (HNUM.out _).mono ?_); rintro er w6 ⟨A6, c6, N6, rfl, h1, h2, h3, o6, b6⟩; obtain rfl : N6 = p1 := (by rw [h1, HPE.out]; simp only [Int.toNat_natCast, List.length_nil, Nat.zero_add]); have B06 := hid (B04.out.trans (b6.mono B04.out.size)); have D6 := hid ((HD4.out.drewN 1).below b6 HD4.out.lt); have y6 := o6.byt; rw [List.nil_append, Int.toNat_natCast, ← HNE.out] at y6; have HQ := hid (same_eq A A6 (l1.take N6) N6 c c6 (by rw [List.length_take, HL.out]; omega) (by omega) w6 (HB.out w6 B06.out).head y6); clear h1 h2 h3 o6 b6 y6)
      | (go_at_call 10; (refine HQ.out.mono ?_); rintro er w7 ⟨rfl, hq⟩; have b07 : Below w.heap.size w w7 := (by obtain ⟨q, rfl⟩ := hq; exact below_drewN B06.out q); have D7 : Cu 49 w7 w1.heap.size gd gd Ad n1 cd l1 q1 r1 := (by obtain ⟨q, rfl⟩ := hq; exact D6.out.drewN q); clear hq)
      | fail))
    all_goals
      have HE2 := hid (err_any gd Ad n1 cd q1 r1 w7 D7.row)
      go_wp2_with fail
      refine HE2.out.mono ?_
      rintro er w8 ⟨rfl, rfl⟩
      clear HE2
      by_cases hrd : r1 = 0
      · subst hrd
        obtain ⟨hne, hpe, hS⟩ := HTO.out rfl
        have HTXT := hid (fun W => text_any none [] ⟨S.toArray⟩ 0 0 rfl (by omega) (by show S.toArray.size ≤ _; rw [List.size_toArray]; omega) W Byt.nil)
        have HTE := hid hne
        have HTP := hid hpe
        clear hne hpe
        have B07 := hid b07.drew
        have HPL2 := hid (place_any gd Ad n1 cd q1 0 w7.drew D7.row)
        clear b07 D7
        go_wp2_with fail
        go_region_with ((first
          | (go_at_call 26; (refine HPL2.out.mono ?_); rintro er w9 ⟨rfl, rfl⟩)
          | (go_at_call 13; (refine (HTXT.out _).mono ?_); rintro er w10 ⟨A10, c10, N10, rfl, h1, h2, h3, o10, b10⟩; obtain rfl : N10 = q1 := (by rw [h1, HTP.out]; simp only [List.length_nil, Nat.zero_add]); have B10 := hid (B07.out.trans (b10.mono B07.out.size)); have y10 := o10.byt; rw [List.nil_append, ← HTE.out] at y10; have HQ2 := hid (same_eq A A10 (l1.take N10) N10 c c10 (by rw [List.length_take, HL.out]; omega) (by omega) w10 (HB.out w10 B10.out).head y10); clear h1 h2 h3 o10 b10 y10)
          | (go_at_call 10; (refine HQ2.out.mono ?_); rintro er w11 ⟨rfl, hq⟩; have b011 : Below w.heap.size w w11 := (by obtain ⟨q, rfl⟩ := hq; exact below_drewN B10.out q); clear hq)
          | fail))
        all_goals
          go_wp2_with fail
          refine (lives_any w11).mono ?_
          rintro er w12 ⟨rfl, b12⟩
          have b012 := b011.trans (b12.mono b011.size)
          go_wp2
          go_ret
          exact ⟨rfl, b012⟩
      · go_wp2_with fail
        refine (lives_any w7).mono ?_
        rintro er w12 ⟨rfl, b12⟩
        have b012 := b07.trans (b12.mono b07.size)
        go_wp2
        go_ret
        exact ⟨rfl, b012⟩
  · obtain ⟨w7, hw7⟩ : ∃ w7, w7 = w4 := ⟨_, rfl⟩
    rw [← hw7] at b04 D4 ⊢
    have b07 := b04
    have D7 := D4
    clear hw7 C4 b04 D4
    have HE2 := hid (err_any gd Ad n1 cd q1 r1 w7 D7.row)
    go_wp2_with fail
    refine HE2.out.mono ?_
    rintro er w8 ⟨rfl, rfl⟩
    clear HE2
    by_cases hrd : r1 = 0
    · subst hrd
      obtain ⟨hne, hpe, hS⟩ := HTO.out rfl
      have HTXT := hid (fun W => text_any none [] ⟨S.toArray⟩ 0 0 rfl (by omega) (by show S.toArray.size ≤ _; rw [List.size_toArray]; omega) W Byt.nil)
      have HTE := hid hne
      have HTP := hid hpe
      clear hne hpe
      have B07 := hid b07.drew
      have HPL2 := hid (place_any gd Ad n1 cd q1 0 w7.drew D7.row)
      clear b07 D7
      go_wp2_with fail
      go_region_with ((first
        | (go_at_call 26; (refine HPL2.out.mono ?_); rintro er w9 ⟨rfl, rfl⟩)
        | (go_at_call 13; (refine (HTXT.out _).mono ?_); rintro er w10 ⟨A10, c10, N10, rfl, h1, h2, h3, o10, b10⟩; obtain rfl : N10 = q1 := (by rw [h1, HTP.out]; simp only [List.length_nil, Nat.zero_add]); have B10 := hid (B07.out.trans (b10.mono B07.out.size)); have y10 := o10.byt; rw [List.nil_append, ← HTE.out] at y10; have HQ2 := hid (same_eq A A10 (l1.take N10) N10 c c10 (by rw [List.length_take, HL.out]; omega) (by omega) w10 (HB.out w10 B10.out).head y10); clear h1 h2 h3 o10 b10 y10)
        | (go_at_call 10; (refine HQ2.out.mono ?_); rintro er w11 ⟨rfl, hq⟩; have b011 : Below w.heap.size w w11 := (by obtain ⟨q, rfl⟩ := hq; exact below_drewN B10.out q); clear hq)
        | fail))
      all_goals
        go_wp2_with fail
        refine (lives_any w11).mono ?_
        rintro er w12 ⟨rfl, b12⟩
        have b012 := b011.trans (b12.mono b011.size)
        go_wp2
        go_ret
        exact ⟨rfl, b012⟩
    · go_wp2_with fail
      refine (lives_any w7).mono ?_
      rintro er w12 ⟨rfl, b12⟩
      have b012 := b07.trans (b12.mono b07.size)
      go_wp2
      go_ret
      exact ⟨rfl, b012⟩
end Go.Proofs.Ytchhbdhmmccbpaa.Sh
