/-
  The walk of SolveMore.
-/
import Derived.Test.YtghejdlijcmbbaaDoorJm42
import Derived.Test.YtghejdlijcmbbaaDoorJm43
set_option linter.unusedVariables false
set_option linter.unusedSimpArgs false
namespace Go.Proofs.YtghejdlijcmbbaaDoor.Sh
open Go Go.RowKit

set_option linter.unusedSimpArgs false
set_option linter.unusedVariables false
set_option maxHeartbeats 8000000 in
set_option maxRecDepth 100000 in
theorem solveMore_walk (A : Option Addr) (l0 : List Crd) (n0 k : Nat) (hn0 : l0.length = n0) (hk0 : n0 ≤ k) (hk2 : k ≤ 9223372036854775807) (B : Option Addr) (l1 : List Crd) (n1 k1 : Nat) (hn1 : l1.length = n1) (hk11 : n1 ≤ k1) (hk12 : k1 ≤ 9223372036854775807) (w : World) (hb : Crs w w.heap.size A l0) (hb1 : Crs w w.heap.size B l1) :
    Calls Tryd.prog 3 #[.slice A n0 k, .slice B n1 k1] w fun e w' => e = .returned (.bool true) ∧ Below w.heap.size w w' := by
  by_cases h10 : 10 < n0
  · by_cases h6 : 6 < n1
    · have HN1 : Hid ((l0.take 10).length = 10) := hid (by rw [List.length_take]; omega)
      have HN2 : Hid ((l1.take 6).length = 6) := hid (by rw [List.length_take]; omega)
      have y0 : Crs w w.heap.size A (l0.take 10) := hb.head (hi := 10)
      have z0 : Crs w w.heap.size B (l1.take 6) := hb1.head (hi := 6)
      obtain ⟨q, hq⟩ : ∃ q, 10 + 6 = q := ⟨_, rfl⟩
      have HQ1 : Hid (0 + 10 ≤ 1000000000000) := hid (by omega)
      have HQ2 : Hid (0 + 10 = 10) := hid (by omega)
      have HQ3 : Hid (10 + 6 ≤ 1000000000000) := hid (by omega)
      have HQ4 : Hid (10 + 6 = q) := hid hq
      have hq16 : q ≤ 16 := by omega
      have hk1 : 10 ≤ k := by omega
      have hs0 : 10 ≤ 10 := by omega
      have c10 : (10 : Int) < (n0 : Int) := by omega
      have c10k : 10 ≤ k := by omega
      have c6 : (6 : Int) < (n1 : Int) := by omega
      have c6k : 6 ≤ k1 := by omega
      clear hn0 hn1 hb hb1 hq
      go_enter Tryd.func3, Tryd.ntmps3
      go_wp2_with (first
        | (at_builtin; refine wpList_appC rfl (.tmp 20) (.tmp 21) rfl w.heap.size (.slice none 0 0) 0 [] (OwnC.nil _ _) ?dd1 A 10 k (l0.take 10) ?dd2 ?dd3 ?dd4 ?dd5 ?dd6 w ?dd7 10 ?dd8 ?dd9; (case dd1 => rfl); (case dd2 => rfl); (case dd3 => exact HN1.out); (case dd4 => exact y0.reads); (case dd5 => exact HQ1.out); (case dd6 => exact Nat.le_refl _); (case dd7 => exact Below.refl _ _); (case dd8 => exact HQ2.out); (intro A3 c3 w2 o2 g2 b2 h2; have z2 := z0.below b2; clear g2 h2))
        | (at_builtin; refine wpList_appC rfl (.tmp 23) (.tmp 24) rfl w.heap.size (.slice A3 10 c3) 10 ([] ++ l0.take 10) o2 ?de1 B 6 k1 (l1.take 6) ?de2 ?de3 ?de4 ?de5 ?de6 w ?de7 q ?de8 ?de9; (case de1 => rfl); (case de2 => rfl); (case de3 => exact HN2.out); (case de4 => exact z2.reads); (case de5 => exact HQ3.out); (case de6 => exact b2.size); (case de7 => exact b2); (case de8 => exact HQ4.out); (intro A5 c5 w3 o3 g3 b3 h3; clear g3 h3)))
      have y3 := y0.below b3
      have HA1 := hid (all_any A (l0.take 10) 10 k HN1.out hk1 hk2 (by omega) w3 (y3.more b3.size))
      rw [List.nil_append] at o3
      have HLB := hid o3.len
      have HOB := hid o3.crs
      obtain ⟨_, _, ecb, hcb, hcb2⟩ := o3.slice
      simp only [Value.slice.injEq] at ecb
      obtain ⟨-, -, rfl⟩ := ecb
      have HB3 := hid b3
      clear y0 z0 y3 z2 o2 b2 o3 b3
      refine HA1.out.mono ?_
      rintro er w5 ⟨out1, A1, c1, lst1, hc1, rfl, hs1, hm1, ho1, hb1⟩
      have hl1 := all_len hc1 hs1 hm1 (by rw [HN1.out]; omega)
      have HT1 := hid (told_any A1 lst1 lst1.length c1 rfl (by omega) w5 (own_els ho1))
      have HB5 := hid hb1
      have HC1 := hid hc1
      have HS1 := hid hs1
      have HM1 := hid hm1
      clear HA1 hc1 hs1 hm1 ho1 hb1
      go_wp2_with fail
      refine HT1.out.mono ?_
      rintro er w6 ⟨A2, c2, rfl, ho2, hb2⟩
      have hb6 : Below w3.heap.size w3 w6 := HB5.out.trans (hb2.mono HB5.out.size)
      have HA2 := hid (all_any A5 (l0.take 10 ++ l1.take 6) q c5 HLB.out hcb hcb2 (by omega) w6 ((HOB.out.below hb6).more hb6.size))
      have HO2 := hid ho2
      have HB6 := hid hb6
      clear HT1 ho2 hb2 hb6
      go_wp2_with fail
      refine HA2.out.mono ?_
      rintro er w7 ⟨out3, A3, c3, lst3, hc3, rfl, hs3, hm3, ho3, hb3⟩
      have hl3 := all_len hc3 hs3 hm3 (by rw [HLB.out]; omega)
      have HIM : Hid (∀ p ∈ lst1, p ∈ lst3) := hid (fun p hp => (hm3 p).2 (imp_mono (counts_more HC1.out hc3) ((HM1.out p).1 hp)))
      have HT2 := hid (told_any A3 lst3 lst3.length c3 rfl (by omega) w7 (own_els ho3))
      have HO7 := hid (HO2.out.below hb3)
      have HB7 := hid (HB6.out.trans (hb3.mono HB6.out.size))
      clear HA2 hc3 hs3 hm3 ho3 hb3
      go_wp2_with fail
      refine HT2.out.mono ?_
      rintro er w8 ⟨A4, c4, rfl, ho4, hb4⟩
      have HE2 := hid (own_els (HO7.out.below hb4))
      have HE4 := hid (own_els ho4)
      have HB8 := hid (HB7.out.trans (hb4.mono HB7.out.size))
      have HB := hid (HB3.out.trans (HB8.out.mono HB3.out.size))
      obtain ⟨m1, hm1⟩ : ∃ m1, lst1.length = m1 := ⟨_, rfl⟩
      obtain ⟨m3, hm3⟩ : ∃ m3, lst3.length = m3 := ⟨_, rfl⟩
      rw [hm1] at hl1 ⊢
      rw [hm3] at hl3 ⊢
      have HL1 := hid hm1
      have HL3 := hid hm3
      clear HT2 ho4 hb4 HO2 HO7 hm1 hm3
      go_wp2
      go_loopw [8] (fun i wr => ∃ j : Nat, j ≤ m1 ∧ i = .int .i64 j ∧ Hid (Below w8.heap.size w8 wr)) (fun i _ => m1 - (intOf i).toNat)
      case atStart => exact ⟨0, Nat.zero_le _, rfl, hid (Below.refl _ _)⟩
      case round =>
        obtain ⟨j, hj, rfl, hw⟩ := hrel
        by_cases hlt : j < m1
        · obtain ⟨⟨⟨o, nm⟩, who⟩, hx⟩ : ∃ x, lst1[j]? = some x := ⟨_, List.getElem?_eq_getElem (by rw [HL1.out]; exact hlt)⟩
          obtain ⟨ad, aj, rfl, -, ea, -, a0, ai⟩ := (HE2.out.below hw.out).get hx
          have a0 := a0 _ rfl
          have a1 := ai 1 _ (by omega) rfl
          have a2 := ai 2 _ (by omega) rfl
          have ea : ad.add (j * 3) = aj := ea
          have hk0' : (0 : Int) ≤ (j : Int) := Int.natCast_nonneg _
          have hk1' : (j : Int) < (m1 : Int) := by omega
          have hin : decide (((o, nm), who) ∈ lst3) = true := decide_eq_true (HIM.out _ (List.mem_of_getElem? hx))
          have HIN := hid (in_any A4 lst3 m3 c4 HL3.out (by omega) o nm who wr ((HE4.out.below hw.out).more hw.out.size))
          rw [hin] at HIN
          clear hx ai hin
          go_wp2_with fail
          refine HIN.out.mono ?_
          rintro er w9 ⟨rfl, b9⟩
          have HB9 := hid (hw.out.trans (b9.mono hw.out.size))
          clear HIN b9
          go_wp2
          go_roundw
          case rel => exact ⟨j + 1, by omega, by go_num, HB9⟩
          case measure => simp [intOf]; omega
        · obtain rfl : j = m1 := by omega
          have b9 := HB.out.trans (hw.out.mono HB.out.size)
          go_wp2_with fail
          refine (lives_any wr).mono ?_
          rintro er w11 ⟨rfl, bb⟩
          go_wp2
          go_ret
          exact ⟨rfl, b9.trans (bb.mono b9.size)⟩
    · have HN1 : Hid ((l0.take 10).length = 10) := hid (by rw [List.length_take]; omega)
      have HN2 : Hid ((l1).length = n1) := hid hn1
      have y0 : Crs w w.heap.size A (l0.take 10) := hb.head (hi := 10)
      have z0 : Crs w w.heap.size B (l1) := hb1
      obtain ⟨q, hq⟩ : ∃ q, 10 + n1 = q := ⟨_, rfl⟩
      have HQ1 : Hid (0 + 10 ≤ 1000000000000) := hid (by omega)
      have HQ2 : Hid (0 + 10 = 10) := hid (by omega)
      have HQ3 : Hid (10 + n1 ≤ 1000000000000) := hid (by omega)
      have HQ4 : Hid (10 + n1 = q) := hid hq
      have hq16 : q ≤ 16 := by omega
      have hk1 : 10 ≤ k := by omega
      have hs0 : 10 ≤ 10 := by omega
      have c10 : (10 : Int) < (n0 : Int) := by omega
      have c10k : 10 ≤ k := by omega
      have c6 : ¬ (6 : Int) < (n1 : Int) := by omega
      clear hn0 hn1 hb hb1 hq
      go_enter Tryd.func3, Tryd.ntmps3
      go_wp2_with (first
        | (at_builtin; refine wpList_appC rfl (.tmp 20) (.tmp 21) rfl w.heap.size (.slice none 0 0) 0 [] (OwnC.nil _ _) ?cd1 A 10 k (l0.take 10) ?cd2 ?cd3 ?cd4 ?cd5 ?cd6 w ?cd7 10 ?cd8 ?cd9; (case cd1 => rfl); (case cd2 => rfl); (case cd3 => exact HN1.out); (case cd4 => exact y0.reads); (case cd5 => exact HQ1.out); (case cd6 => exact Nat.le_refl _); (case cd7 => exact Below.refl _ _); (case cd8 => exact HQ2.out); (intro A3 c3 w2 o2 g2 b2 h2; have z2 := z0.below b2; clear g2 h2))
        | (at_builtin; refine wpList_appC rfl (.tmp 23) (.tmp 24) rfl w.heap.size (.slice A3 10 c3) 10 ([] ++ l0.take 10) o2 ?ce1 B n1 k1 (l1) ?ce2 ?ce3 ?ce4 ?ce5 ?ce6 w ?ce7 q ?ce8 ?ce9; (case ce1 => rfl); (case ce2 => rfl); (case ce3 => exact HN2.out); (case ce4 => exact z2.reads); (case ce5 => exact HQ3.out); (case ce6 => exact b2.size); (case ce7 => exact b2); (case ce8 => exact HQ4.out); (intro A5 c5 w3 o3 g3 b3 h3; clear g3 h3)))
      have y3 := y0.below b3
      have HA1 := hid (all_any A (l0.take 10) 10 k HN1.out hk1 hk2 (by omega) w3 (y3.more b3.size))
      rw [List.nil_append] at o3
      have HLB := hid o3.len
      have HOB := hid o3.crs
      obtain ⟨_, _, ecb, hcb, hcb2⟩ := o3.slice
      simp only [Value.slice.injEq] at ecb
      obtain ⟨-, -, rfl⟩ := ecb
      have HB3 := hid b3
      clear y0 z0 y3 z2 o2 b2 o3 b3
      refine HA1.out.mono ?_
      rintro er w5 ⟨out1, A1, c1, lst1, hc1, rfl, hs1, hm1, ho1, hb1⟩
      have hl1 := all_len hc1 hs1 hm1 (by rw [HN1.out]; omega)
      have HT1 := hid (told_any A1 lst1 lst1.length c1 rfl (by omega) w5 (own_els ho1))
      have HB5 := hid hb1
      have HC1 := hid hc1
      have HS1 := hid hs1
      have HM1 := hid hm1
      clear HA1 hc1 hs1 hm1 ho1 hb1
      go_wp2_with fail
      refine HT1.out.mono ?_
      rintro er w6 ⟨A2, c2, rfl, ho2, hb2⟩
      have hb6 : Below w3.heap.size w3 w6 := HB5.out.trans (hb2.mono HB5.out.size)
      have HA2 := hid (all_any A5 (l0.take 10 ++ l1) q c5 HLB.out hcb hcb2 (by omega) w6 ((HOB.out.below hb6).more hb6.size))
      have HO2 := hid ho2
      have HB6 := hid hb6
      clear HT1 ho2 hb2 hb6
      go_wp2_with fail
      refine HA2.out.mono ?_
      rintro er w7 ⟨out3, A3, c3, lst3, hc3, rfl, hs3, hm3, ho3, hb3⟩
      have hl3 := all_len hc3 hs3 hm3 (by rw [HLB.out]; omega)
      have HIM : Hid (∀ p ∈ lst1, p ∈ lst3) := hid (fun p hp => (hm3 p).2 (imp_mono (counts_more HC1.out hc3) ((HM1.out p).1 hp)))
      have HT2 := hid (told_any A3 lst3 lst3.length c3 rfl (by omega) w7 (own_els ho3))
      have HO7 := hid (HO2.out.below hb3)
      have HB7 := hid (HB6.out.trans (hb3.mono HB6.out.size))
      clear HA2 hc3 hs3 hm3 ho3 hb3
      go_wp2_with fail
      refine HT2.out.mono ?_
      rintro er w8 ⟨A4, c4, rfl, ho4, hb4⟩
      have HE2 := hid (own_els (HO7.out.below hb4))
      have HE4 := hid (own_els ho4)
      have HB8 := hid (HB7.out.trans (hb4.mono HB7.out.size))
      have HB := hid (HB3.out.trans (HB8.out.mono HB3.out.size))
      obtain ⟨m1, hm1⟩ : ∃ m1, lst1.length = m1 := ⟨_, rfl⟩
      obtain ⟨m3, hm3⟩ : ∃ m3, lst3.length = m3 := ⟨_, rfl⟩
      rw [hm1] at hl1 ⊢
      rw [hm3] at hl3 ⊢
      have HL1 := hid hm1
      have HL3 := hid hm3
      clear HT2 ho4 hb4 HO2 HO7 hm1 hm3
      go_wp2
      go_loopw [8] (fun i wr => ∃ j : Nat, j ≤ m1 ∧ i = .int .i64 j ∧ Hid (Below w8.heap.size w8 wr)) (fun i _ => m1 - (intOf i).toNat)
      case atStart => exact ⟨0, Nat.zero_le _, rfl, hid (Below.refl _ _)⟩
      case round =>
        obtain ⟨j, hj, rfl, hw⟩ := hrel
        by_cases hlt : j < m1
        · obtain ⟨⟨⟨o, nm⟩, who⟩, hx⟩ : ∃ x, lst1[j]? = some x := ⟨_, List.getElem?_eq_getElem (by rw [HL1.out]; exact hlt)⟩
          obtain ⟨ad, aj, rfl, -, ea, -, a0, ai⟩ := (HE2.out.below hw.out).get hx
          have a0 := a0 _ rfl
          have a1 := ai 1 _ (by omega) rfl
          have a2 := ai 2 _ (by omega) rfl
          have ea : ad.add (j * 3) = aj := ea
          have hk0' : (0 : Int) ≤ (j : Int) := Int.natCast_nonneg _
          have hk1' : (j : Int) < (m1 : Int) := by omega
          have hin : decide (((o, nm), who) ∈ lst3) = true := decide_eq_true (HIM.out _ (List.mem_of_getElem? hx))
          have HIN := hid (in_any A4 lst3 m3 c4 HL3.out (by omega) o nm who wr ((HE4.out.below hw.out).more hw.out.size))
          rw [hin] at HIN
          clear hx ai hin
          go_wp2_with fail
          refine HIN.out.mono ?_
          rintro er w9 ⟨rfl, b9⟩
          have HB9 := hid (hw.out.trans (b9.mono hw.out.size))
          clear HIN b9
          go_wp2
          go_roundw
          case rel => exact ⟨j + 1, by omega, by go_num, HB9⟩
          case measure => simp [intOf]; omega
        · obtain rfl : j = m1 := by omega
          have b9 := HB.out.trans (hw.out.mono HB.out.size)
          go_wp2_with fail
          refine (lives_any wr).mono ?_
          rintro er w11 ⟨rfl, bb⟩
          go_wp2
          go_ret
          exact ⟨rfl, b9.trans (bb.mono b9.size)⟩
  · by_cases h6 : 6 < n1
    · have HN1 : Hid ((l0).length = n0) := hid hn0
      have HN2 : Hid ((l1.take 6).length = 6) := hid (by rw [List.length_take]; omega)
      have y0 : Crs w w.heap.size A (l0) := hb
      have z0 : Crs w w.heap.size B (l1.take 6) := hb1.head (hi := 6)
      obtain ⟨q, hq⟩ : ∃ q, n0 + 6 = q := ⟨_, rfl⟩
      have HQ1 : Hid (0 + n0 ≤ 1000000000000) := hid (by omega)
      have HQ2 : Hid (0 + n0 = n0) := hid (by omega)
      have HQ3 : Hid (n0 + 6 ≤ 1000000000000) := hid (by omega)
      have HQ4 : Hid (n0 + 6 = q) := hid hq
      have hq16 : q ≤ 16 := by omega
      have hk1 : n0 ≤ k := by omega
      have hs0 : n0 ≤ 10 := by omega
      have c10 : ¬ (10 : Int) < (n0 : Int) := by omega
      have c6 : (6 : Int) < (n1 : Int) := by omega
      have c6k : 6 ≤ k1 := by omega
      clear hn0 hn1 hb hb1 hq
      go_enter Tryd.func3, Tryd.ntmps3
      go_wp2_with (first
        | (at_builtin; refine wpList_appC rfl (.tmp 20) (.tmp 21) rfl w.heap.size (.slice none 0 0) 0 [] (OwnC.nil _ _) ?bd1 A n0 k (l0) ?bd2 ?bd3 ?bd4 ?bd5 ?bd6 w ?bd7 n0 ?bd8 ?bd9; (case bd1 => rfl); (case bd2 => rfl); (case bd3 => exact HN1.out); (case bd4 => exact y0.reads); (case bd5 => exact HQ1.out); (case bd6 => exact Nat.le_refl _); (case bd7 => exact Below.refl _ _); (case bd8 => exact HQ2.out); (intro A3 c3 w2 o2 g2 b2 h2; have z2 := z0.below b2; clear g2 h2))
        | (at_builtin; refine wpList_appC rfl (.tmp 23) (.tmp 24) rfl w.heap.size (.slice A3 n0 c3) n0 ([] ++ l0) o2 ?be1 B 6 k1 (l1.take 6) ?be2 ?be3 ?be4 ?be5 ?be6 w ?be7 q ?be8 ?be9; (case be1 => rfl); (case be2 => rfl); (case be3 => exact HN2.out); (case be4 => exact z2.reads); (case be5 => exact HQ3.out); (case be6 => exact b2.size); (case be7 => exact b2); (case be8 => exact HQ4.out); (intro A5 c5 w3 o3 g3 b3 h3; clear g3 h3)))
      have y3 := y0.below b3
      have HA1 := hid (all_any A (l0) n0 k HN1.out hk1 hk2 (by omega) w3 (y3.more b3.size))
      rw [List.nil_append] at o3
      have HLB := hid o3.len
      have HOB := hid o3.crs
      obtain ⟨_, _, ecb, hcb, hcb2⟩ := o3.slice
      simp only [Value.slice.injEq] at ecb
      obtain ⟨-, -, rfl⟩ := ecb
      have HB3 := hid b3
      clear y0 z0 y3 z2 o2 b2 o3 b3
      refine HA1.out.mono ?_
      rintro er w5 ⟨out1, A1, c1, lst1, hc1, rfl, hs1, hm1, ho1, hb1⟩
      have hl1 := all_len hc1 hs1 hm1 (by rw [HN1.out]; omega)
      have HT1 := hid (told_any A1 lst1 lst1.length c1 rfl (by omega) w5 (own_els ho1))
      have HB5 := hid hb1
      have HC1 := hid hc1
      have HS1 := hid hs1
      have HM1 := hid hm1
      clear HA1 hc1 hs1 hm1 ho1 hb1
      go_wp2_with fail
      refine HT1.out.mono ?_
      rintro er w6 ⟨A2, c2, rfl, ho2, hb2⟩
      have hb6 : Below w3.heap.size w3 w6 := HB5.out.trans (hb2.mono HB5.out.size)
      have HA2 := hid (all_any A5 (l0 ++ l1.take 6) q c5 HLB.out hcb hcb2 (by omega) w6 ((HOB.out.below hb6).more hb6.size))
      have HO2 := hid ho2
      have HB6 := hid hb6
      clear HT1 ho2 hb2 hb6
      go_wp2_with fail
      refine HA2.out.mono ?_
      rintro er w7 ⟨out3, A3, c3, lst3, hc3, rfl, hs3, hm3, ho3, hb3⟩
      have hl3 := all_len hc3 hs3 hm3 (by rw [HLB.out]; omega)
      have HIM : Hid (∀ p ∈ lst1, p ∈ lst3) := hid (fun p hp => (hm3 p).2 (imp_mono (counts_more HC1.out hc3) ((HM1.out p).1 hp)))
      have HT2 := hid (told_any A3 lst3 lst3.length c3 rfl (by omega) w7 (own_els ho3))
      have HO7 := hid (HO2.out.below hb3)
      have HB7 := hid (HB6.out.trans (hb3.mono HB6.out.size))
      clear HA2 hc3 hs3 hm3 ho3 hb3
      go_wp2_with fail
      refine HT2.out.mono ?_
      rintro er w8 ⟨A4, c4, rfl, ho4, hb4⟩
      have HE2 := hid (own_els (HO7.out.below hb4))
      have HE4 := hid (own_els ho4)
      have HB8 := hid (HB7.out.trans (hb4.mono HB7.out.size))
      have HB := hid (HB3.out.trans (HB8.out.mono HB3.out.size))
      obtain ⟨m1, hm1⟩ : ∃ m1, lst1.length = m1 := ⟨_, rfl⟩
      obtain ⟨m3, hm3⟩ : ∃ m3, lst3.length = m3 := ⟨_, rfl⟩
      rw [hm1] at hl1 ⊢
      rw [hm3] at hl3 ⊢
      have HL1 := hid hm1
      have HL3 := hid hm3
      clear HT2 ho4 hb4 HO2 HO7 hm1 hm3
      go_wp2
      go_loopw [8] (fun i wr => ∃ j : Nat, j ≤ m1 ∧ i = .int .i64 j ∧ Hid (Below w8.heap.size w8 wr)) (fun i _ => m1 - (intOf i).toNat)
      case atStart => exact ⟨0, Nat.zero_le _, rfl, hid (Below.refl _ _)⟩
      case round =>
        obtain ⟨j, hj, rfl, hw⟩ := hrel
        by_cases hlt : j < m1
        · obtain ⟨⟨⟨o, nm⟩, who⟩, hx⟩ : ∃ x, lst1[j]? = some x := ⟨_, List.getElem?_eq_getElem (by rw [HL1.out]; exact hlt)⟩
          obtain ⟨ad, aj, rfl, -, ea, -, a0, ai⟩ := (HE2.out.below hw.out).get hx
          have a0 := a0 _ rfl
          have a1 := ai 1 _ (by omega) rfl
          have a2 := ai 2 _ (by omega) rfl
          have ea : ad.add (j * 3) = aj := ea
          have hk0' : (0 : Int) ≤ (j : Int) := Int.natCast_nonneg _
          have hk1' : (j : Int) < (m1 : Int) := by omega
          have hin : decide (((o, nm), who) ∈ lst3) = true := decide_eq_true (HIM.out _ (List.mem_of_getElem? hx))
          have HIN := hid (in_any A4 lst3 m3 c4 HL3.out (by omega) o nm who wr ((HE4.out.below hw.out).more hw.out.size))
          rw [hin] at HIN
          clear hx ai hin
          go_wp2_with fail
          refine HIN.out.mono ?_
          rintro er w9 ⟨rfl, b9⟩
          have HB9 := hid (hw.out.trans (b9.mono hw.out.size))
          clear HIN b9
          go_wp2
          go_roundw
          case rel => exact ⟨j + 1, by omega, by go_num, HB9⟩
          case measure => simp [intOf]; omega
        · obtain rfl : j = m1 := by omega
          have b9 := HB.out.trans (hw.out.mono HB.out.size)
          go_wp2_with fail
          refine (lives_any wr).mono ?_
          rintro er w11 ⟨rfl, bb⟩
          go_wp2
          go_ret
          exact ⟨rfl, b9.trans (bb.mono b9.size)⟩
    · have HN1 : Hid ((l0).length = n0) := hid hn0
      have HN2 : Hid ((l1).length = n1) := hid hn1
      have y0 : Crs w w.heap.size A (l0) := hb
      have z0 : Crs w w.heap.size B (l1) := hb1
      obtain ⟨q, hq⟩ : ∃ q, n0 + n1 = q := ⟨_, rfl⟩
      have HQ1 : Hid (0 + n0 ≤ 1000000000000) := hid (by omega)
      have HQ2 : Hid (0 + n0 = n0) := hid (by omega)
      have HQ3 : Hid (n0 + n1 ≤ 1000000000000) := hid (by omega)
      have HQ4 : Hid (n0 + n1 = q) := hid hq
      have hq16 : q ≤ 16 := by omega
      have hk1 : n0 ≤ k := by omega
      have hs0 : n0 ≤ 10 := by omega
      have c10 : ¬ (10 : Int) < (n0 : Int) := by omega
      have c6 : ¬ (6 : Int) < (n1 : Int) := by omega
      clear hn0 hn1 hb hb1 hq
      go_enter Tryd.func3, Tryd.ntmps3
      go_wp2_with (first
        | (at_builtin; refine wpList_appC rfl (.tmp 20) (.tmp 21) rfl w.heap.size (.slice none 0 0) 0 [] (OwnC.nil _ _) ?ad1 A n0 k (l0) ?ad2 ?ad3 ?ad4 ?ad5 ?ad6 w ?ad7 n0 ?ad8 ?ad9; (case ad1 => rfl); (case ad2 => rfl); (case ad3 => exact HN1.out); (case ad4 => exact y0.reads); (case ad5 => exact HQ1.out); (case ad6 => exact Nat.le_refl _); (case ad7 => exact Below.refl _ _); (case ad8 => exact HQ2.out); (intro A3 c3 w2 o2 g2 b2 h2; have z2 := z0.below b2; clear g2 h2))
        | (at_builtin; refine wpList_appC rfl (.tmp 23) (.tmp 24) rfl w.heap.size (.slice A3 n0 c3) n0 ([] ++ l0) o2 ?ae1 B n1 k1 (l1) ?ae2 ?ae3 ?ae4 ?ae5 ?ae6 w ?ae7 q ?ae8 ?ae9; (case ae1 => rfl); (case ae2 => rfl); (case ae3 => exact HN2.out); (case ae4 => exact z2.reads); (case ae5 => exact HQ3.out); (case ae6 => exact b2.size); (case ae7 => exact b2); (case ae8 => exact HQ4.out); (intro A5 c5 w3 o3 g3 b3 h3; clear g3 h3)))
      have y3 := y0.below b3
      have HA1 := hid (all_any A (l0) n0 k HN1.out hk1 hk2 (by omega) w3 (y3.more b3.size))
      rw [List.nil_append] at o3
      have HLB := hid o3.len
      have HOB := hid o3.crs
      obtain ⟨_, _, ecb, hcb, hcb2⟩ := o3.slice
      simp only [Value.slice.injEq] at ecb
      obtain ⟨-, -, rfl⟩ := ecb
      have HB3 := hid b3
      clear y0 z0 y3 z2 o2 b2 o3 b3
      refine HA1.out.mono ?_
      rintro er w5 ⟨out1, A1, c1, lst1, hc1, rfl, hs1, hm1, ho1, hb1⟩
      have hl1 := all_len hc1 hs1 hm1 (by rw [HN1.out]; omega)
      have HT1 := hid (told_any A1 lst1 lst1.length c1 rfl (by omega) w5 (own_els ho1))
      have HB5 := hid hb1
      have HC1 := hid hc1
      have HS1 := hid hs1
      have HM1 := hid hm1
      clear HA1 hc1 hs1 hm1 ho1 hb1
      go_wp2_with fail
      refine HT1.out.mono ?_
      rintro er w6 ⟨A2, c2, rfl, ho2, hb2⟩
      have hb6 : Below w3.heap.size w3 w6 := HB5.out.trans (hb2.mono HB5.out.size)
      have HA2 := hid (all_any A5 (l0 ++ l1) q c5 HLB.out hcb hcb2 (by omega) w6 ((HOB.out.below hb6).more hb6.size))
      have HO2 := hid ho2
      have HB6 := hid hb6
      clear HT1 ho2 hb2 hb6
      go_wp2_with fail
      refine HA2.out.mono ?_
      rintro er w7 ⟨out3, A3, c3, lst3, hc3, rfl, hs3, hm3, ho3, hb3⟩
      have hl3 := all_len hc3 hs3 hm3 (by rw [HLB.out]; omega)
      have HIM : Hid (∀ p ∈ lst1, p ∈ lst3) := hid (fun p hp => (hm3 p).2 (imp_mono (counts_more HC1.out hc3) ((HM1.out p).1 hp)))
      have HT2 := hid (told_any A3 lst3 lst3.length c3 rfl (by omega) w7 (own_els ho3))
      have HO7 := hid (HO2.out.below hb3)
      have HB7 := hid (HB6.out.trans (hb3.mono HB6.out.size))
      clear HA2 hc3 hs3 hm3 ho3 hb3
      go_wp2_with fail
      refine HT2.out.mono ?_
      rintro er w8 ⟨A4, c4, rfl, ho4, hb4⟩
      have HE2 := hid (own_els (HO7.out.below hb4))
      have HE4 := hid (own_els ho4)
      have HB8 := hid (HB7.out.trans (hb4.mono HB7.out.size))
      have HB := hid (HB3.out.trans (HB8.out.mono HB3.out.size))
      obtain ⟨m1, hm1⟩ : ∃ m1, lst1.length = m1 := ⟨_, rfl⟩
      obtain ⟨m3, hm3⟩ : ∃ m3, lst3.length = m3 := ⟨_, rfl⟩
      rw [hm1] at hl1 ⊢
      rw [hm3] at hl3 ⊢
      have HL1 := hid hm1
      have HL3 := hid hm3
      clear HT2 ho4 hb4 HO2 HO7 hm1 hm3
      go_wp2
      go_loopw [8] (fun i wr => ∃ j : Nat, j ≤ m1 ∧ i = .int .i64 j ∧ Hid (Below w8.heap.size w8 wr)) (fun i _ => m1 - (intOf i).toNat)
      case atStart => exact ⟨0, Nat.zero_le _, rfl, hid (Below.refl _ _)⟩
      case round =>
        obtain ⟨j, hj, rfl, hw⟩ := hrel
        by_cases hlt : j < m1
        · obtain ⟨⟨⟨o, nm⟩, who⟩, hx⟩ : ∃ x, lst1[j]? = some x := ⟨_, List.getElem?_eq_getElem (by rw [HL1.out]; exact hlt)⟩
          obtain ⟨ad, aj, rfl, -, ea, -, a0, ai⟩ := (HE2.out.below hw.out).get hx
          have a0 := a0 _ rfl
          have a1 := ai 1 _ (by omega) rfl
          have a2 := ai 2 _ (by omega) rfl
          have ea : ad.add (j * 3) = aj := ea
          have hk0' : (0 : Int) ≤ (j : Int) := Int.natCast_nonneg _
          have hk1' : (j : Int) < (m1 : Int) := by omega
          have hin : decide (((o, nm), who) ∈ lst3) = true := decide_eq_true (HIM.out _ (List.mem_of_getElem? hx))
          have HIN := hid (in_any A4 lst3 m3 c4 HL3.out (by omega) o nm who wr ((HE4.out.below hw.out).more hw.out.size))
          rw [hin] at HIN
          clear hx ai hin
          go_wp2_with fail
          refine HIN.out.mono ?_
          rintro er w9 ⟨rfl, b9⟩
          have HB9 := hid (hw.out.trans (b9.mono hw.out.size))
          clear HIN b9
          go_wp2
          go_roundw
          case rel => exact ⟨j + 1, by omega, by go_num, HB9⟩
          case measure => simp [intOf]; omega
        · obtain rfl : j = m1 := by omega
          have b9 := HB.out.trans (hw.out.mono HB.out.size)
          go_wp2_with fail
          refine (lives_any wr).mono ?_
          rintro er w11 ⟨rfl, bb⟩
          go_wp2
          go_ret
          exact ⟨rfl, b9.trans (bb.mono b9.size)⟩
end Go.Proofs.YtghejdlijcmbbaaDoor.Sh
