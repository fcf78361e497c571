/-
  The walk of SolveOrder.
-/
import Derived.Test.YtghejdlijcmbbaaGreatDoorJo46
set_option linter.unusedVariables false
set_option linter.unusedSimpArgs false
namespace Go.Proofs.YtghejdlijcmbbaaGreatDoor.Sh
open Go Go.RowKit

set_option linter.unusedSimpArgs false
set_option linter.unusedVariables false
set_option maxHeartbeats 4000000 in
theorem solveOrder_walk (A : Option Addr) (l0 : List Crd) (n0 k : Nat) (hn0 : l0.length = n0) (hk0 : n0 ≤ k) (hk2 : k ≤ 9223372036854775807) (w : World) (hb : Crs w w.heap.size A l0) :
    Calls Tryz.prog 7 #[.slice A n0 k] w fun e w' => e = .returned (.bool true) ∧ Below w.heap.size w w' := by
  have HFE := hid (few_any A l0 n0 k hn0 hk0 hk2 w hb)
  clear hb hn0 hk0
  go_enter Tryz.func7, Tryz.ntmps7
  go_wp2_with fail
  refine HFE.out.mono ?_
  rintro er w1 ⟨n, rfl, l, hN, hm, hk, y0, rfl⟩
  clear HFE
  have HN := hid hN
  have HQ1 : Hid (0 + n ≤ 1000000000000) := hid (by omega)
  have HQ2 : Hid (0 + n = n) := hid (by omega)
  clear hN
  go_wp2_with ((at_builtin; refine wpList_appC rfl (.tmp 11) (.tmp 12) rfl w1.heap.size (.slice none 0 0) 0 [] (OwnC.nil _ _) ?d1 A n k l ?d2 ?d3 ?d4 ?d5 ?d6 w1 ?d7 n ?d8 ?d9; (case d1 => rfl); (case d2 => rfl); (case d3 => exact HN.out); (case d4 => exact y0.reads); (case d5 => exact HQ1.out); (case d6 => exact Nat.le_refl _); (case d7 => exact Below.refl _ _); (case d8 => exact HQ2.out); (intro Ao co w2 o2 g2 b2 h2; have y2 := y0.far (Nat.le_refl _) g2 (FarV.nil _); clear g2 h2 y0)))
  have z2 := o2.crs
  rw [List.nil_append] at z2
  have HCO := hid (refCounts_any A l n k HN.out (by omega) w2 (y2.more b2.size))
  clear o2
  refine HCO.out.mono ?_
  rintro er w3 ⟨Ac, nc, cc, out, rfl, hnc, oc, hco, bb⟩
  have y3 := y2.below (bb.mono b2.size)
  have z3 := z2.below bb
  have b3 := b2.trans (bb.mono b2.size)
  have s13 : w1.heap.size ≤ w3.heap.size := b3.size
  have s23 : w2.heap.size ≤ w3.heap.size := bb.size
  have HY3 := hid y3
  have HZ3 := hid z3
  have HB3 := hid b3
  have HOC := hid oc.crs
  have HLC := hid oc.len
  have HCN := hid hco
  clear bb y2 z2 b2 HCO y3 z3 b3 oc hco
  go_wp2
  go_loopw [5, 6] (fun v i wr => ∃ (Ab : Option Addr) (cb j : Nat), v = .slice Ab j cb ∧ i = .int .i64 (j : Int) ∧ j ≤ nc ∧ Hid (OwnC wr w3.heap.size (.slice Ab j cb) j (out.reverse.take j)) ∧ Hid (Below w3.heap.size w3 wr)) (fun _ i _ => nc - (intOf i).toNat)
  case atStart => exact ⟨none, 0, 0, rfl, rfl, Nat.zero_le _, hid (OwnC.nil _ _), hid (Below.refl _ _)⟩
  case round =>
    obtain ⟨Ab, cb, j, rfl, rfl, hj, HOW, HBW⟩ := hrel
    by_cases hlt : j < nc
    · have hlen : out.length = nc := HLC.out
      obtain ⟨⟨d1, q1, nm, kd, wh, ao, an, bo, bn⟩, hck⟩ : ∃ x, out[nc - 1 - j]? = some x := ⟨_, List.getElem?_eq_getElem (by omega)⟩
      have hrv : out.reverse[j]? = some ⟨d1, q1, nm, kd, wh, ao, an, bo, bn⟩ := by rw [List.getElem?_reverse (by omega), hlen]; exact hck
      obtain ⟨r, hr⟩ : ∃ r, r = nc - 1 - j := ⟨_, rfl⟩
      rw [← hr] at hck
      obtain ⟨ad, ak, rfl, -, ek, -, a0, a1, a2, a3, a4, a5, a6, a7, a8⟩ := (HOC.out.below HBW.out).get hck
      simp only at a0 a1 a2 a3 a4 a5 a6 a7 a8
      have hj0 : (0 : Int) ≤ (j : Int) := Int.natCast_nonneg _
      have hj1 : (j : Int) < (nc : Int) := by omega
      have hr0 : (0 : Int) ≤ (r : Int) := Int.natCast_nonneg _
      have hr1 : (r : Int) < (nc : Int) := by omega
      have hre : (nc : Int) - 1 - (j : Int) = (r : Int) := by omega
      have hnc63 : nc ≤ 1000 := by omega
      have O1 := HOW.out
      have B1 := HBW.out
      have HRV := hid hrv
      have Q1 : Hid (j + 1 ≤ 1000000000000) := hid (by omega)
      clear hck hrv hlen hr
      go_wp2_with ((at_builtin; refine wpList_appC rfl (.tmp 22) (.tmp 31) rfl w3.heap.size (.slice Ab j cb) j (out.reverse.take j) (OwnC.alloc O1 _) rfl (some ⟨wr.heap.size, 0, none⟩) 1 1 [⟨d1, q1, nm, kd, wh, ao, an, bo, bn⟩] rfl rfl (reads_cr wr _ _ _) Q1.out (le_alloc B1.size _) w3 (B1.alloc B1.size _) (j + 1) rfl ?_; intro A4 c4 w4 o4 g4 b4 h4; have HO4 := hid o4; have HB4 := hid b4; clear O1 B1 o4 b4 g4 h4))
      go_roundw
      case rel => exact ⟨A4, c4, j + 1, rfl, by go_num, by omega, hid (by rw [take_snoc_of HRV.out]; exact HO4.out), HB4⟩
      case measure => simp [intOf]; omega
    · obtain rfl : nc = j := by omega
      have e1 : out.reverse.take nc = out.reverse := List.take_of_length_le (by rw [List.length_reverse, HLC.out]; exact Nat.le_refl _)
      rw [e1] at HOW
      have y4 := HY3.out.below (HBW.out.mono s13)
      have z4 := HZ3.out.below (HBW.out.mono s23)
      have b4 := HB3.out.trans (HBW.out.mono s13)
      have s34 : w3.heap.size ≤ wr.heap.size := HBW.out.size
      obtain ⟨_, _, ecb, hcb, hcb2⟩ := HOW.out.slice
      simp only [Value.slice.injEq] at ecb
      obtain ⟨-, -, rfl⟩ := ecb
      have HA1 := hid (all_any A l n k HN.out hk hk2 (by omega) wr (y4.more b4.size))
      have HY4 := hid y4
      have HZ4 := hid z4
      have HB4 := hid b4
      have HOB := hid HOW.out.crs
      have HLB : Hid (out.reverse.length = nc) := hid (by rw [List.length_reverse, HLC.out])
      clear y4 z4 b4 e1 HOW HY3 HZ3 HB3
      go_wp2_with fail
      refine HA1.out.mono ?_
      rintro er w5 ⟨out1, A1, c1, lst1, hc1, rfl, hs1, hm1, ho1, hb1⟩
      obtain rfl : out1 = out := counts_uniq hc1 HCN.out
      have hl1 := all_len hc1 hs1 hm1 (by rw [HN.out]; omega)
      have HT1 := hid (told_any A1 lst1 lst1.length c1 rfl (by omega) w5 (own_els ho1))
      have HB5 := hid hb1
      have HC1 := hid hc1
      have HS1 := hid hs1
      have HM1 := hid hm1
      clear HA1 hc1 hs1 hm1 ho1 hb1
      go_wp2_with fail
      refine HT1.out.mono ?_
      rintro er w6 ⟨A2, c2, rfl, ho2, hb2⟩
      have hb6 : Below wr.heap.size wr w6 := HB5.out.trans (hb2.mono HB5.out.size)
      have HA2 := hid (all_any Ab out1.reverse nc cb HLB.out hcb hcb2 (by omega) w6 ((HOB.out.below hb6).more hb6.size))
      have HO2 := hid ho2
      have HB6 := hid hb6
      clear HT1 ho2 hb2 hb6
      go_wp2_with fail
      refine HA2.out.mono ?_
      rintro er w7 ⟨out3, A3, c3, lst3, hc3, rfl, hs3, hm3, ho3, hb3⟩
      have hl3 := all_len hc3 hs3 hm3 (by rw [HLB.out]; omega)
      have HLS : Hid (lst3 = lst1) := hid (sortedP_uniq hs3 HS1.out fun p => by rw [hm3, HM1.out]; exact imp_congr (counts_back HC1.out hc3) p)
      have HT2 := hid (told_any A3 lst3 lst3.length c3 rfl (by omega) w7 (own_els ho3))
      have HO7 := hid (HO2.out.below hb3)
      have HB7 := hid (HB6.out.trans (hb3.mono HB6.out.size))
      clear HA2 hc3 hs3 hm3 ho3 hb3
      go_wp2_with fail
      refine HT2.out.mono ?_
      rintro er w8 ⟨A4, c4, rfl, ho4, hb4⟩
      have HO8 := hid (HO7.out.below hb4)
      have HB8 := hid (HB7.out.trans (hb4.mono HB7.out.size))
      have e3 := HLS.out
      subst e3
      have HSM := hid (same_eq A2 A4 lst3 lst3.length c2 c4 rfl (by omega) w8 (own_els HO8.out) (own_els ho4))
      clear HT2 ho4 hb4
      go_wp2_with fail
      refine HSM.out.mono ?_
      rintro er w9 ⟨rfl, hq⟩
      have b9 : Below wr.heap.size wr w9 := by obtain ⟨q, rfl⟩ := hq; exact below_drewN HB8.out q
      have y9 := HY4.out.below (b9.mono HB4.out.size)
      have z9 := HZ4.out.below (b9.mono (Nat.le_trans s23 s34))
      have b10 := HB4.out.trans (b9.mono HB4.out.size)
      have hsz : w2.heap.size ≤ w9.heap.size := Nat.le_trans (Nat.le_trans s23 s34) b9.size
      have SM := hid (refSameC_eq Ao A l n co k HN.out (by omega) w9 (z9.more hsz) (y9.more b10.size))
      have HB10 := hid b10
      clear HSM hq y9 z9 b9 b10 hsz
      go_wp2_with fail
      refine SM.out.mono ?_
      rintro er w10 ⟨rfl, hq⟩
      have b11 : Below w1.heap.size w1 w10 := by obtain ⟨q, rfl⟩ := hq; exact below_drewN HB10.out q
      clear SM hq
      go_wp2_with fail
      refine (lives_any w10).mono ?_
      rintro er w11 ⟨rfl, bb⟩
      go_wp2
      go_ret
      exact ⟨rfl, b11.trans (bb.mono b11.size)⟩
end Go.Proofs.YtghejdlijcmbbaaGreatDoor.Sh
