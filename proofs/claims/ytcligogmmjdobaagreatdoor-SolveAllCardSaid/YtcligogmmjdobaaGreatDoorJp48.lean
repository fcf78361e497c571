/-
  The walks of SolveAll and SolveClosed.
-/
import Derived.Test.YtcligogmmjdobaaGreatDoorJp40
import Derived.Test.YtcligogmmjdobaaGreatDoorJp47
set_option linter.unusedVariables false
set_option linter.unusedSimpArgs false
namespace Go.Proofs.YtcligogmmjdobaaGreatDoor.Sh
open Go Go.RowKit

set_option linter.unusedSimpArgs false
set_option linter.unusedVariables false
set_option maxHeartbeats 4000000 in
theorem solveAll_walk (A : Option Addr) (l0 : List Crd) (n0 k : Nat) (hn0 : l0.length = n0) (hk0 : n0 ≤ k) (hk2 : k ≤ 9223372036854775807) (w : World) (hb : Crs w w.heap.size A l0) :
    Calls Tryz.prog 3 #[.slice A n0 k] w fun e w' => e = .returned (.bool true) ∧ Below w.heap.size w w' := by
  have HFE := hid (few_any A l0 n0 k hn0 hk0 hk2 w hb)
  clear hb hn0 hk0
  go_enter Tryz.func3, Tryz.ntmps3
  go_wp2_with fail
  refine HFE.out.mono ?_
  rintro er w1 ⟨n, rfl, l, hN, hm, hk, y0, rfl⟩
  have HN := hid hN
  have HY := hid y0
  have HA1 := hid (all_any A l n k hN hk hk2 (by omega) w1 y0)
  clear HFE hN y0
  go_wp2_with fail
  refine HA1.out.mono ?_
  rintro er w5 ⟨out1, A1, c1, lst1, hc1, rfl, hs1, hm1, ho1, hb1⟩
  have hl1 := all_len hc1 hs1 hm1 (by rw [HN.out]; omega)
  have HT1 := hid (told_any A1 lst1 lst1.length c1 rfl (by omega) w5 (own_els ho1))
  have HB5 := hid hb1
  have HC1 := hid hc1
  have HS1 := hid hs1
  have HM1 := hid hm1
  clear HA1 hc1 hs1 hm1 ho1 hb1
  go_wp2_with fail
  refine HT1.out.mono ?_
  rintro er w6 ⟨A2, c2, rfl, ho2, hb2⟩
  have hb6 : Below w1.heap.size w1 w6 := HB5.out.trans (hb2.mono HB5.out.size)
  have HA2 := hid (refAll_any A l n k HN.out (by omega) w6 ((HY.out.below hb6).more hb6.size))
  have HO2 := hid ho2
  have HB6 := hid hb6
  clear HT1 ho2 hb2 hb6
  go_wp2_with fail
  refine HA2.out.mono ?_
  rintro er w7 ⟨out3, A3, c3, lst3, hc3, rfl, hs3, hm3, ho3, hb3⟩
  obtain rfl : out3 = out1 := counts_uniq hc3 HC1.out
  have HLS : Hid (lst3 = lst1) := hid (sortedP_uniq hs3 HS1.out fun p => by rw [hm3, HM1.out])
  have HO7 := hid (HO2.out.below hb3)
  have HO3 := hid ho3
  have HB7 := hid (HB6.out.trans (hb3.mono HB6.out.size))
  clear HA2 hc3 hs3 hm3 ho3 hb3
  have e3 := HLS.out
  subst e3
  have HSM := hid (same_eq A2 A3 lst3 lst3.length c2 c3 rfl (by omega) w7 (own_els HO7.out) (own_els HO3.out))
  go_wp2_with fail
  refine HSM.out.mono ?_
  rintro er w9 ⟨rfl, hq⟩
  have b9 : Below w1.heap.size w1 w9 := by obtain ⟨q, rfl⟩ := hq; exact below_drewN HB7.out q
  clear HSM hq
  go_wp2_with fail
  refine (lives_any w9).mono ?_
  rintro er w11 ⟨rfl, bb⟩
  go_wp2
  go_ret
  exact ⟨rfl, b9.trans (bb.mono b9.size)⟩
set_option maxHeartbeats 4000000 in
theorem solveClosed_walk (A : Option Addr) (l0 : List Crd) (n0 k : Nat) (hn0 : l0.length = n0) (hk0 : n0 ≤ k) (hk2 : k ≤ 9223372036854775807) (w : World) (hb : Crs w w.heap.size A l0) :
    Calls Tryz.prog 5 #[.slice A n0 k] w fun e w' => e = .returned (.bool true) ∧ Below w.heap.size w w' := by
  have HFE := hid (few_any A l0 n0 k hn0 hk0 hk2 w hb)
  clear hb hn0 hk0
  go_enter Tryz.func5, Tryz.ntmps5
  go_wp2_with fail
  refine HFE.out.mono ?_
  rintro er w1 ⟨n, rfl, l, hN, hm, hk, y0, rfl⟩
  have HN := hid hN
  have HY := hid y0
  have HA1 := hid (all_any A l n k hN hk hk2 (by omega) w1 y0)
  clear HFE hN y0
  go_wp2_with fail
  refine HA1.out.mono ?_
  rintro er w5 ⟨out1, A1, c1, lst1, hc1, rfl, hs1, hm1, ho1, hb1⟩
  have hlq : lst1.length ≤ 1000 := by
    have h1 := nodup_length hs1.nodup fun p hp => imp_uni ((hm1 p).1 hp)
    rw [uni_length] at h1
    have h2 := counts_len hc1
    rw [HN.out] at h2
    have h3 : out1.length * out1.length ≤ 30 * 30 := Nat.mul_le_mul (by omega) (by omega)
    omega
  have HT1 := hid (told_any A1 lst1 lst1.length c1 rfl (by omega) w5 (own_els ho1))
  have HB5 := hid hb1
  have HC1 := hid hc1
  have HM1 := hid hm1
  clear HA1 hc1 hs1 hm1 ho1 hb1
  go_wp2_with fail
  refine HT1.out.mono ?_
  rintro er w6 ⟨A2, c2, rfl, ho2, hb2⟩
  have hb6 : Below w1.heap.size w1 w6 := HB5.out.trans (hb2.mono HB5.out.size)
  have HCO := hid (refCounts_any A l n k HN.out (by omega) w6 ((HY.out.below hb6).more hb6.size))
  have HO2 := hid ho2
  have HB6 := hid hb6
  clear HT1 ho2 hb2 hb6
  go_wp2_with fail
  refine HCO.out.mono ?_
  rintro er w7 ⟨Ac, nc, cc, out3, rfl, hnc, oc, hco, bb⟩
  obtain rfl : out3 = out1 := counts_uniq hco HC1.out
  have HRD := hid (round_any Ac out3 nc cc oc.len (by omega) (fun c hc => (counts_mem hco hc).1) A2 lst1 lst1.length c2 rfl hlq w7 oc.crs (own_els (HO2.out.below bb)))
  have HB7 := hid (HB6.out.trans (bb.mono HB6.out.size))
  clear HCO oc hco bb
  go_wp2_with fail
  refine HRD.out.mono ?_
  rintro er w8 ⟨A3, c3, out4, rfl, ho4, hb4, hr4⟩
  have hle : out4.length = lst1.length := hr4.clos (imp_clos HM1.out)
  have HB8 := hid (HB7.out.trans (hb4.mono HB7.out.size))
  rw [hle]
  clear HRD ho4 hb4 hr4 hle
  go_wp2_with fail
  refine (lives_any w8).mono ?_
  rintro er w11 ⟨rfl, bb⟩
  go_wp2
  go_ret
  exact ⟨rfl, HB8.out.trans (bb.mono HB8.out.size)⟩
end Go.Proofs.YtcligogmmjdobaaGreatDoor.Sh
/-
  The walk of SolveLeast.
-/
namespace Go.Proofs.YtcligogmmjdobaaGreatDoor.Sh
open Go Go.RowKit

set_option linter.unusedSimpArgs false
set_option linter.unusedVariables false
set_option maxHeartbeats 8000000 in
theorem solveLeast_walk (A : Option Addr) (l0 : List Crd) (n0 k : Nat) (hn0 : l0.length = n0) (hk0 : n0 ≤ k) (hk2 : k ≤ 9223372036854775807) (P : Option Addr) (ps0 : List Pr) (m0 kp : Nat) (hm0 : ps0.length = m0) (hkp : m0 ≤ kp) (hkp2 : kp ≤ 9223372036854775807) (w : World) (hb : Crs w w.heap.size A l0) (hp : Els encP w w.heap.size P ps0) :
    Calls Tryz.prog 6 #[.slice A n0 k, .slice P m0 kp] w fun e w' => e = .returned (.bool true) ∧ Below w.heap.size w w' := by
  have HFE := hid (few_any A l0 n0 k hn0 hk0 hk2 w hb)
  have HP := hid hp
  have HMP := hid hm0
  clear hb hn0 hk0 hp hm0
  go_enter Tryz.func6, Tryz.ntmps6
  go_wp2_with fail
  refine HFE.out.mono ?_
  rintro er w1 ⟨n, rfl, l, hN, hm, hk, y0, rfl⟩
  have HN := hid hN
  have HY := hid y0
  have HCO := hid (refCounts_any A l n k hN (by omega) w1 y0)
  clear HFE hN y0
  by_cases hbig : 20 < m0
  · have hbi : (20 : Int) < (m0 : Int) := by omega
    have hk20 : 20 ≤ kp := by omega
    obtain ⟨ps, hps⟩ : ∃ x, ps0.take 20 = x := ⟨_, rfl⟩
    have HPN : Hid (ps.length = 20) := hid (by rw [← hps, List.length_take, HMP.out]; omega)
    have HPE : Hid (Els encP w1 w1.heap.size P ps) := hid (by rw [← hps]; exact HP.out.head)
    clear hps
    go_wp2_with fail
    refine HCO.out.mono ?_
    rintro er w2 ⟨Ac, nc, cc, cs, rfl, hnc, oc, hco, bb⟩
    have HB2 := hid bb
    have HCN := hid hco
    have HCS := hid oc.crs
    have HCL := hid oc.len
    have HMY : Hid (∀ c ∈ cs, mayC c = true) := hid (fun c hc => (counts_mem hco hc).1)
    have HNC : Hid (nc ≤ 14) := hid (by omega)
    have HT0 := hid (told_any P ps 20 kp HPN.out (by omega) w2 ((HPE.out.below bb).more bb.size))
    clear HCO bb oc hco hnc
    go_wp2_with fail
    refine HT0.out.mono ?_
    rintro er w3 ⟨A3, c3, rfl, ho3, hb3⟩
    have HE3 := hid (own_els ho3)
    have HC3 : Hid (True) := hid trivial
    have HB3 := hid (HB2.out.trans (hb3.mono HB2.out.size))
    have HCS3 := hid ((HCS.out.below hb3).more hb3.size)
    obtain ⟨ps3, hps3⟩ : ∃ x, x = ps := ⟨_, rfl⟩
    have HPS := hid hps3
    rw [← hps3] at ho3 HE3 ⊢
    clear HT0 ho3 hb3 hps3
    obtain ⟨m3, hm3⟩ : ∃ x, ps3.length = x := ⟨_, rfl⟩
    have HM3 := hid hm3
    have HM20 : Hid (m3 ≤ 20) := hid (by rw [← hm3, HPS.out, HPN.out]; omega)
    rw [hm3]
    obtain ⟨ws, hws⟩ : ∃ ws, whos cs ps3 = ws := ⟨_, rfl⟩
    have HWS : Hid (∀ c ∈ cs, c.wh ∈ ws) := hid (fun c hc => by rw [← hws]; exact List.mem_append_left _ (List.mem_map.2 ⟨c, hc, rfl⟩))
    have HWL : Hid (cs.length * ws.length ≤ 510) := hid (by
      rw [← hws]; unfold whos
      rw [List.length_append, List.length_map, List.length_map, hm3, HCL.out]
      have h1 := HNC.out
      have h2 := HM20.out
      exact Nat.le_trans (Nat.mul_le_mul (h1 : nc ≤ 14) (by omega : nc + m3 ≤ 34)) (by decide))
    have HWI0 : Hid (Within cs ws ps3 ps3) := hid (Within.start cs (fun p hp => by rw [← hws]; exact List.mem_append_right _ (List.mem_map.2 ⟨p, hp, rfl⟩)))
    clear hws hm3
    go_wp2_with fail
    go_loopw [6] (fun v wr => ∃ (A4 : Option Addr) (n4 c4 : Nat) (now : List Pr), v = .slice A4 n4 c4 ∧ n4 ≤ 530 ∧ Hid (now.length = n4) ∧ Hid (Els encP wr wr.heap.size A4 now) ∧ Hid (Within cs ws ps3 now) ∧ Hid (Below w3.heap.size w3 wr)) (fun v _ => 530 - lenV v)
    case atStart => exact ⟨A3, m3, c3, ps3, rfl, by have := HM20.out; omega, HM3, hid ((HE3.out)), HWI0, hid (Below.refl _ _)⟩
    case round =>
      obtain ⟨A4, n4, c4, now, rfl, hn4, HN4, HE4, HWI, HB4⟩ := hrel
      have HRO := hid (round_any Ac cs nc cc HCL.out (by have := HNC.out; omega) HMY.out A4 now n4 c4 HN4.out (by omega) wr ((HCS3.out.below HB4.out).more HB4.out.size) HE4.out)
      go_wp2_with fail
      refine HRO.out.mono ?_
      rintro er w5 ⟨A5, c5, nxt, rfl, ho5, hb5, hr5⟩
      obtain ⟨n5, hn5⟩ : ∃ k, nxt.length = k := ⟨_, rfl⟩
      have HN5 := hid hn5
      have HB5 := hid (HB4.out.trans (hb5.mono HB4.out.size))
      have HE4b := hid ((HE4.out.below hb5).more hb5.size)
      have HR5 := hid hr5
      have HWI5 := hid (HWI.out.next HWS.out hr5)
      have HE5 := hid (own_els ho5)
      have hn5b : n5 ≤ 530 := by have h1 := HWI5.out.len.2; have h2 := HWL.out; have h3 := HM20.out; have h4 := HM3.out; rw [hn5, h4] at h1; omega
      have hle : n4 ≤ n5 := by have := hr5.len; rw [HN4.out, hn5] at this; exact this
      rw [hn5]
      clear HRO ho5 hb5 hr5 hn5
      by_cases heq : n5 = n4
      · subst heq
        have HCLO := hid (HR5.out.same (by rw [HN5.out, HN4.out])).2
        have hb15 := HB3.out.trans (HB5.out.mono HB3.out.size)
        have HA1 := hid (all_any A l n k HN.out hk hk2 (by omega) w5 ((HY.out.below hb15).more hb15.size))
        have HB15 := hid hb15
        clear HWI5 HE5 hb15 HR5
        go_wp2_with fail
        refine HA1.out.mono ?_
        rintro er w6 ⟨out1, A6, c6, lst1, hc1, rfl, hs1, hm1, ho1, hb6⟩
        obtain rfl : out1 = cs := counts_uniq hc1 HCN.out
        have hl1 := all_len hc1 hs1 hm1 (by rw [HN.out]; omega)
        have HT1 := hid (told_any A6 lst1 lst1.length c6 rfl (by omega) w6 (own_els ho1))
        have HE6 := hid ((HE4b.out.below hb6).more hb6.size)
        have HB16 := hid (HB15.out.trans (hb6.mono HB15.out.size))
        have HIN : Hid (∀ p ∈ lst1, p ∈ now) := hid (fun p hp => clos_imp HCLO.out ((hm1 p).1 hp))
        clear HA1 hc1 hs1 hm1 ho1 hb6
        go_wp2_with fail
        refine HT1.out.mono ?_
        rintro er w7 ⟨A7, c7, rfl, ho7, hb7⟩
        have HE7 := hid ((HE6.out.below hb7).more hb7.size)
        have HEL := hid (own_els ho7)
        have HB17 := hid (HB16.out.trans (hb7.mono HB16.out.size))
        obtain ⟨q1, hq1⟩ : ∃ x, lst1.length = x := ⟨_, rfl⟩
        have HQ1 := hid hq1
        rw [hq1] at hl1 ⊢
        clear HT1 ho7 hb7 hq1
        obtain ⟨wo, hwo⟩ : ∃ x, x = wr := ⟨_, rfl⟩
        subst hwo
        go_wp2_with fail
        go_loopw [9] (fun i wr => ∃ j : Nat, j ≤ q1 ∧ i = .int .i64 (j : Int) ∧ Hid (Below w7.heap.size w7 wr)) (fun i _ => q1 - (intOf i).toNat)
        case atStart => exact ⟨0, Nat.zero_le _, rfl, hid (Below.refl _ _)⟩
        case round =>
          obtain ⟨j, hj, rfl, HBJ⟩ := hrel
          by_cases hlt : j < q1
          · obtain ⟨⟨⟨o2, n2⟩, y⟩, hx⟩ : ∃ x, lst1[j]? = some x := ⟨_, List.getElem?_eq_getElem (by rw [HQ1.out]; exact hlt)⟩
            obtain ⟨bd, bk, rfl, hbb, eb, hbk, b0, bi⟩ := (HEL.out.below HBJ.out).get hx
            have b0 := b0 _ rfl
            have b1 := bi 1 _ (by omega) rfl
            have b2 := bi 2 _ (by omega) rfl
            have eb : bd.add (j * 3) = bk := eb
            have hj0 : (0 : Int) ≤ (j : Int) := Int.natCast_nonneg _
            have hj1 : (j : Int) < (q1 : Int) := by omega
            have HINC := hid (in_any A4 now n5 c4 HN4.out (by omega) o2 n2 y wr ((HE7.out.below HBJ.out).more HBJ.out.size))
            rw [decide_eq_true (HIN.out _ (List.mem_of_getElem? hx))] at HINC
            clear hx hbb hbk bi
            go_wp2_with fail
            refine HINC.out.mono ?_
            rintro er w8 ⟨rfl, hb8⟩
            have HB8 := hid (HBJ.out.trans (hb8.mono HBJ.out.size))
            clear HINC hb8 b0 b1 b2
            go_wp2_with fail
            go_roundw
            case rel => exact ⟨j + 1, by omega, by go_num, HB8⟩
            case measure => simp [intOf]; omega
          · obtain rfl : j = q1 := by omega
            have hb18 := HB17.out.trans (HBJ.out.mono HB17.out.size)
            go_wp2_with fail
            refine (lives_any wr).mono ?_
            rintro er w11 ⟨rfl, bb⟩
            go_wp2
            go_ret
            exact ⟨rfl, hb18.trans (bb.mono hb18.size)⟩
      · have hne : ¬ (n5 : Int) = (n4 : Int) := by omega
        go_wp2_with fail
        go_roundw
        case rel => exact ⟨A5, n5, c5, nxt, rfl, hn5b, HN5, HE5, HWI5, HB5⟩
        case measure => simp [lenV]; omega
  · have hbi : ¬ (20 : Int) < (m0 : Int) := by omega
    obtain ⟨ps, hps⟩ : ∃ x, ps0 = x := ⟨_, rfl⟩
    have HPN : Hid (ps.length = m0) := hid (by rw [← hps, HMP.out])
    have HPE : Hid (Els encP w1 w1.heap.size P ps) := hid (by rw [← hps]; exact HP.out)
    clear hps
    go_wp2_with fail
    refine HCO.out.mono ?_
    rintro er w2 ⟨Ac, nc, cc, cs, rfl, hnc, oc, hco, bb⟩
    have HB2 := hid bb
    have HCN := hid hco
    have HCS := hid oc.crs
    have HCL := hid oc.len
    have HMY : Hid (∀ c ∈ cs, mayC c = true) := hid (fun c hc => (counts_mem hco hc).1)
    have HNC : Hid (nc ≤ 14) := hid (by omega)
    have HT0 := hid (told_any P ps m0 kp HPN.out (by omega) w2 ((HPE.out.below bb).more bb.size))
    clear HCO bb oc hco hnc
    go_wp2_with fail
    refine HT0.out.mono ?_
    rintro er w3 ⟨A3, c3, rfl, ho3, hb3⟩
    have HE3 := hid (own_els ho3)
    have HC3 : Hid (True) := hid trivial
    have HB3 := hid (HB2.out.trans (hb3.mono HB2.out.size))
    have HCS3 := hid ((HCS.out.below hb3).more hb3.size)
    obtain ⟨ps3, hps3⟩ : ∃ x, x = ps := ⟨_, rfl⟩
    have HPS := hid hps3
    rw [← hps3] at ho3 HE3 ⊢
    clear HT0 ho3 hb3 hps3
    obtain ⟨m3, hm3⟩ : ∃ x, ps3.length = x := ⟨_, rfl⟩
    have HM3 := hid hm3
    have HM20 : Hid (m3 ≤ 20) := hid (by rw [← hm3, HPS.out, HPN.out]; omega)
    rw [hm3]
    obtain ⟨ws, hws⟩ : ∃ ws, whos cs ps3 = ws := ⟨_, rfl⟩
    have HWS : Hid (∀ c ∈ cs, c.wh ∈ ws) := hid (fun c hc => by rw [← hws]; exact List.mem_append_left _ (List.mem_map.2 ⟨c, hc, rfl⟩))
    have HWL : Hid (cs.length * ws.length ≤ 510) := hid (by
      rw [← hws]; unfold whos
      rw [List.length_append, List.length_map, List.length_map, hm3, HCL.out]
      have h1 := HNC.out
      have h2 := HM20.out
      exact Nat.le_trans (Nat.mul_le_mul (h1 : nc ≤ 14) (by omega : nc + m3 ≤ 34)) (by decide))
    have HWI0 : Hid (Within cs ws ps3 ps3) := hid (Within.start cs (fun p hp => by rw [← hws]; exact List.mem_append_right _ (List.mem_map.2 ⟨p, hp, rfl⟩)))
    clear hws hm3
    go_wp2_with fail
    go_loopw [6] (fun v wr => ∃ (A4 : Option Addr) (n4 c4 : Nat) (now : List Pr), v = .slice A4 n4 c4 ∧ n4 ≤ 530 ∧ Hid (now.length = n4) ∧ Hid (Els encP wr wr.heap.size A4 now) ∧ Hid (Within cs ws ps3 now) ∧ Hid (Below w3.heap.size w3 wr)) (fun v _ => 530 - lenV v)
    case atStart => exact ⟨A3, m3, c3, ps3, rfl, by have := HM20.out; omega, HM3, hid ((HE3.out)), HWI0, hid (Below.refl _ _)⟩
    case round =>
      obtain ⟨A4, n4, c4, now, rfl, hn4, HN4, HE4, HWI, HB4⟩ := hrel
      have HRO := hid (round_any Ac cs nc cc HCL.out (by have := HNC.out; omega) HMY.out A4 now n4 c4 HN4.out (by omega) wr ((HCS3.out.below HB4.out).more HB4.out.size) HE4.out)
      go_wp2_with fail
      refine HRO.out.mono ?_
      rintro er w5 ⟨A5, c5, nxt, rfl, ho5, hb5, hr5⟩
      obtain ⟨n5, hn5⟩ : ∃ k, nxt.length = k := ⟨_, rfl⟩
      have HN5 := hid hn5
      have HB5 := hid (HB4.out.trans (hb5.mono HB4.out.size))
      have HE4b := hid ((HE4.out.below hb5).more hb5.size)
      have HR5 := hid hr5
      have HWI5 := hid (HWI.out.next HWS.out hr5)
      have HE5 := hid (own_els ho5)
      have hn5b : n5 ≤ 530 := by have h1 := HWI5.out.len.2; have h2 := HWL.out; have h3 := HM20.out; have h4 := HM3.out; rw [hn5, h4] at h1; omega
      have hle : n4 ≤ n5 := by have := hr5.len; rw [HN4.out, hn5] at this; exact this
      rw [hn5]
      clear HRO ho5 hb5 hr5 hn5
      by_cases heq : n5 = n4
      · subst heq
        have HCLO := hid (HR5.out.same (by rw [HN5.out, HN4.out])).2
        have hb15 := HB3.out.trans (HB5.out.mono HB3.out.size)
        have HA1 := hid (all_any A l n k HN.out hk hk2 (by omega) w5 ((HY.out.below hb15).more hb15.size))
        have HB15 := hid hb15
        clear HWI5 HE5 hb15 HR5
        go_wp2_with fail
        refine HA1.out.mono ?_
        rintro er w6 ⟨out1, A6, c6, lst1, hc1, rfl, hs1, hm1, ho1, hb6⟩
        obtain rfl : out1 = cs := counts_uniq hc1 HCN.out
        have hl1 := all_len hc1 hs1 hm1 (by rw [HN.out]; omega)
        have HT1 := hid (told_any A6 lst1 lst1.length c6 rfl (by omega) w6 (own_els ho1))
        have HE6 := hid ((HE4b.out.below hb6).more hb6.size)
        have HB16 := hid (HB15.out.trans (hb6.mono HB15.out.size))
        have HIN : Hid (∀ p ∈ lst1, p ∈ now) := hid (fun p hp => clos_imp HCLO.out ((hm1 p).1 hp))
        clear HA1 hc1 hs1 hm1 ho1 hb6
        go_wp2_with fail
        refine HT1.out.mono ?_
        rintro er w7 ⟨A7, c7, rfl, ho7, hb7⟩
        have HE7 := hid ((HE6.out.below hb7).more hb7.size)
        have HEL := hid (own_els ho7)
        have HB17 := hid (HB16.out.trans (hb7.mono HB16.out.size))
        obtain ⟨q1, hq1⟩ : ∃ x, lst1.length = x := ⟨_, rfl⟩
        have HQ1 := hid hq1
        rw [hq1] at hl1 ⊢
        clear HT1 ho7 hb7 hq1
        obtain ⟨wo, hwo⟩ : ∃ x, x = wr := ⟨_, rfl⟩
        subst hwo
        go_wp2_with fail
        go_loopw [9] (fun i wr => ∃ j : Nat, j ≤ q1 ∧ i = .int .i64 (j : Int) ∧ Hid (Below w7.heap.size w7 wr)) (fun i _ => q1 - (intOf i).toNat)
        case atStart => exact ⟨0, Nat.zero_le _, rfl, hid (Below.refl _ _)⟩
        case round =>
          obtain ⟨j, hj, rfl, HBJ⟩ := hrel
          by_cases hlt : j < q1
          · obtain ⟨⟨⟨o2, n2⟩, y⟩, hx⟩ : ∃ x, lst1[j]? = some x := ⟨_, List.getElem?_eq_getElem (by rw [HQ1.out]; exact hlt)⟩
            obtain ⟨bd, bk, rfl, hbb, eb, hbk, b0, bi⟩ := (HEL.out.below HBJ.out).get hx
            have b0 := b0 _ rfl
            have b1 := bi 1 _ (by omega) rfl
            have b2 := bi 2 _ (by omega) rfl
            have eb : bd.add (j * 3) = bk := eb
            have hj0 : (0 : Int) ≤ (j : Int) := Int.natCast_nonneg _
            have hj1 : (j : Int) < (q1 : Int) := by omega
            have HINC := hid (in_any A4 now n5 c4 HN4.out (by omega) o2 n2 y wr ((HE7.out.below HBJ.out).more HBJ.out.size))
            rw [decide_eq_true (HIN.out _ (List.mem_of_getElem? hx))] at HINC
            clear hx hbb hbk bi
            go_wp2_with fail
            refine HINC.out.mono ?_
            rintro er w8 ⟨rfl, hb8⟩
            have HB8 := hid (HBJ.out.trans (hb8.mono HBJ.out.size))
            clear HINC hb8 b0 b1 b2
            go_wp2_with fail
            go_roundw
            case rel => exact ⟨j + 1, by omega, by go_num, HB8⟩
            case measure => simp [intOf]; omega
          · obtain rfl : j = q1 := by omega
            have hb18 := HB17.out.trans (HBJ.out.mono HB17.out.size)
            go_wp2_with fail
            refine (lives_any wr).mono ?_
            rintro er w11 ⟨rfl, bb⟩
            go_wp2
            go_ret
            exact ⟨rfl, hb18.trans (bb.mono hb18.size)⟩
      · have hne : ¬ (n5 : Int) = (n4 : Int) := by omega
        go_wp2_with fail
        go_roundw
        case rel => exact ⟨A5, n5, c5, nxt, rfl, hn5b, HN5, HE5, HWI5, HB5⟩
        case measure => simp [lenV]; omega
end Go.Proofs.YtcligogmmjdobaaGreatDoor.Sh
