/-
  The walk of ProofInner.
-/
import Derived.Test.YtcligogmmjdobaaDoorJr38
import Derived.Test.YtcligogmmjdobaaDoorJr35
set_option linter.unusedVariables false
set_option linter.unusedSimpArgs false
namespace Go.Proofs.YtcligogmmjdobaaDoor.Sh
open Go Go.RowKit

set_option linter.unusedSimpArgs false
set_option linter.unusedVariables false
set_option maxHeartbeats 8000000 in
set_option maxRecDepth 100000 in
theorem proofInner_walk (A : Option Addr) (l0 : List Crd) (n0 k : Nat) (hn0 : l0.length = n0) (hk0 : n0 ≤ k) (hk2 : k ≤ 9223372036854775807) (p : PT) (w : World) (hb : Crs w w.heap.size A l0) (hp : PIn w w.heap.size p) :
    Calls Tryd.prog 6 #[.slice A n0 k, .agg p.cells.toArray] w fun e w' => e = .returned (.bool true) ∧ Below w.heap.size w w' := by
  obtain ⟨o, n', x, d, q, A', cp, ps⟩ := p
  obtain ⟨h1, h2, h3, h4⟩ := hp.open'
  obtain ⟨w1, hw1⟩ : ∃ w1, w1 = w.alloc (.cells (PT.mk o n' x d q A' cp ps).cells.toArray 29) := ⟨_, rfl⟩
  have HQ1 : Hid (Below w.heap.size w w1) := hid (by rw [hw1]; exact below_pr w _)
  have HPA : Hid (PrAt w1 w.heap.size (.mk o n' x d q A' cp ps)) := hid (by rw [hw1]; exact PrAt.new w _)
  have HFE := hid (fewC_any A l0 n0 k hn0 hk0 hk2 w1 ((hb.below HQ1.out).more HQ1.out.size))
  have HSM := hid (small7_any (.mk o n' x d q A' cp ps) w1 (hp.now HQ1.out))
  have HCK := hid (fun n l hn hk hm (p : PT) (hp : PIn w w.heap.size p) W h (hW : Below w1.heap.size w1 W) => check_fix A l n k hn hk hk2 hm p W h (hp.now (HQ1.out.trans (hW.mono HQ1.out.size))))
  have HPX := hid hp
  have HPP := hid h4
  have HSZ := hid (fun (p : PT) (hp : PIn w w.heap.size p) (hs : p.size ≤ 60) W (hW : Below w1.heap.size w1 W) => size_any p W (by omega) (hp.now (HQ1.out.trans (hW.mono HQ1.out.size))))
  have HEL := hid (fun W (hW : Below w1.heap.size w1 W) => h3.below (HQ1.out.trans (hW.mono HQ1.out.size)))
  obtain ⟨S, hS⟩ : ∃ S, (PT.mk o n' x d q A' cp ps).size = S := ⟨_, rfl⟩
  have HS : Hid (S = 1 + (ps.map PT.size).sum) := hid (by rw [← hS, PT.size_eq])
  have HSS := hid hS
  obtain ⟨B60, hB60⟩ : ∃ b, decide (S ≤ 60) = b := ⟨_, rfl⟩
  have HB60 := hid hB60
  rw [hS, hB60] at HSM
  obtain ⟨np, hnp⟩ : ∃ np, ps.length = np := ⟨_, rfl⟩
  have HNP := hid hnp
  have hnp63 : np ≤ 9223372036854775807 := by omega
  have HPA5 := hid (fun W (hW : Below w1.heap.size w1 W) => (HPA.out.kept hW).all)
  rw [hnp] at HPA5
  unfold PT.cells at hw1 HSM ⊢
  simp only [hnp] at hw1 HSM ⊢
  obtain ⟨k0, k1, k2, k3, k4, k5⟩ := HPA5.out _ (Below.refl _ _)
  clear hb hp hn0 hk0 hB60 hnp hS h1 h2 h3 h4
  go_enter Tryd.func6, Tryd.ntmps6
  go_wp2_with fail
  rw [← hw1]
  clear hw1
  refine HFE.out.mono ?_
  rintro er w2 ⟨n, rfl, l, hN, hm, hk, y0, rfl⟩
  have HY := hid (fun W (hW : Below w2.heap.size w2 W) => (y0.below hW).more hW.size)
  have HV := hid (fun p hp W (hW : Below w2.heap.size w2 W) => HCK.out n l hN hk (by omega) p hp W (HY.out W hW) hW)
  clear HFE hN y0
  go_wp2_with fail
  refine HSM.out.mono ?_
  rintro er w3 ⟨rfl, hb3⟩
  have HB3 := hid hb3
  clear hb3 HSM k0 k1 k2 k3 k4 k5
  cases B60 with
  | false =>
    go_wp2_with fail
    refine (lives7_any w3).mono ?_
    rintro er w4 ⟨rfl, bb⟩
    go_wp2
    go_ret
    exact ⟨rfl, HQ1.out.trans ((HB3.out.trans (bb.mono HB3.out.size)).mono HQ1.out.size)⟩
  | true =>
    have HS60 : Hid (S ≤ 60) := hid (of_decide_eq_true HB60.out)
    obtain ⟨k0, k1, k2, k3, k4, k5⟩ := HPA5.out _ HB3.out
    have HV3 := hid (HV.out _ HPX.out w3 HB3.out)
    obtain ⟨T, hT⟩ : ∃ T, dc (Cor (cnt l) (PT.mk o n' x d q A' cp ps)) = T := ⟨_, rfl⟩
    have HT := hid hT
    rw [hT] at HV3
    unfold PT.cells at HV3
    simp only [HNP.out] at HV3
    clear hT
    cases T with
    | false =>
      go_wp2_with fail
      refine HV3.out.mono ?_
      rintro er w4 ⟨rfl, hb4⟩
      have HB4 := hid (HB3.out.trans (hb4.mono HB3.out.size))
      clear hb4 HV3
      go_wp2_with fail
      refine (lives7_any w4).mono ?_
      rintro er w5 ⟨rfl, bb⟩
      go_wp2
      go_ret
      exact ⟨rfl, HQ1.out.trans ((HB4.out.trans (bb.mono HB4.out.size)).mono HQ1.out.size)⟩
    | true =>
      have HCO : Hid (∀ a ∈ ps, Cor (cnt l) a) := hid (fun a ha => Cor.part (p := .mk o n' x d q A' cp ps) ((dc_iff (p := Cor (cnt l) (PT.mk o n' x d q A' cp ps))).1 HT.out) ha)
      go_wp2_with fail
      refine HV3.out.mono ?_
      rintro er w4 ⟨rfl, hb4⟩
      have HB4 := hid (HB3.out.trans (hb4.mono HB3.out.size))
      clear hb4 HV3 k0 k1 k2 k3 k4 k5
      go_wp2_with fail
      go_loopw [6] (fun i wr => ∃ j : Nat, j ≤ np ∧ i = .int .i64 (j : Int) ∧ Hid (Below w2.heap.size w2 wr)) (fun i _ => np - (intOf i).toNat)
      case atStart => exact ⟨0, Nat.zero_le _, rfl, HB4⟩
      case round =>
        obtain ⟨j, hj, rfl, HB⟩ := hrel
        obtain ⟨k0, k1, k2, k3, k4, k5⟩ := HPA5.out _ HB.out
        by_cases hlt : j < np
        · obtain ⟨⟨o2, n2, x2, d2, q2, A2, c2, ps2⟩, hx⟩ : ∃ x, ps[j]? = some x := ⟨_, List.getElem?_eq_getElem (by rw [HNP.out]; exact hlt)⟩
          have HME : Hid (PT.mk o2 n2 x2 d2 q2 A2 c2 ps2 ∈ ps) := hid (List.mem_of_getElem? hx)
          obtain ⟨S2, hS2⟩ : ∃ S2, (PT.mk o2 n2 x2 d2 q2 A2 c2 ps2).size = S2 := ⟨_, rfl⟩
          have hlt2 : S2 < S := by have e1 := sum_split hx; have e2 := HS.out; omega
          have HLT := hid hlt2
          obtain ⟨ad, aj, rfl, hab, ea, hbj, b0, b1, b2, b3, b4, b5⟩ := PIn.get (HEL.out wr HB.out) hx
          have HAJ := hid (fun W (hW : Below wr.heap.size wr W) => (⟨(hW.cell (p := aj) (by rw [hbj]; exact Nat.lt_of_lt_of_le hab (Nat.le_trans HQ1.out.size HB.out.size))).trans b0, (hW.cell (p := ⟨aj.block, aj.off + 1, none⟩) (show aj.block < _ by rw [hbj]; exact Nat.lt_of_lt_of_le hab (Nat.le_trans HQ1.out.size HB.out.size))).trans b1, (hW.cell (p := ⟨aj.block, aj.off + 2, none⟩) (show aj.block < _ by rw [hbj]; exact Nat.lt_of_lt_of_le hab (Nat.le_trans HQ1.out.size HB.out.size))).trans b2, (hW.cell (p := ⟨aj.block, aj.off + 3, none⟩) (show aj.block < _ by rw [hbj]; exact Nat.lt_of_lt_of_le hab (Nat.le_trans HQ1.out.size HB.out.size))).trans b3, (hW.cell (p := ⟨aj.block, aj.off + 4, none⟩) (show aj.block < _ by rw [hbj]; exact Nat.lt_of_lt_of_le hab (Nat.le_trans HQ1.out.size HB.out.size))).trans b4, (hW.cell (p := ⟨aj.block, aj.off + 5, none⟩) (show aj.block < _ by rw [hbj]; exact Nat.lt_of_lt_of_le hab (Nat.le_trans HQ1.out.size HB.out.size))).trans b5⟩ :
            W.cell? aj = some (.string o2) ∧ W.cell? ⟨aj.block, aj.off + 1, none⟩ = some (.string n2) ∧ W.cell? ⟨aj.block, aj.off + 2, none⟩ = some (.string x2) ∧ W.cell? ⟨aj.block, aj.off + 3, none⟩ = some (.int .i64 d2) ∧ W.cell? ⟨aj.block, aj.off + 4, none⟩ = some (.int .i64 q2) ∧ W.cell? ⟨aj.block, aj.off + 5, none⟩ = some (.slice A2 ps2.length c2)))
          have hj0 : (0 : Int) ≤ (j : Int) := Int.natCast_nonneg _
          have hj1 : (j : Int) < (np : Int) := by omega
          have hge : decide ((S : Int) ≤ (S2 : Int)) = false := decide_eq_false (by omega)
          have hge2 : decide (S ≤ S2) = false := decide_eq_false (by omega)
          have hge3 : ¬ S ≤ S2 := by omega
          have hge4 : ¬ (S : Int) ≤ (S2 : Int) := by omega
          have hge5 : S2 < S := by omega
          have HC1 := hid (fun W (hW : Below wr.heap.size wr W) => by
            have := HV.out _ (HPP.out _ HME.out) W (HB.out.trans (hW.mono HB.out.size))
            rw [(dc_iff (p := Cor (cnt l) (PT.mk o2 n2 x2 d2 q2 A2 c2 ps2))).2 (HCO.out _ HME.out)] at this
            exact this)
          have HZ1 := hid (fun W (hW : Below wr.heap.size wr W) => by
            have := HSZ.out _ (HPP.out _ HME.out) (by rw [hS2]; have := HS60.out; omega) W (HB.out.trans (hW.mono HB.out.size))
            rw [hS2] at this
            exact this)
          have HZ2 := hid (fun W (hW : Below wr.heap.size wr W) => by
            have := HSZ.out _ HPX.out (by rw [HSS.out]; exact HS60.out) W (HB.out.trans (hW.mono HB.out.size))
            rw [HSS.out] at this
            exact this)
          unfold PT.cells at HC1 HZ1 HZ2
          simp only [HNP.out, cond_true] at HC1 HZ1 HZ2
          clear hx hab hbj hS2 hlt2 b0 b1 b2 b3 b4 b5
          go_wp2_with fail
          clear k0 k1 k2 k3 k4 k5
          have k0 := fun x : Wn wr.heap.size wr => (HPA5.out x.1 (HB.out.trans (x.2.mono HB.out.size))).1
          have k1 := fun x : Wn wr.heap.size wr => (HPA5.out x.1 (HB.out.trans (x.2.mono HB.out.size))).2.1
          have k2 := fun x : Wn wr.heap.size wr => (HPA5.out x.1 (HB.out.trans (x.2.mono HB.out.size))).2.2.1
          have k3 := fun x : Wn wr.heap.size wr => (HPA5.out x.1 (HB.out.trans (x.2.mono HB.out.size))).2.2.2.1
          have k4 := fun x : Wn wr.heap.size wr => (HPA5.out x.1 (HB.out.trans (x.2.mono HB.out.size))).2.2.2.2.1
          have k5 := fun x : Wn wr.heap.size wr => (HPA5.out x.1 (HB.out.trans (x.2.mono HB.out.size))).2.2.2.2.2
          have a0 := fun x : Wn wr.heap.size wr => (HAJ.out x.1 x.2).1
          have a1 := fun x : Wn wr.heap.size wr => (HAJ.out x.1 x.2).2.1
          have a2 := fun x : Wn wr.heap.size wr => (HAJ.out x.1 x.2).2.2.1
          have a3 := fun x : Wn wr.heap.size wr => (HAJ.out x.1 x.2).2.2.2.1
          have a4 := fun x : Wn wr.heap.size wr => (HAJ.out x.1 x.2).2.2.2.2.1
          have a5 := fun x : Wn wr.heap.size wr => (HAJ.out x.1 x.2).2.2.2.2.2
          have HDR := hid (Below.refl wr.heap.size wr).drew
          refine region_in wr.heap.size wr (by kernel_rfl) (by kernel_rfl) HDR.out ?_
          repeat (go_big_quiet_step (first
            | (go_at_call 11; with_reducible exact call_in2 (Nat.le_refl _) HC1.out)
            | (go_at_call 16; with_reducible exact call_in2 (Nat.le_refl _) HZ1.out)
            | (go_at_call 16; with_reducible exact call_in2 (Nat.le_refl _) HZ2.out)))
          refine wpQuiet_nil ?_
          intro wq hwq
          have HWQ := hid (HB.out.trans (hwq.mono HB.out.size))
          clear hwq k0 k1 k2 k3 k4 k5 a0 a1 a2 a3 a4 a5
          go_wp2_with fail
          go_roundw
          case rel => exact ⟨j + 1, by omega, by go_num, HWQ⟩
          case measure => simp [intOf]; omega
        · obtain rfl : j = np := by omega
          go_wp2_with fail
          refine (lives7_any wr).mono ?_
          rintro er w5 ⟨rfl, bb⟩
          go_wp2
          go_ret
          exact ⟨rfl, HQ1.out.trans ((HB.out.trans (bb.mono HB.out.size)).mono HQ1.out.size)⟩
end Go.Proofs.YtcligogmmjdobaaDoor.Sh
/-
  The walk of ProofOwns.
-/
namespace Go.Proofs.YtcligogmmjdobaaDoor.Sh
open Go Go.RowKit

set_option linter.unusedSimpArgs false
set_option linter.unusedVariables false
set_option maxHeartbeats 4000000 in
set_option maxRecDepth 100000 in
theorem proofOwns_walk (A : Option Addr) (l0 : List Crd) (n0 k : Nat) (hn0 : l0.length = n0) (hk0 : n0 ≤ k) (hk2 : k ≤ 9223372036854775807) (p : PT) (w : World) (hb : Crs w w.heap.size A l0) (hp : PIn w w.heap.size p) :
    Calls Tryd.prog 7 #[.slice A n0 k, .agg p.cells.toArray] w fun e w' => e = .returned (.bool true) ∧ Below w.heap.size w w' := by
  obtain ⟨o, n', x, d, q, A', cp, ps⟩ := p
  obtain ⟨w1, hw1⟩ : ∃ w1, w1 = w.alloc (.cells (PT.mk o n' x d q A' cp ps).cells.toArray 29) := ⟨_, rfl⟩
  have HQ1 : Hid (Below w.heap.size w w1) := hid (by rw [hw1]; exact below_pr w _)
  have HPA : Hid (PrAt w1 w.heap.size (.mk o n' x d q A' cp ps)) := hid (by rw [hw1]; exact PrAt.new w _)
  have HPI := hid (fun W (hW : Below w1.heap.size w1 W) => hp.now (HQ1.out.trans (hW.mono HQ1.out.size)))
  have HFE := hid (fewC_any A l0 n0 k hn0 hk0 hk2 w1 ((hb.below HQ1.out).more HQ1.out.size))
  have HSM := hid (small7_any (.mk o n' x d q A' cp ps) w1 (hp.now HQ1.out))
  have HCK := hid (fun n l hn hk hm W h (hW : Below w1.heap.size w1 W) => check_fix A l n k hn hk hk2 hm (.mk o n' x d q A' cp ps) W h (hp.now (HQ1.out.trans (hW.mono HQ1.out.size))))
  obtain ⟨S, hS⟩ : ∃ S, (PT.mk o n' x d q A' cp ps).size = S := ⟨_, rfl⟩
  have HSU := hid (fun (hs : S ≤ 60) W (hW : Below w1.heap.size w1 W) => support_any (.mk o n' x d q A' cp ps) W (by omega) (hp.now (HQ1.out.trans (hW.mono HQ1.out.size))))
  have HRS := hid (fun (hs : S ≤ 60) W (hW : Below w1.heap.size w1 W) => refSupport_any (.mk o n' x d q A' cp ps) W (by omega) (hp.now (HQ1.out.trans (hW.mono HQ1.out.size))))
  obtain ⟨I, hI⟩ : ∃ I, (PT.mk o n' x d q A' cp ps).ids = I := ⟨_, rfl⟩
  have HIL : Hid (I.length = S) := hid (by rw [← hI]; exact hS)
  have HIP : Hid (0 < I.length) := hid (by rw [← hI]; exact (PT.mk o n' x d q A' cp ps).size_pos)
  rw [hI] at HSU HRS
  obtain ⟨B60, hB60⟩ : ∃ b, decide (S ≤ 60) = b := ⟨_, rfl⟩
  have HB60 := hid hB60
  rw [hS, hB60] at HSM
  obtain ⟨np, hnp⟩ : ∃ np, ps.length = np := ⟨_, rfl⟩
  have HPA5 := hid (fun W (hW : Below w1.heap.size w1 W) => (HPA.out.kept hW).all)
  rw [hnp] at HPA5
  unfold PT.cells at hw1 HSM HCK HSU HRS ⊢
  simp only [hnp] at hw1 HSM HCK HSU HRS ⊢
  obtain ⟨k0, k1, k2, k3, k4, k5⟩ := HPA5.out _ (Below.refl _ _)
  clear hb hp hn0 hk0 hB60 hnp hS hI
  go_enter Tryd.func7, Tryd.ntmps7
  go_wp2_with fail
  rw [← hw1]
  clear hw1
  refine HFE.out.mono ?_
  rintro er w2 ⟨n, rfl, l, hN, hm, hk, y0, rfl⟩
  have HY := hid (fun W (hW : Below w2.heap.size w2 W) => (y0.below hW).more hW.size)
  have HV1 := hid (fun W (hW : Below w2.heap.size w2 W) => HCK.out n l hN hk (by omega) W (HY.out W hW) hW)
  have HYR := hid (fun W (hW : Below w2.heap.size w2 W) => (y0.below hW).reads)
  have HN := hid hN
  have HM14 : Hid (n ≤ 14) := hid hm
  clear HFE hN y0
  go_wp2_with fail
  refine HSM.out.mono ?_
  rintro er w3 ⟨rfl, hb3⟩
  have HB3 := hid hb3
  clear hb3 HSM k0 k1 k2 k3 k4 k5
  cases B60 with
  | false =>
    go_wp2_with fail
    refine (lives7_any w3).mono ?_
    rintro er w4 ⟨rfl, bb⟩
    go_wp2
    go_ret
    exact ⟨rfl, HQ1.out.trans ((HB3.out.trans (bb.mono HB3.out.size)).mono HQ1.out.size)⟩
  | true =>
    have hs60 : S ≤ 60 := of_decide_eq_true HB60.out
    have HS60 := hid hs60
    have HSU3 := hid (HSU.out hs60)
    have HRS3 := hid (HRS.out hs60)
    have y3 := HYR.out _ HB3.out
    have HQ2 : Hid (0 + n ≤ 1000000000000) := hid (by omega)
    have HQ3 : Hid (0 + n = n) := hid (by omega)
    clear HSU HRS hs60
    go_wp2_with (first
      | (at_builtin; refine wpList_appC rfl (.tmp 18) (.tmp 19) rfl w3.heap.size (.slice none 0 0) 0 [] (OwnC.nil _ _) ?dd1 A n k l ?dd2 ?dd3 ?dd4 ?dd5 ?dd6 w3 ?dd7 n ?dd8 ?dd9; (case dd1 => rfl); (case dd2 => rfl); (case dd3 => exact HN.out); (case dd4 => exact y3); (case dd5 => exact HQ2.out); (case dd6 => exact Nat.le_refl _); (case dd7 => exact Below.refl _ _); (case dd8 => exact HQ3.out); (intro A3 c3 w4 o4 g4 b4 h4; have HO4 := hid o4; have HB4 := hid (HB3.out.trans (b4.mono HB3.out.size)); have HB34 := hid b4; clear o4 g4 b4 h4; (obtain ⟨k0, k1, k2, k3, k4, k5⟩ := HPA5.out _ HB4.out))))
    refine (HSU3.out _ HB4.out).mono ?_
    rintro er w5 ⟨A5, c5, ss, rfl, hso, hme, ho5, hb5⟩
    have hpos : 0 < ss.length := by
      obtain ⟨i, hi⟩ := List.exists_mem_of_length_pos HIP.out
      exact List.length_pos_of_mem ((hme i).2 hi)
    obtain ⟨g, cur, rfl, hgB, hgr, hgs⟩ : ∃ g cur, A5 = some ⟨g, 0, none⟩ ∧ w4.heap.size ≤ g ∧ w5.heap[g]? = some (.cells cur 26 (0, 0)) ∧ ss.length * 2 ≤ cur.size := by
      rcases ho5.2 with ⟨_, h0⟩ | ⟨g, cap, cur, hv, hB, hbk, hc1, hc2, hc3, hc4⟩
      · omega
      · simp only [Value.slice.injEq] at hv
        exact ⟨g, cur, hv.1, hB, hbk, by rw [hc3]; exact Nat.mul_le_mul_right _ hc1⟩
    have hml : ss.length ≤ 60 := by
      have h1 := nodup_le (b := I) (show ss.Nodup from List.Pairwise.imp (fun {x y} hxy (e : x = y) => by subst e; unfold beforeI at hxy; simp only [decide_eq_true_eq] at hxy; omega) hso) (fun i hi => (hme i).1 hi)
      have h2 := HIL.out
      have h3 := HS60.out
      omega
    obtain ⟨m, hm2⟩ : ∃ m, ss.length = m := ⟨_, rfl⟩
    rw [hm2] at hgs hml ⊢
    have HB5 := hid hb5
    have HGR : Hid (∃ cur', w5.heap[g]? = some (.cells cur' 26 (0, 0)) ∧ m * 2 ≤ cur'.size) := hid ⟨cur, hgr, hgs⟩
    have HGB : Hid (w4.heap.size ≤ g) := hid hgB
    clear hso hme ho5 hb5 hpos hm2 hgr hgs hgB k0 k1 k2 k3 k4 k5
    go_wp2_with fail
    go_loopw [8] (fun i wr => ∃ j : Nat, j ≤ m ∧ i = .int .i64 (j : Int) ∧ Hid (∃ cur', wr.heap[g]? = some (.cells cur' 26 (0, 0)) ∧ m * 2 ≤ cur'.size) ∧ Hid (Below w4.heap.size w4 wr)) (fun i _ => m - (intOf i).toNat)
    case atStart => exact ⟨0, Nat.zero_le _, rfl, HGR, HB5⟩
    case round =>
      obtain ⟨j, hj, rfl, HC, HB⟩ := hrel
      by_cases hlt : j < m
      · obtain ⟨cur', hrow, hsz⟩ := HC.out
        obtain ⟨u0, hu0⟩ : ∃ u, cur'[j * 2]? = some u := ⟨_, Array.getElem?_eq_getElem (by omega)⟩
        obtain ⟨u1, hu1⟩ : ∃ u, cur'[j * 2 + 1]? = some u := ⟨_, Array.getElem?_eq_getElem (by omega)⟩
        have c0 : wr.cell? ⟨g, j * 2, none⟩ = some u0 := (cell_of_row wr g (j * 2) _ _ (0, 0) hrow).trans hu0
        have c1 : wr.cell? ⟨g, j * 2 + 1, none⟩ = some u1 := (cell_of_row wr g (j * 2 + 1) _ _ (0, 0) hrow).trans hu1
        have f0 : wr.frozen? ⟨g, j * 2, none⟩ = false := frozen_of_row wr g (j * 2) _ _ hrow
        have f1 : wr.frozen? ⟨g, j * 2 + 1, none⟩ = false := frozen_of_row wr g (j * 2 + 1) _ _ hrow
        have ea : (⟨g, 0, none⟩ : Addr).add (j * 2) = ⟨g, j * 2, none⟩ := by
          simp [Addr.add]
          omega
        have hj0 : (0 : Int) ≤ (j : Int) := Int.natCast_nonneg _
        have hj1 : (j : Int) < (m : Int) := by omega
        have HRW : Hid (∃ cur2, ((wr.setCell ⟨g, j * 2, none⟩ (.int .i64 0)).setCell ⟨g, j * 2 + 1, none⟩ (.int .i64 0)).heap[g]? = some (.cells cur2 26 (0, 0)) ∧ m * 2 ≤ cur2.size) := hid (by
          have r1 := heap_setCell_same wr g (j * 2) _ _ (.int .i64 0) hrow
          have r2 := heap_setCell_same _ g (j * 2 + 1) _ _ (.int .i64 0) r1
          exact ⟨_, r2, by simpa using hsz⟩)
        have HBW : Hid (Below w4.heap.size w4 ((wr.setCell ⟨g, j * 2, none⟩ (.int .i64 0)).setCell ⟨g, j * 2 + 1, none⟩ (.int .i64 0))) := hid ((HB.out.setCell (p := ⟨g, j * 2, none⟩) HGB.out _).setCell (p := ⟨g, j * 2 + 1, none⟩) HGB.out _)
        clear hrow hsz hu0 hu1
        go_wp2_with fail
        go_roundw
        case rel => exact ⟨j + 1, by omega, by go_num, HRW, HBW⟩
        case measure => simp [intOf]; omega
      · obtain rfl : j = m := by omega
        have HBR := hid (HB4.out.trans (HB.out.mono HB4.out.size))
        obtain ⟨k0, k1, k2, k3, k4, k5⟩ := HPA5.out _ HBR.out
        have HCK3 := hid (HV1.out wr HBR.out)
        go_wp2_with fail
        refine HCK3.out.mono ?_
        rintro er w6 ⟨rfl, hb6⟩
        have HB6 := hid (HB.out.trans (hb6.mono HB.out.size))
        have HBR6 := hid (HB4.out.trans (HB6.out.mono HB4.out.size))
        have hcr := HO4.out.crs
        rw [List.nil_append] at hcr
        have HSA := hid (refSameC_eq A3 A l n c3 k HN.out (by have := HM14.out; omega) w6 ((hcr.below HB6.out).more HB6.out.size) (HY.out _ HBR6.out))
        clear HCK3 hb6 hcr k0 k1 k2 k3 k4 k5
        go_wp2_with fail
        refine HSA.out.mono ?_
        rintro er w7 ⟨rfl, hq⟩
        have HB7 : Hid (Below w2.heap.size w2 w7) := hid (by obtain ⟨q, rfl⟩ := hq; exact below_drewN HBR6.out q)
        have HDR := hid HB7.out.drew
        clear HSA hq
        go_wp2_with fail
        go_region_held3 (fun W => W.cell? ⟨w.heap.size, 0, none⟩ = some (.string o) ∧ W.cell? ⟨w.heap.size, 1, none⟩ = some (.string n') ∧ W.cell? ⟨w.heap.size, 2, none⟩ = some (.string x) ∧ W.cell? ⟨w.heap.size, 3, none⟩ = some (.int .i64 d) ∧ W.cell? ⟨w.heap.size, 4, none⟩ = some (.int .i64 q) ∧ W.cell? ⟨w.heap.size, 5, none⟩ = some (.slice A' np cp))
          (first | exact HPA5.out _ HB10.out | exact HPA5.out _ HB9.out | exact HPA5.out _ HB8.out | exact HPA5.out _ HDR.out | go_keep) (first
          | (go_at_call 14; (refine (HSU3.out _ HDR.out).mono ?_); rintro er w8 ⟨A8, c8, s8, rfl, hso, hme, ho8, hb8⟩; have HB8 := hid (kept_trans HDR.out HDR.out.size hb8); have HO8 := hid ho8; have HE8 : Hid (s8 = onceI I) := hid (hso.uniq (onceI_all I).1 fun i => by rw [hme, (onceI_all I).2.2]); clear hso hme ho8 hb8)
          | (go_at_call 15; (refine (HRS3.out _ HB8.out).mono ?_); rintro er w9 ⟨A9, c9, rfl, ho9, hb9⟩; have HB9 := hid (kept_trans HB8.out HB8.out.size hb9); have HO9 := hid ho9; have HO89 := hid (HO8.out.below hb9); clear ho9 hb9; have e8 := HE8.out; subst e8; have HSI := hid (sameIDs_eq A8 A9 (onceI I) _ c8 c9 rfl (by have h1 := (onceI_all I).2.1; have h2 := HIL.out; have h3 := HS60.out; omega) w9 (own_els HO89.out) (own_els HO9.out)))
          | (go_at_call 13; (refine HSI.out.mono ?_); rintro er w10 ⟨rfl, hq⟩; have HB10 : Hid (Below w2.heap.size w2 w10) := hid (by obtain ⟨q, rfl⟩ := hq; exact below_drewN HB9.out q); clear hq)
          | fail)
        all_goals
          go_wp2_with fail
          refine (lives7_any _).mono ?_
          rintro er w11 ⟨rfl, bb⟩
          go_wp2
          go_ret
          exact ⟨rfl, HQ1.out.trans ((HB10.out.trans (bb.mono HB10.out.size)).mono HQ1.out.size)⟩
end Go.Proofs.YtcligogmmjdobaaDoor.Sh
