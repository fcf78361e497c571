/-
  The walk of ProofSound.
-/
import Derived.Test.YtfbapbpggicfbaaGreatDoorJz32
import Derived.Test.YtfbapbpggicfbaaGreatDoorJz48
set_option linter.unusedVariables false
set_option linter.unusedSimpArgs false
namespace Go.Proofs.YtfbapbpggicfbaaGreatDoor.Sh
open Go Go.RowKit

set_option linter.unusedSimpArgs false
set_option linter.unusedVariables false
set_option maxHeartbeats 16000000 in
set_option maxRecDepth 100000 in
theorem proofSound_walk (A : Option Addr) (l0 : List Crd) (n0 k : Nat) (hn0 : l0.length = n0) (hk0 : n0 ≤ k) (hk2 : k ≤ 9223372036854775807) (p : PT) (w : World) (hb : Crs w w.heap.size A l0) (hp : PIn w w.heap.size p) :
    Calls Tryz.prog 3 #[.slice A n0 k, .agg p.cells.toArray] w fun e w' => e = .returned (.bool true) ∧ Below w.heap.size w w' := by
  obtain ⟨w1, hw1⟩ : ∃ w1, w1 = w.alloc (.cells p.cells.toArray 29) := ⟨_, rfl⟩
  have HQ1 : Hid (Below w.heap.size w w1) := hid (by rw [hw1]; exact below_pr w _)
  have HPA : Hid (PrAt w1 w.heap.size p) := hid (by rw [hw1]; exact PrAt.new w p)
  have HPI := hid (fun W (hW : Below w1.heap.size w1 W) => hp.now (HQ1.out.trans (hW.mono HQ1.out.size)))
  have HFE := hid (fewC_any A l0 n0 k hn0 hk0 hk2 w1 ((hb.below HQ1.out).more HQ1.out.size))
  have HSM := hid (small7_any p w1 (HPI.out _ (Below.refl _ _)))
  obtain ⟨S, hS⟩ : ∃ S, p.size = S := ⟨_, rfl⟩
  obtain ⟨B60, hB60⟩ : ∃ b, decide (S ≤ 60) = b := ⟨_, rfl⟩
  rw [hS, hB60] at HSM
  have HCK := hid (fun n l A k (hn : l.length = n) (hk : n ≤ k) (hk2 : k ≤ 9223372036854775807) (hm : n ≤ 1000) W h (hW : Below w1.heap.size w1 W) => check_any A l n k hn hk hk2 hm p W h (HPI.out W hW))
  obtain ⟨CP, hCP⟩ : ∃ CP : List Crd → Prop, (fun cs => Cor cs p) = CP := ⟨_, rfl⟩
  have HCP := hid (fun cs => show CP cs ↔ Cor cs p by rw [← hCP])
  have HCK2 := hid (fun n l A k (hn : l.length = n) (hk : n ≤ k) (hk2 : k ≤ 9223372036854775807) (hm : n ≤ 1000) W h (hW : Below w1.heap.size w1 W) => (HCK.out n l A k hn hk hk2 hm W h hW).mono (R' := fun e w' => ∃ out, CountsOf out l ∧ e = .returned (.int .i64 (bif dc (CP out) then 0 else 15)) ∧ Below W.heap.size W w') fun e w' ⟨out, h1, h2, h3⟩ => ⟨out, h1, by rw [← hCP]; exact h2, h3⟩)
  have HIM := hid (fun cs (h : CP cs) => ((HCP.out cs).1 h).imp)
  clear HCK HCP hCP hS hB60 hp HPI
  obtain ⟨o, n', x, d, q, A', cp, ps⟩ := p
  have HPA5 := hid (fun W (hW : Below w1.heap.size w1 W) => (HPA.out.kept hW).all)
  obtain ⟨np, hnp⟩ : ∃ np, ps.length = np := ⟨_, rfl⟩
  rw [hnp] at HPA5
  unfold PT.cells at hw1 HSM HCK2 ⊢
  simp only [hnp] at hw1 HSM HCK2 ⊢
  obtain ⟨k0, k1', k2, k3, k4, k5⟩ := HPA5.out _ (Below.refl _ _)
  clear hb hn0 hk0 hnp HPA
  go_enter Tryz.func3, Tryz.ntmps3
  go_wp2_with fail
  rw [← hw1]
  clear hw1
  refine HFE.out.mono ?_
  rintro er w2 ⟨n, rfl, l, hN, hm, hk, y0, rfl⟩
  have HY := hid (fun W (hW : Below w2.heap.size w2 W) => (y0.below hW).more hW.size)
  have HN := hid hN
  clear HFE hN y0
  go_wp2_with fail
  refine HSM.out.mono ?_
  rintro er w3 ⟨rfl, hb3⟩
  have HB3 := hid hb3
  clear hb3 HSM k0 k1' k2 k3 k4 k5
  cases B60 with
  | false =>
    go_wp2_with fail
    refine (lives7_any w3).mono ?_
    rintro er w4 ⟨rfl, bb⟩
    go_wp2
    go_ret
    exact ⟨rfl, HQ1.out.trans ((HB3.out.trans (bb.mono HB3.out.size)).mono HQ1.out.size)⟩
  | true =>
    have HV3 := hid (HCK2.out n l A k HN.out hk hk2 (by omega) w3 (HY.out w3 HB3.out) HB3.out)
    obtain ⟨k0, k1', k2, k3, k4, k5⟩ := HPA5.out _ HB3.out
    go_wp2_with fail
    refine HV3.out.mono ?_
    rintro er w4 ⟨out0, hco, rfl, hb4⟩
    have HB4 := hid (HB3.out.trans (hb4.mono HB3.out.size))
    have HCO0 := hid hco
    obtain ⟨T, hT⟩ : ∃ T, dc (CP out0) = T := ⟨_, rfl⟩
    have HT : Hid (T = true → CP out0) := hid (fun h => (dc_iff (p := CP out0)).1 (hT.trans h))
    rw [hT]
    clear hb4 HV3 hco hT k0 k1' k2 k3 k4 k5
    cases T with
    | false =>
      go_wp2_with fail
      refine (lives7_any w4).mono ?_
      rintro er w5 ⟨rfl, bb⟩
      go_wp2
      go_ret
      exact ⟨rfl, HQ1.out.trans ((HB4.out.trans (bb.mono HB4.out.size)).mono HQ1.out.size)⟩
    | true =>
      have HIP : Hid (Imp (· ∈ out0) ((o, n'), x)) := hid (HIM.out out0 (HT.out rfl))
      obtain ⟨c1, hc1, hr1⟩ := imp_role HIP.out
      obtain ⟨c2, hc2, -, hr2⟩ := imp_who HIP.out
      have hk1 := okC_of (counts_mem HCO0.out hc1).1
      have hk3 := okC_of (counts_mem HCO0.out hc2).1
      have hko : okB o ∧ okB n' ∧ okB x := by
        unfold roleOf at hr1
        simp only [Prod.mk.injEq] at hr1
        have hr3 : c2.wh = x := hr2
        rw [← hr1.1, ← hr1.2, ← hr3]
        exact ⟨ok_dom _, hk1.1, hk3.2.1⟩
      have HHA := hid (has_any A l n k HN.out hk hk2 (by omega) o n' x hko.1 hko.2.1 hko.2.2 w4 (HY.out w4 HB4.out))
      obtain ⟨k0, k1', k2, k3, k4, k5⟩ := HPA5.out _ HB4.out
      clear hc1 hr1 hc2 hr2 hk1 hk3 hko
      go_wp2_with fail
      refine HHA.out.mono ?_
      rintro er w5 ⟨out1, b1, hco, rfl, hiff, hb5⟩
      obtain rfl : out0 = out1 := counts_uniq HCO0.out hco
      obtain rfl : b1 = true := hiff.2 HIP.out
      have HB5 := hid (HB4.out.trans (hb5.mono HB4.out.size))
      have HHB := hid (refHas_any A l n k HN.out (by omega) o n' x w5 (HY.out w5 HB5.out))
      clear hco hiff hb5 HHA k0 k1' k2 k3 k4 k5
      obtain ⟨k0, k1', k2, k3, k4, k5⟩ := HPA5.out _ HB5.out
      go_wp2_with fail
      refine HHB.out.mono ?_
      rintro er w6 ⟨out1, b1, hco, rfl, hiff, hb6⟩
      obtain rfl : out0 = out1 := counts_uniq HCO0.out hco
      obtain rfl : b1 = true := hiff.2 HIP.out
      have HB6 := hid (HB5.out.trans (hb6.mono HB5.out.size))
      clear hco hiff hb6 HHB k0 k1' k2 k3 k4 k5
      go_wp2_with fail
      refine (lives7_any w6).mono ?_
      rintro er w7 ⟨rfl, bb⟩
      go_wp2
      go_ret
      exact ⟨rfl, HQ1.out.trans ((HB6.out.trans (bb.mono HB6.out.size)).mono HQ1.out.size)⟩
end Go.Proofs.YtfbapbpggicfbaaGreatDoor.Sh
