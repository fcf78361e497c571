/-
  The document's own Check, by contract.
-/
import Derived.Test.YtcligogmmjdobaaDoorJr37
import Derived.Test.YtcligogmmjdobaaDoorJr34
import Derived.Test.YtcligogmmjdobaaDoorJr36
import Derived.Test.YtcligogmmjdobaaDoorJr35
import Derived.Test.YtcligogmmjdobaaDoorJr12
set_option linter.unusedVariables false
set_option linter.unusedSimpArgs false
namespace Go.Proofs.YtcligogmmjdobaaDoor.Sh
open Go Go.RowKit

set_option linter.unusedVariables false
set_option linter.unusedSimpArgs false

theorem of_self {cs : List Crd} {p : PT} : OfP cs p p.pr ↔ Cor cs p := ⟨fun h => h.2, fun h => ⟨rfl, h⟩⟩
set_option maxHeartbeats 4000000 in
set_option maxRecDepth 100000 in
theorem refCheck_any (A : Option Addr) (all : List Crd) (n c : Nat) (hn : all.length = n) (hm : n ≤ 1000) (p : PT) (w : World) (h : Crs w w.heap.size A all) (hp : PIn w w.heap.size p) :
    Calls Tryd.prog 12 #[.slice A n c, .agg p.cells.toArray] w fun e w' => ∃ out, CountsOf out all ∧ e = .returned (.int .i64 (bif dc (Cor out p) then 0 else 15)) ∧ Below w.heap.size w w' := by
  obtain ⟨o, n', x, d, q, A', cp, ps⟩ := p
  obtain ⟨w1, hw1⟩ : ∃ w1, w1 = w.alloc (.cells (PT.mk o n' x d q A' cp ps).cells.toArray 29) := ⟨_, rfl⟩
  have HQ1 : Hid (Below w.heap.size w w1) := hid (by rw [hw1]; exact below_pr w _)
  have HPA : Hid (PrAt w1 w.heap.size (.mk o n' x d q A' cp ps)) := hid (by rw [hw1]; exact PrAt.new w _)
  have HCO := hid (fun W (hW : Below w1.heap.size w1 W) => refCounts_any A all n c hn (by omega) W ((h.below (HQ1.out.trans (hW.mono HQ1.out.size))).more (Nat.le_trans HQ1.out.size hW.size)))
  have HPI := hid (fun W (hW : Below w1.heap.size w1 W) => hp.now (HQ1.out.trans (hW.mono HQ1.out.size)))
  have HM : Hid (n ≤ 1000) := hid hm
  obtain ⟨np, hnp⟩ : ∃ np, ps.length = np := ⟨_, rfl⟩
  have HNP := hid hnp
  have HPA5 := hid (fun W (hW : Below w1.heap.size w1 W) => (HPA.out.kept hW).all)
  rw [hnp] at HPA5
  have HD := hid (Below.refl w1.heap.size w1).drew
  unfold PT.cells at hw1 ⊢
  simp only [hnp] at hw1 ⊢
  clear h hp hn hnp hm
  go_enter Tryd.func12, Tryd.ntmps12
  go_wp2_with fail
  rw [← hw1]
  clear hw1
  go_region_held3 (fun W => W.cell? ⟨w.heap.size, 0, none⟩ = some (.string o) ∧ W.cell? ⟨w.heap.size, 1, none⟩ = some (.string n') ∧ W.cell? ⟨w.heap.size, 2, none⟩ = some (.string x) ∧ W.cell? ⟨w.heap.size, 3, none⟩ = some (.int .i64 d) ∧ W.cell? ⟨w.heap.size, 4, none⟩ = some (.int .i64 q) ∧ W.cell? ⟨w.heap.size, 5, none⟩ = some (.slice A' np cp))
    (first | exact HPA5.out _ B2.out | exact HPA5.out _ B1.out | exact HPA5.out _ HD.out | go_keep) (first
    | (go_at_call 22; (refine (HCO.out _ HD.out).mono ?_); rintro er w2 ⟨Ac, nc, cc, cs, rfl, hnc, oc, hco, bb⟩; have B1 := hid (kept_trans HD.out HD.out.size bb); have HCN := hid hco; have HCR := hid oc.crs; have HCL := hid oc.len; have HLE := hid hnc;
        have HOF := hid (of_any cs (fun c hc => (counts_mem hco hc).1) (counts_onceI hco) Ac nc cc oc.len (by have := HM.out; omega) (.mk o n' x d q A' cp ps) o n' x); unfold PT.cells at HOF; simp only [HNP.out] at HOF; (obtain ⟨T, hT⟩ : ∃ T, dc (OfP cs (.mk o n' x d q A' cp ps) ((o, n'), x)) = T := ⟨_, rfl⟩); have HT : Hid (dc (Cor cs (.mk o n' x d q A' cp ps)) = T) := hid (by rw [← hT]; unfold dc; exact decide_eq_decide.2 of_self.symm); rw [hT] at HOF; clear hT bb hco oc hnc)
    | (go_at_call 28; (refine (HOF.out _ HCR.out (HPI.out _ B1.out)).mono ?_); rintro er w3 ⟨rfl, bb⟩; have B2 := hid (kept_trans B1.out B1.out.size bb); clear bb)
    | fail)
  all_goals
    cases T <;>
    · go_wp2_with fail
      go_ret
      exact ⟨cs, HCN.out, by rw [HT.out]; rfl, HQ1.out.trans (B2.out.mono HQ1.out.size)⟩
end Go.Proofs.YtcligogmmjdobaaDoor.Sh
/-
  few, small; the walk of ProofChecks.
-/
namespace Go.Proofs.YtcligogmmjdobaaDoor.Sh
open Go Go.RowKit

set_option linter.unusedSimpArgs false
set_option linter.unusedVariables false
theorem fewC_any (A : Option Addr) (l : List Crd) (n k : Nat) (hn : l.length = n) (hk : n ≤ k) (hk2 : k ≤ 9223372036854775807) (w : World) (h : Crs w w.heap.size A l) :
    Calls Tryd.prog 8 #[.slice A n k] w fun e w' => ∃ m : Nat, e = .returned (.slice A m k) ∧ ∃ l' : List Crd, l'.length = m ∧ m ≤ 14 ∧ m ≤ k ∧ Crs w w.heap.size A l' ∧ w' = w := by
  by_cases h14 : 14 < n
  · have hN : (l.take 14).length = 14 := by rw [List.length_take]; omega
    have HY := hid (h.head (hi := 14))
    have h14' : (14 : Int) < (n : Int) := by omega
    have h14k : 14 ≤ k := by omega
    have HN := hid hN
    clear h hn hN
    go_enter Tryd.func8, Tryd.ntmps8
    go_wp2_with fail
    go_ret
    exact ⟨14, rfl, l.take 14, HN.out, Nat.le_refl _, h14k, HY.out, rfl⟩
  · have h14' : ¬ (14 : Int) < (n : Int) := by omega
    have HN := hid hn
    have HY := hid h
    clear h hn
    go_enter Tryd.func8, Tryd.ntmps8
    go_wp2_with fail
    go_ret
    exact ⟨n, rfl, l, HN.out, by omega, hk, HY.out, rfl⟩
theorem small7_any (p : PT) (w : World) (hp : PIn w w.heap.size p) :
    Calls Tryd.prog 9 #[.agg p.cells.toArray] w fun e w' => e = .returned (.bool (decide (p.size ≤ 60))) ∧ Below w.heap.size w w' := by
  have hpos := p.size_pos
  obtain ⟨o, n, x, d, q, A, c, ps⟩ := p
  obtain ⟨S, hS⟩ : ∃ S, (PT.mk o n x d q A c ps).size = S := ⟨_, rfl⟩
  have HCA := hid (fun W (hW : Below w.heap.size w W) => few7_any (.mk o n x d q A c ps) 60 W (by omega) (hp.now hW))
  have HB1 := hid ((Below.refl w.heap.size w).alloc (Nat.le_refl _) (.cells #[.string o, .string n, .string x, .int .i64 d, .int .i64 q, .slice A ps.length c] 29))
  rw [hS] at HCA hpos ⊢
  unfold PT.cells at HCA ⊢
  simp only at HCA ⊢
  clear hp hS
  by_cases hle : S ≤ 60
  · simp only [if_pos hle, decide_eq_true hle] at HCA ⊢
    have hpi : (0 : Int) < (S : Int) := by omega
    have hd : decide ((0 : Int) < (S : Int)) = true := decide_eq_true hpi
    clear hle
    go_enter Tryd.func9, Tryd.ntmps9
    go_wp2_with fail
    refine (HCA.out _ HB1.out).mono ?_
    rintro er w3 ⟨rfl, hb3⟩
    go_wp2_with fail
    go_ret
    exact ⟨by first | rfl | simp [hpi, hpos], HB1.out.trans (hb3.mono HB1.out.size)⟩
  · simp only [if_neg hle, decide_eq_false hle] at HCA ⊢
    clear hle
    go_enter Tryd.func9, Tryd.ntmps9
    go_wp2_with fail
    refine (HCA.out _ HB1.out).mono ?_
    rintro er w3 ⟨rfl, hb3⟩
    go_wp2_with fail
    go_ret
    exact ⟨by first | rfl | simp, HB1.out.trans (hb3.mono HB1.out.size)⟩
/-- What counts of a list. -/
noncomputable def cnt (l : List Crd) : List Crd := Classical.epsilon fun o => CountsOf o l
theorem cnt_of {out l : List Crd} (h : CountsOf out l) : cnt l = out := counts_uniq (Classical.epsilon_spec (p := fun o => CountsOf o l) ⟨out, h⟩) h
theorem check_fix (A : Option Addr) (all : List Crd) (n c : Nat) (hn : all.length = n) (hc : n ≤ c) (hc2 : c ≤ 9223372036854775807) (hm : n ≤ 1000) (p : PT) (w : World) (h : Crs w w.heap.size A all) (hp : PIn w w.heap.size p) :
    Calls Tryd.prog 11 #[.slice A n c, .agg p.cells.toArray] w fun e w' => e = .returned (.int .i64 (bif dc (Cor (cnt all) p) then 0 else 15)) ∧ Below w.heap.size w w' :=
  (check_any A all n c hn hc hc2 hm p w h hp).mono fun e w' ⟨out, h1, h2, h3⟩ => ⟨by rw [h2, cnt_of h1], h3⟩
theorem refCheck_fix (A : Option Addr) (all : List Crd) (n c : Nat) (hn : all.length = n) (hm : n ≤ 1000) (p : PT) (w : World) (h : Crs w w.heap.size A all) (hp : PIn w w.heap.size p) :
    Calls Tryd.prog 12 #[.slice A n c, .agg p.cells.toArray] w fun e w' => e = .returned (.int .i64 (bif dc (Cor (cnt all) p) then 0 else 15)) ∧ Below w.heap.size w w' :=
  (refCheck_any A all n c hn hm p w h hp).mono fun e w' ⟨out, h1, h2, h3⟩ => ⟨by rw [h2, cnt_of h1], h3⟩
set_option maxHeartbeats 4000000 in
set_option maxRecDepth 100000 in
theorem proofChecks_walk (A : Option Addr) (l0 : List Crd) (n0 k : Nat) (hn0 : l0.length = n0) (hk0 : n0 ≤ k) (hk2 : k ≤ 9223372036854775807) (p : PT) (w : World) (hb : Crs w w.heap.size A l0) (hp : PIn w w.heap.size p) :
    Calls Tryd.prog 3 #[.slice A n0 k, .agg p.cells.toArray] w fun e w' => e = .returned (.bool true) ∧ Below w.heap.size w w' := by
  obtain ⟨o, n', x, d, q, A', cp, ps⟩ := p
  obtain ⟨w1, hw1⟩ : ∃ w1, w1 = w.alloc (.cells (PT.mk o n' x d q A' cp ps).cells.toArray 29) := ⟨_, rfl⟩
  have HQ1 : Hid (Below w.heap.size w w1) := hid (by rw [hw1]; exact below_pr w _)
  have HPA : Hid (PrAt w1 w.heap.size (.mk o n' x d q A' cp ps)) := hid (by rw [hw1]; exact PrAt.new w _)
  have HPI := hid (fun W (hW : Below w1.heap.size w1 W) => hp.now (HQ1.out.trans (hW.mono HQ1.out.size)))
  have HFE := hid (fewC_any A l0 n0 k hn0 hk0 hk2 w1 ((hb.below HQ1.out).more HQ1.out.size))
  have HSM := hid (small7_any (.mk o n' x d q A' cp ps) w1 (hp.now HQ1.out))
  have HCK := hid (fun n l hn hk hm W h (hW : Below w1.heap.size w1 W) => check_fix A l n k hn hk hk2 hm (.mk o n' x d q A' cp ps) W h (hp.now (HQ1.out.trans (hW.mono HQ1.out.size))))
  have HRC := hid (fun n l hn hm W h (hW : Below w1.heap.size w1 W) => refCheck_fix (c := k) A l n hn hm (.mk o n' x d q A' cp ps) W h (hp.now (HQ1.out.trans (hW.mono HQ1.out.size))))
  obtain ⟨B60, hB60⟩ : ∃ b, decide ((PT.mk o n' x d q A' cp ps).size ≤ 60) = b := ⟨_, rfl⟩
  rw [hB60] at HSM
  obtain ⟨np, hnp⟩ : ∃ np, ps.length = np := ⟨_, rfl⟩
  have HPA5 := hid (fun W (hW : Below w1.heap.size w1 W) => (HPA.out.kept hW).all)
  rw [hnp] at HPA5
  unfold PT.cells at hw1 HSM HCK HRC ⊢
  simp only [hnp] at hw1 HSM HCK HRC ⊢
  obtain ⟨k0, k1, k2, k3, k4, k5⟩ := HPA5.out _ (Below.refl _ _)
  clear hb hp hn0 hk0 hB60 hnp
  go_enter Tryd.func3, Tryd.ntmps3
  go_wp2_with fail
  rw [← hw1]
  clear hw1
  refine HFE.out.mono ?_
  rintro er w2 ⟨n, rfl, l, hN, hm, hk, y0, rfl⟩
  have HY := hid (fun W (hW : Below w2.heap.size w2 W) => (y0.below hW).more hW.size)
  have HV1 := hid (fun W (hW : Below w2.heap.size w2 W) => HCK.out n l hN hk (by omega) W (HY.out W hW) hW)
  have HV2 := hid (fun W (hW : Below w2.heap.size w2 W) => HRC.out n l hN (by omega) W (HY.out W hW) hW)
  clear HFE hN y0
  go_wp2_with fail
  refine HSM.out.mono ?_
  rintro er w3 ⟨rfl, hb3⟩
  have HB3 := hid hb3
  clear hb3 HSM k0 k1 k2 k3 k4 k5
  cases B60 with
  | false =>
    go_wp2_with fail
    refine (lives7_any w3).mono ?_
    rintro er w4 ⟨rfl, bb⟩
    go_wp2
    go_ret
    exact ⟨rfl, HQ1.out.trans ((HB3.out.trans (bb.mono HB3.out.size)).mono HQ1.out.size)⟩
  | true =>
    go_wp2_with fail
    obtain ⟨V, hV⟩ : ∃ V : Int, (bif dc (Cor (cnt l) (PT.mk o n' x d q A' cp ps)) then (0 : Int) else 15) = V := ⟨_, rfl⟩
    rw [hV] at HV1 HV2
    have HW1 := hid (fun W (hW : Below w3.heap.size w3 W) => HV1.out W (HB3.out.trans (hW.mono HB3.out.size)))
    have HW2 := hid (fun W (hW : Below w3.heap.size w3 W) => HV2.out W (HB3.out.trans (hW.mono HB3.out.size)))
    have HLV := hid (fun W (_ : Below w3.heap.size w3 W) => lives7_any W)
    have k0 := fun x : Wn w3.heap.size w3 => (HPA5.out x.1 (HB3.out.trans (x.2.mono HB3.out.size))).1
    have k1 := fun x : Wn w3.heap.size w3 => (HPA5.out x.1 (HB3.out.trans (x.2.mono HB3.out.size))).2.1
    have k2 := fun x : Wn w3.heap.size w3 => (HPA5.out x.1 (HB3.out.trans (x.2.mono HB3.out.size))).2.2.1
    have k3 := fun x : Wn w3.heap.size w3 => (HPA5.out x.1 (HB3.out.trans (x.2.mono HB3.out.size))).2.2.2.1
    have k4 := fun x : Wn w3.heap.size w3 => (HPA5.out x.1 (HB3.out.trans (x.2.mono HB3.out.size))).2.2.2.2.1
    have k5 := fun x : Wn w3.heap.size w3 => (HPA5.out x.1 (HB3.out.trans (x.2.mono HB3.out.size))).2.2.2.2.2
    have HDR := hid (Below.refl w3.heap.size w3).drew
    clear hV HV1 HV2
    refine region_in w3.heap.size w3 (by kernel_rfl) (by kernel_rfl) HDR.out ?_
    repeat (go_big_quiet_step (first
      | (go_at_call 11; with_reducible exact call_in2 (Nat.le_refl _) HW1.out)
      | (go_at_call 12; with_reducible exact call_in2 (Nat.le_refl _) HW2.out)
      | (go_at_call 10; with_reducible exact call_in2 (Nat.le_refl _) HLV.out)))
    refine wpQuiet_nil ?_
    intro wq hwq
    have HWQ := hid hwq
    clear hwq k0 k1 k2 k3 k4 k5
    go_wp2_with fail
    go_ret
    exact ⟨rfl, HQ1.out.trans ((HB3.out.trans (HWQ.out.mono HB3.out.size)).mono HQ1.out.size)⟩
end Go.Proofs.YtcligogmmjdobaaDoor.Sh
/-
  The walk of ProofParts.
-/
namespace Go.Proofs.YtcligogmmjdobaaDoor.Sh
open Go Go.RowKit

set_option linter.unusedSimpArgs false
set_option linter.unusedVariables false
set_option maxHeartbeats 16000000 in
set_option maxRecDepth 100000 in
theorem proofParts_walk (p p' : PT) (deep : Int) (hd1 : -9223372036854775808 ≤ deep) (hd2 : deep ≤ 9223372036854775807) (w : World) (hp : PIn w w.heap.size p) (hp' : PIn w w.heap.size p') :
    Calls Tryd.prog 4 #[.agg p.cells.toArray, .agg p'.cells.toArray, .int .i64 deep] w fun e w' => e = .returned (.bool true) ∧ Below w.heap.size w w' := by
  obtain ⟨w1, hw1⟩ : ∃ w1, w1 = (w.alloc (.cells p.cells.toArray 29)).alloc (.cells p'.cells.toArray 29) := ⟨_, rfl⟩
  have HQ1 : Hid (Below w.heap.size w w1) := hid (by rw [hw1]; exact (below_pr w _).alloc (by rw [World.size_alloc]; exact Nat.le_succ _) _)
  have HPA : Hid (PrAt w1 w.heap.size p) := hid (by rw [hw1]; exact (PrAt.new w p).kept ((Below.refl _ _).alloc (Nat.le_refl _) _))
  have HPB : Hid (PrAt w1 (w.heap.size + 1) p') := hid (by rw [hw1]; have := PrAt.new (w.alloc (.cells p.cells.toArray 29)) p'; rwa [World.size_alloc] at this)
  have HPI := hid (fun W (hW : Below w1.heap.size w1 W) => hp.now (HQ1.out.trans (hW.mono HQ1.out.size)))
  have HPJ := hid (fun W (hW : Below w1.heap.size w1 W) => hp'.now (HQ1.out.trans (hW.mono HQ1.out.size)))
  have HS1 := hid (small7_any p w1 (HPI.out _ (Below.refl _ _)))
  have HS2 := hid (fun W (hW : Below w1.heap.size w1 W) => small7_any p' W (HPJ.out _ hW))
  obtain ⟨S, hS⟩ : ∃ S, p.size = S := ⟨_, rfl⟩
  obtain ⟨B1, hB1⟩ : ∃ b, decide (S ≤ 60) = b := ⟨_, rfl⟩
  obtain ⟨B2, hB2⟩ : ∃ b, decide (p'.size ≤ 60) = b := ⟨_, rfl⟩
  rw [hS, hB1] at HS1
  rw [hB2] at HS2
  have HSS := hid hS
  have HB1 := hid hB1
  have HSU := hid (fun (hs : S ≤ 60) W (hW : Below w1.heap.size w1 W) => support_any p W (by omega) (HPI.out W hW))
  have HRS := hid (fun (hs : S ≤ 60) W (hW : Below w1.heap.size w1 W) => refSupport_any p W (by omega) (HPI.out W hW))
  have HZ1 := hid (fun (hs : S ≤ 60) W (hW : Below w1.heap.size w1 W) => by have := size_any p W (by omega) (HPI.out W hW); rw [hS] at this; exact this)
  have HZ2 := hid (fun (hs : S ≤ 60) W (hW : Below w1.heap.size w1 W) => by have := size7_any p W (by omega) (HPI.out W hW); rw [hS] at this; exact this)
  obtain ⟨V, hV⟩ : ∃ V, smP p p' = V := ⟨_, rfl⟩
  have HM1 := hid (fun W (hW : Below w1.heap.size w1 W) => by have := same_any p p' W (HPI.out W hW) (HPJ.out W hW); rw [hV] at this; exact this)
  have HM2 := hid (fun W (hW : Below w1.heap.size w1 W) => by have := refSame7_any p p' W (HPI.out W hW) (HPJ.out W hW); rw [hV] at this; exact this)
  have HM3 := hid (fun W (hW : Below w1.heap.size w1 W) => by have := same_any p p W (HPI.out W hW) (HPI.out W hW); rw [show smP p p = true from @decide_eq_true _ (Classical.propDecidable _) rfl] at this; exact this)
  obtain ⟨D, hD⟩ : ∃ D, p.deep = D := ⟨_, rfl⟩
  have HWI := hid (fun W (hW : Below w1.heap.size w1 W) => by have := within_any p deep W hd1 hd2 (HPI.out W hW); rw [hD] at this; exact this)
  have HDE := hid (fun (hs : S ≤ 60) W (hW : Below w1.heap.size w1 W) => by have := deep_any p W (by omega) (HPI.out W hW); rw [hD] at this; exact this)
  obtain ⟨I, hI⟩ : ∃ I, p.ids = I := ⟨_, rfl⟩
  have HIL : Hid (I.length = S) := hid (by rw [← hI]; exact hS)
  rw [hI] at HSU HRS
  obtain ⟨o, n, x, d, q, A, c, ps⟩ := p
  obtain ⟨o', n', x', d', q', A', c', ps'⟩ := p'
  have HK := hid (fun W (hW : Below w1.heap.size w1 W) => (HPA.out.kept hW).all)
  have HL := hid (fun W (hW : Below w1.heap.size w1 W) => (HPB.out.kept hW).all)
  obtain ⟨np, hnp⟩ : ∃ np, ps.length = np := ⟨_, rfl⟩
  obtain ⟨nq, hnq⟩ : ∃ np, ps'.length = np := ⟨_, rfl⟩
  rw [hnp] at HK
  rw [hnq] at HL
  unfold PT.cells at hw1 HS1 HS2 HSU HRS HZ1 HZ2 HM1 HM2 HM3 HWI HDE ⊢
  simp only [hnp, hnq] at hw1 HS1 HS2 HSU HRS HZ1 HZ2 HM1 HM2 HM3 HWI HDE ⊢
  obtain ⟨k0, k1, k2, k3, k4, k5⟩ := HK.out _ (Below.refl _ _)
  clear hp hp' hS hB1 hB2 hV hD hI hnp hnq
  go_enter Tryd.func4, Tryd.ntmps4
  go_wp2_with fail
  rw [← hw1]
  clear hw1
  refine HS1.out.mono ?_
  rintro er w2 ⟨rfl, hb2⟩
  have HB2 := hid hb2
  clear hb2 HS1 k0 k1 k2 k3 k4 k5
  obtain ⟨m0, m1, m2, m3, m4, m5⟩ := HL.out _ HB2.out
  go_wp2_with fail
  refine (HS2.out _ HB2.out).mono ?_
  rintro er w3 ⟨rfl, hb3⟩
  have HB3 := hid (HB2.out.trans (hb3.mono HB2.out.size))
  clear hb3 HS2 m0 m1 m2 m3 m4 m5
  cases B1 with
  | false =>
    go_wp2_with fail
    refine (lives7_any w3).mono ?_
    rintro er w4 ⟨rfl, bb⟩
    go_wp2
    go_ret
    exact ⟨rfl, HQ1.out.trans ((HB3.out.trans (bb.mono HB3.out.size)).mono HQ1.out.size)⟩
  | true =>
    cases B2 with
    | false =>
      go_wp2_with fail
      refine (lives7_any w3).mono ?_
      rintro er w4 ⟨rfl, bb⟩
      go_wp2
      go_ret
      exact ⟨rfl, HQ1.out.trans ((HB3.out.trans (bb.mono HB3.out.size)).mono HQ1.out.size)⟩
    | true =>
      have hs60 : S ≤ 60 := of_decide_eq_true HB1.out
      have HS60 := hid hs60
      have HSU3 := hid (HSU.out hs60)
      have HRS3 := hid (HRS.out hs60)
      have HZ13 := hid (HZ1.out hs60)
      have HZ23 := hid (HZ2.out hs60)
      have HDE3 := hid (HDE.out hs60)
      have HDR := hid HB3.out.drew
      clear HSU HRS HZ1 HZ2 HDE hs60
      go_wp2_with fail
      go_region_held3 (fun W => W.cell? ⟨w.heap.size, 0, none⟩ = some (.string o) ∧ W.cell? ⟨w.heap.size, 1, none⟩ = some (.string n) ∧ W.cell? ⟨w.heap.size, 2, none⟩ = some (.string x) ∧ W.cell? ⟨w.heap.size, 3, none⟩ = some (.int .i64 d) ∧ W.cell? ⟨w.heap.size, 4, none⟩ = some (.int .i64 q) ∧ W.cell? ⟨w.heap.size, 5, none⟩ = some (.slice A np c))
        (first | exact HK.out _ HB6.out | exact HK.out _ HB5.out | exact HK.out _ HB4.out | exact HK.out _ HDR.out | go_keep) (first
        | (go_at_call 14; (refine (HSU3.out _ HDR.out).mono ?_); rintro er w4 ⟨A4, c4, ss, rfl, hso, hme, ho4, hb4⟩; have HB4 := hid (kept_trans HDR.out HDR.out.size hb4); have HO4 := hid ho4; have HE4 : Hid (ss = onceI I) := hid (hso.uniq (onceI_all I).1 fun i => by rw [hme, (onceI_all I).2.2]); clear hso hme ho4 hb4)
        | (go_at_call 15; (refine (HRS3.out _ HB4.out).mono ?_); rintro er w5 ⟨A5, c5, rfl, ho5, hb5⟩; have HB5 := hid (kept_trans HB4.out HB4.out.size hb5); have HO5 := hid ho5; have HO45 := hid (HO4.out.below hb5); clear ho5 hb5; have e4 := HE4.out; subst e4; have HSI := hid (sameIDs_eq A4 A5 (onceI I) _ c4 c5 rfl (by have h1 := (onceI_all I).2.1; have h2 := HIL.out; have h3 := HS60.out; omega) w5 (own_els HO45.out) (own_els HO5.out)))
        | (go_at_call 13; (refine HSI.out.mono ?_); rintro er w6 ⟨rfl, hq⟩; have HB6 : Hid (Below w1.heap.size w1 w6) := hid (by obtain ⟨q, rfl⟩ := hq; exact below_drewN HB5.out q); clear hq)
        | fail)
      all_goals
        have HP0 := hid (fun W (hW : Below w6.heap.size w6 W) => HB6.out.trans (hW.mono HB6.out.size))
        have HC1 := hid (fun W (hW : Below w6.heap.size w6 W) => HZ13.out W (HP0.out W hW))
        have HC2 := hid (fun W (hW : Below w6.heap.size w6 W) => HZ23.out W (HP0.out W hW))
        have HC3 := hid (fun W (hW : Below w6.heap.size w6 W) => HM1.out W (HP0.out W hW))
        have HC4 := hid (fun W (hW : Below w6.heap.size w6 W) => HM2.out W (HP0.out W hW))
        have HC5 := hid (fun W (hW : Below w6.heap.size w6 W) => HM3.out W (HP0.out W hW))
        have HC6 := hid (fun W (hW : Below w6.heap.size w6 W) => HWI.out W (HP0.out W hW))
        have HC7 := hid (fun W (hW : Below w6.heap.size w6 W) => HDE3.out W (HP0.out W hW))
        have HC8 := hid (fun W (_ : Below w6.heap.size w6 W) => lives7_any W)
        go_wp2_with fail
        have k0 := fun x : Wn w6.heap.size w6 => (HK.out x.1 (HP0.out _ x.2)).1
        have k1 := fun x : Wn w6.heap.size w6 => (HK.out x.1 (HP0.out _ x.2)).2.1
        have k2 := fun x : Wn w6.heap.size w6 => (HK.out x.1 (HP0.out _ x.2)).2.2.1
        have k3 := fun x : Wn w6.heap.size w6 => (HK.out x.1 (HP0.out _ x.2)).2.2.2.1
        have k4 := fun x : Wn w6.heap.size w6 => (HK.out x.1 (HP0.out _ x.2)).2.2.2.2.1
        have k5 := fun x : Wn w6.heap.size w6 => (HK.out x.1 (HP0.out _ x.2)).2.2.2.2.2
        have m0 := fun x : Wn w6.heap.size w6 => (HL.out x.1 (HP0.out _ x.2)).1
        have m1 := fun x : Wn w6.heap.size w6 => (HL.out x.1 (HP0.out _ x.2)).2.1
        have m2 := fun x : Wn w6.heap.size w6 => (HL.out x.1 (HP0.out _ x.2)).2.2.1
        have m3 := fun x : Wn w6.heap.size w6 => (HL.out x.1 (HP0.out _ x.2)).2.2.2.1
        have m4 := fun x : Wn w6.heap.size w6 => (HL.out x.1 (HP0.out _ x.2)).2.2.2.2.1
        have m5 := fun x : Wn w6.heap.size w6 => (HL.out x.1 (HP0.out _ x.2)).2.2.2.2.2
        have HDR6 := hid (Below.refl w6.heap.size w6).drew
        refine region_in w6.heap.size w6 (by kernel_rfl) (by kernel_rfl) HDR6.out ?_
        repeat (go_big_quiet_step (first
          | (go_at_call 16; with_reducible exact call_in2 (Nat.le_refl _) HC1.out)
          | (go_at_call 17; with_reducible exact call_in2 (Nat.le_refl _) HC2.out)
          | (go_at_call 18; with_reducible exact call_in2 (Nat.le_refl _) HC3.out)
          | (go_at_call 18; with_reducible exact call_in2 (Nat.le_refl _) HC5.out)
          | (go_at_call 19; with_reducible exact call_in2 (Nat.le_refl _) HC4.out)
          | (go_at_call 20; with_reducible exact call_in2 (Nat.le_refl _) HC6.out)
          | (go_at_call 21; with_reducible exact call_in2 (Nat.le_refl _) HC7.out)
          | (go_at_call 10; with_reducible exact call_in2 (Nat.le_refl _) HC8.out)))
        refine wpQuiet_nil ?_
        intro wq hwq
        have HWQ := hid (HP0.out _ hwq)
        clear hwq k0 k1 k2 k3 k4 k5 m0 m1 m2 m3 m4 m5
        go_wp2_with fail
        go_ret
        exact ⟨by first | rfl | simp, HQ1.out.trans (HWQ.out.mono HQ1.out.size)⟩
end Go.Proofs.YtcligogmmjdobaaDoor.Sh
