/-
  The document's own Check, by contract.
-/
import Derived.Test.YtfbapbpggicfbaaDoorJa37
import Derived.Test.YtfbapbpggicfbaaDoorJa34
import Derived.Test.YtfbapbpggicfbaaDoorJa36
import Derived.Test.YtfbapbpggicfbaaDoorJa35
import Derived.Test.YtfbapbpggicfbaaDoorJa12
set_option linter.unusedVariables false
set_option linter.unusedSimpArgs false
namespace Go.Proofs.YtfbapbpggicfbaaDoor.Sh
open Go Go.RowKit

set_option linter.unusedVariables false
set_option linter.unusedSimpArgs false

theorem of_self {cs : List Crd} {p : PT} : OfP cs p p.pr ↔ Cor cs p := ⟨fun h => h.2, fun h => ⟨rfl, h⟩⟩
set_option maxHeartbeats 4000000 in
set_option maxRecDepth 100000 in
theorem refCheck_any (A : Option Addr) (all : List Crd) (n c : Nat) (hn : all.length = n) (hm : n ≤ 1000) (p : PT) (w : World) (h : Crs w w.heap.size A all) (hp : PIn w w.heap.size p) :
    Calls Tryd.prog 26 #[.slice A n c, .agg p.cells.toArray] w fun e w' => ∃ out, CountsOf out all ∧ e = .returned (.int .i64 (bif dc (Cor out p) then 0 else 15)) ∧ Below w.heap.size w w' := by
  obtain ⟨o, n', x, d, q, A', cp, ps⟩ := p
  obtain ⟨w1, hw1⟩ : ∃ w1, w1 = w.alloc (.cells (PT.mk o n' x d q A' cp ps).cells.toArray 29) := ⟨_, rfl⟩
  have HQ1 : Hid (Below w.heap.size w w1) := hid (by rw [hw1]; exact below_pr w _)
  have HPA : Hid (PrAt w1 w.heap.size (.mk o n' x d q A' cp ps)) := hid (by rw [hw1]; exact PrAt.new w _)
  have HCO := hid (fun W (hW : Below w1.heap.size w1 W) => refCounts_any A all n c hn (by omega) W ((h.below (HQ1.out.trans (hW.mono HQ1.out.size))).more (Nat.le_trans HQ1.out.size hW.size)))
  have HPI := hid (fun W (hW : Below w1.heap.size w1 W) => hp.now (HQ1.out.trans (hW.mono HQ1.out.size)))
  have HM : Hid (n ≤ 1000) := hid hm
  obtain ⟨np, hnp⟩ : ∃ np, ps.length = np := ⟨_, rfl⟩
  have HNP := hid hnp
  have HPA5 := hid (fun W (hW : Below w1.heap.size w1 W) => (HPA.out.kept hW).all)
  rw [hnp] at HPA5
  have HD := hid (Below.refl w1.heap.size w1).drew
  unfold PT.cells at hw1 ⊢
  simp only [hnp] at hw1 ⊢
  clear h hp hn hnp hm
  go_enter Tryd.func26, Tryd.ntmps26
  go_wp2_with fail
  rw [← hw1]
  clear hw1
  go_region_held3 (fun W => W.cell? ⟨w.heap.size, 0, none⟩ = some (.string o) ∧ W.cell? ⟨w.heap.size, 1, none⟩ = some (.string n') ∧ W.cell? ⟨w.heap.size, 2, none⟩ = some (.string x) ∧ W.cell? ⟨w.heap.size, 3, none⟩ = some (.int .i64 d) ∧ W.cell? ⟨w.heap.size, 4, none⟩ = some (.int .i64 q) ∧ W.cell? ⟨w.heap.size, 5, none⟩ = some (.slice A' np cp))
    (first | exact HPA5.out _ B2.out | exact HPA5.out _ B1.out | exact HPA5.out _ HD.out | go_keep) (first
    | (go_at_call 14; (refine (HCO.out _ HD.out).mono ?_); rintro er w2 ⟨Ac, nc, cc, cs, rfl, hnc, oc, hco, bb⟩; have B1 := hid (kept_trans HD.out HD.out.size bb); have HCN := hid hco; have HCR := hid oc.crs; have HCL := hid oc.len; have HLE := hid hnc;
        have HOF := hid (of_any cs (fun c hc => (counts_mem hco hc).1) (counts_onceI hco) Ac nc cc oc.len (by have := HM.out; omega) (.mk o n' x d q A' cp ps) o n' x); unfold PT.cells at HOF; simp only [HNP.out] at HOF; (obtain ⟨T, hT⟩ : ∃ T, dc (OfP cs (.mk o n' x d q A' cp ps) ((o, n'), x)) = T := ⟨_, rfl⟩); have HT : Hid (dc (Cor cs (.mk o n' x d q A' cp ps)) = T) := hid (by rw [← hT]; unfold dc; exact decide_eq_decide.2 of_self.symm); rw [hT] at HOF; clear hT bb hco oc hnc)
    | (go_at_call 53; (refine (HOF.out _ HCR.out (HPI.out _ B1.out)).mono ?_); rintro er w3 ⟨rfl, bb⟩; have B2 := hid (kept_trans B1.out B1.out.size bb); clear bb)
    | fail)
  all_goals
    cases T <;>
    · go_wp2_with fail
      go_ret
      exact ⟨cs, HCN.out, by rw [HT.out]; rfl, HQ1.out.trans (B2.out.mono HQ1.out.size)⟩
end Go.Proofs.YtfbapbpggicfbaaDoor.Sh
/-
  few, small; the walk of ProofChecks.
-/
namespace Go.Proofs.YtfbapbpggicfbaaDoor.Sh
open Go Go.RowKit

set_option linter.unusedSimpArgs false
set_option linter.unusedVariables false
theorem fewC_any (A : Option Addr) (l : List Crd) (n k : Nat) (hn : l.length = n) (hk : n ≤ k) (hk2 : k ≤ 9223372036854775807) (w : World) (h : Crs w w.heap.size A l) :
    Calls Tryd.prog 9 #[.slice A n k] w fun e w' => ∃ m : Nat, e = .returned (.slice A m k) ∧ ∃ l' : List Crd, l'.length = m ∧ m ≤ 14 ∧ m ≤ k ∧ Crs w w.heap.size A l' ∧ w' = w := by
  by_cases h14 : 14 < n
  · have hN : (l.take 14).length = 14 := by rw [List.length_take]; omega
    have HY := hid (h.head (hi := 14))
    have h14' : (14 : Int) < (n : Int) := by omega
    have h14k : 14 ≤ k := by omega
    have HN := hid hN
    clear h hn hN
    go_enter Tryd.func9, Tryd.ntmps9
    go_wp2_with fail
    go_ret
    exact ⟨14, rfl, l.take 14, HN.out, Nat.le_refl _, h14k, HY.out, rfl⟩
  · have h14' : ¬ (14 : Int) < (n : Int) := by omega
    have HN := hid hn
    have HY := hid h
    clear h hn
    go_enter Tryd.func9, Tryd.ntmps9
    go_wp2_with fail
    go_ret
    exact ⟨n, rfl, l, HN.out, by omega, hk, HY.out, rfl⟩
theorem small7_any (p : PT) (w : World) (hp : PIn w w.heap.size p) :
    Calls Tryd.prog 10 #[.agg p.cells.toArray] w fun e w' => e = .returned (.bool (decide (p.size ≤ 60))) ∧ Below w.heap.size w w' := by
  have hpos := p.size_pos
  obtain ⟨o, n, x, d, q, A, c, ps⟩ := p
  obtain ⟨S, hS⟩ : ∃ S, (PT.mk o n x d q A c ps).size = S := ⟨_, rfl⟩
  have HCA := hid (fun W (hW : Below w.heap.size w W) => few7_any (.mk o n x d q A c ps) 60 W (by omega) (hp.now hW))
  have HB1 := hid ((Below.refl w.heap.size w).alloc (Nat.le_refl _) (.cells #[.string o, .string n, .string x, .int .i64 d, .int .i64 q, .slice A ps.length c] 29))
  rw [hS] at HCA hpos ⊢
  unfold PT.cells at HCA ⊢
  simp only at HCA ⊢
  clear hp hS
  by_cases hle : S ≤ 60
  · simp only [if_pos hle, decide_eq_true hle] at HCA ⊢
    have hpi : (0 : Int) < (S : Int) := by omega
    have hd : decide ((0 : Int) < (S : Int)) = true := decide_eq_true hpi
    clear hle
    go_enter Tryd.func10, Tryd.ntmps10
    go_wp2_with fail
    refine (HCA.out _ HB1.out).mono ?_
    rintro er w3 ⟨rfl, hb3⟩
    go_wp2_with fail
    go_ret
    exact ⟨by first | rfl | simp [hpi, hpos], HB1.out.trans (hb3.mono HB1.out.size)⟩
  · simp only [if_neg hle, decide_eq_false hle] at HCA ⊢
    clear hle
    go_enter Tryd.func10, Tryd.ntmps10
    go_wp2_with fail
    refine (HCA.out _ HB1.out).mono ?_
    rintro er w3 ⟨rfl, hb3⟩
    go_wp2_with fail
    go_ret
    exact ⟨by first | rfl | simp, HB1.out.trans (hb3.mono HB1.out.size)⟩
/-- What counts of a list. -/
noncomputable def cnt (l : List Crd) : List Crd := Classical.epsilon fun o => CountsOf o l
theorem cnt_of {out l : List Crd} (h : CountsOf out l) : cnt l = out := counts_uniq (Classical.epsilon_spec (p := fun o => CountsOf o l) ⟨out, h⟩) h
theorem check_fix (A : Option Addr) (all : List Crd) (n c : Nat) (hn : all.length = n) (hc : n ≤ c) (hc2 : c ≤ 9223372036854775807) (hm : n ≤ 1000) (p : PT) (w : World) (h : Crs w w.heap.size A all) (hp : PIn w w.heap.size p) :
    Calls Tryd.prog 11 #[.slice A n c, .agg p.cells.toArray] w fun e w' => e = .returned (.int .i64 (bif dc (Cor (cnt all) p) then 0 else 15)) ∧ Below w.heap.size w w' :=
  (check_any A all n c hn hc hc2 hm p w h hp).mono fun e w' ⟨out, h1, h2, h3⟩ => ⟨by rw [h2, cnt_of h1], h3⟩
theorem refCheck_fix (A : Option Addr) (all : List Crd) (n c : Nat) (hn : all.length = n) (hm : n ≤ 1000) (p : PT) (w : World) (h : Crs w w.heap.size A all) (hp : PIn w w.heap.size p) :
    Calls Tryd.prog 26 #[.slice A n c, .agg p.cells.toArray] w fun e w' => e = .returned (.int .i64 (bif dc (Cor (cnt all) p) then 0 else 15)) ∧ Below w.heap.size w w' :=
  (refCheck_any A all n c hn hm p w h hp).mono fun e w' ⟨out, h1, h2, h3⟩ => ⟨by rw [h2, cnt_of h1], h3⟩
end Go.Proofs.YtfbapbpggicfbaaDoor.Sh
/-
  ProofAlone: what counts of the credentials of a support alone.
-/
namespace Go.Proofs.YtfbapbpggicfbaaDoor.Sh
open Go Go.RowKit

set_option linter.unusedSimpArgs false
set_option linter.unusedVariables false
/-- Those whose IDs are among these. -/
def inS (ss : List (Int × Int)) (out : List Crd) : List Crd := out.filter fun c => decide ((c.d, c.q) ∈ ss)
theorem inS_snoc (ss : List (Int × Int)) (out : List Crd) (c : Crd) : inS ss (out ++ [c]) = inS ss out ++ (if (c.d, c.q) ∈ ss then [c] else []) := by
  unfold inS
  rw [List.filter_append]
  by_cases h : (c.d, c.q) ∈ ss
  · rw [if_pos h, List.filter_cons_of_pos (by simpa using h)]; rfl
  · rw [if_neg h, List.filter_cons_of_neg (by simpa using h)]; rfl
theorem mem_inS {ss : List (Int × Int)} {out : List Crd} {c : Crd} : c ∈ inS ss out ↔ c ∈ out ∧ (c.d, c.q) ∈ ss := by
  unfold inS; rw [List.mem_filter]; simp
theorem counts_inS {out o2 l : List Crd} {ss : List (Int × Int)} (h : CountsOf out l) (h2 : CountsOf o2 (inS ss out)) {c : Crd} (hc : c ∈ out) (hs : (c.d, c.q) ∈ ss) : c ∈ o2 := by
  have hcl : c ∈ inS ss out := mem_inS.2 ⟨hc, hs⟩
  have h3 := h2.2 c.d c.q
  have h4 : ((inS ss out).filter fun x => idIs c.d c.q x && mayC x) = [c] := by
    have e1 : ((inS ss out).filter fun x => idIs c.d c.q x && mayC x) = (inS ss out).filter (idIs c.d c.q) := by
      apply List.filter_congr
      intro x hx
      rw [(counts_mem h (mem_inS.1 hx).1).1, Bool.and_true]
    rw [e1]
    unfold inS
    rw [List.filter_filter]
    have e2 : (out.filter fun x => idIs c.d c.q x && decide ((x.d, x.q) ∈ ss)) = out.filter (idIs c.d c.q) := by
      apply List.filter_congr
      intro x hx
      by_cases hid : idIs c.d c.q x = true
      · have := idIs_iff.1 hid
        rw [hid, Bool.true_and, this.1, this.2]
        exact decide_eq_true hs
      · rw [Bool.not_eq_true] at hid
        rw [hid, Bool.false_and]
    rw [e2, counts_one h hc]
  rw [h4] at h3
  exact (List.mem_filter.1 (by rw [h3]; simp : c ∈ o2.filter (idIs c.d c.q))).1
theorem inS_len {out l : List Crd} {ss : List (Int × Int)} (h : CountsOf out l) (hn : ss.Nodup) (hm : ∀ i ∈ ss, ∃ c ∈ out, (c.d, c.q) = i) : (inS ss out).length = ss.length := by
  have ho := counts_onceI h
  have hnd : ((inS ss out).map fun c => (c.d, c.q)).Nodup := by
    have h1 : (inS ss out).Nodup := (counts_nodup h).filter _
    refine List.pairwise_map.2 (List.Pairwise.imp_of_mem (fun {a b} ha hb hab e => ?_) h1)
    exact hab (ho a (mem_inS.1 ha).1 b (mem_inS.1 hb).1 e)
  have e1 := nodup_le hnd (b := ss) (fun i hi => by
    obtain ⟨c, hc, rfl⟩ := List.mem_map.1 hi
    exact (mem_inS.1 hc).2)
  have e2 := nodup_le hn (b := (inS ss out).map fun c => (c.d, c.q)) (fun i hi => by
    obtain ⟨c, hc, e⟩ := hm i hi
    exact List.mem_map.2 ⟨c, mem_inS.2 ⟨hc, by rw [e]; exact hi⟩, e⟩)
  rw [List.length_map] at e1 e2
  omega
end Go.Proofs.YtfbapbpggicfbaaDoor.Sh
