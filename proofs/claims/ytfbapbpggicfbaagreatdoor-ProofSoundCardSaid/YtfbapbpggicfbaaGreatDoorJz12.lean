/-
  The program's Same, by contract.
-/
import Derived.Test.YtfbapbpggicfbaaGreatDoorJz11
set_option linter.unusedVariables false
set_option linter.unusedSimpArgs false
namespace Go.Proofs.YtfbapbpggicfbaaGreatDoor.Sh
open Go Go.RowKit

set_option linter.unusedVariables false
set_option linter.unusedSimpArgs false

noncomputable def smL (ps qs : List PT) : Bool := @decide (ps.map PT.bare = qs.map PT.bare) (Classical.propDecidable _)
theorem smL_iff {ps qs : List PT} : smL ps qs = true ↔ ps.map PT.bare = qs.map PT.bare := by unfold smL; exact @decide_eq_true_iff _ (Classical.propDecidable _)
set_option maxHeartbeats 4000000 in
theorem eqfP_any (ps qs : List PT) (ih : ∀ p ∈ ps, ∀ (p' : PT) (w : World), PIn w w.heap.size p → PIn w w.heap.size p' → Calls Tryz.prog 16 #[.agg p.cells.toArray, .agg p'.cells.toArray] w fun e w' => e = .returned (.bool (smP p p')) ∧ Below w.heap.size w w')
    (A B : Option Addr) (np nq c c' : Nat) (hnp : ps.length = np) (hnq : qs.length = nq) (h63 : np ≤ 9223372036854775807) (w : World) (hA : Els encT w w.heap.size A ps) (hB : Els encT w w.heap.size B qs) (hpi : ∀ p ∈ ps, PIn w w.heap.size p) (hqi : ∀ p ∈ qs, PIn w w.heap.size p) :
    Calls Tryz.prog 35 #[.slice A np c, .slice B nq c', .func (.func 16) #[] #[]] w fun e w' => e = .returned (.bool (smL ps qs)) ∧ Below w.heap.size w w' := by
  have HIH := hid ih
  have HA := hid hA
  have HB0 := hid hB
  have HPI := hid hpi
  have HQI := hid hqi
  have HNP := hid hnp
  have HNQ := hid hnq
  obtain ⟨Z, hZ⟩ : ∃ Z, smL ps qs = Z := ⟨_, rfl⟩
  have HSA := hid (smL_iff (ps := ps) (qs := qs))
  rw [hZ] at HSA ⊢
  clear ih hA hB hpi hqi hnp hnq hZ
  by_cases hl : np = nq
  · subst hl
    go_enter Tryz.func35, Tryz.ntmps35
    go_wp2_with fail
    go_loopw [17] (fun i wr => ∃ j : Nat, j ≤ np ∧ i = .int .i64 (j : Int) ∧ Hid (∀ i, i < j → ∀ a b : PT, ps[i]? = some a → qs[i]? = some b → a.bare = b.bare) ∧ Hid (Below w.heap.size w wr)) (fun i _ => np - (intOf i).toNat)
    case atStart => exact ⟨0, Nat.zero_le _, rfl, hid (fun i hi => absurd hi (Nat.not_lt_zero _)), hid (Below.refl _ _)⟩
    case round =>
      obtain ⟨j, hj, rfl, HAL, HB⟩ := hrel
      by_cases hlt : j < np
      · obtain ⟨⟨o2, n2, x2, d2, q2, A2, c2, ps2⟩, hx2⟩ : ∃ x, ps[j]? = some x := ⟨_, List.getElem?_eq_getElem (by rw [HNP.out]; exact hlt)⟩
        obtain ⟨⟨o3, n3, x3, d3, q3, A3, c3, ps3⟩, hx3⟩ : ∃ x, qs[j]? = some x := ⟨_, List.getElem?_eq_getElem (by rw [HNQ.out]; exact hlt)⟩
        have HX2 := hid hx2
        have HX3 := hid hx3
        obtain ⟨ad, aj, rfl, hab, ea, hbj, a0, a1, a2, a3, a4, a5⟩ := PIn.get (HA.out.below HB.out) hx2
        obtain ⟨wb, hwb⟩ : ∃ wb, wb = wr.alloc (.cells (PT.mk o2 n2 x2 d2 q2 A2 c2 ps2).cells.toArray 29) := ⟨_, rfl⟩
        have HB1 : Hid (Below w.heap.size w wb) := hid (by rw [hwb]; exact HB.out.alloc HB.out.size _)
        obtain ⟨bd, bj, rfl, hbb, eb, hbk, b0, b1, b2, b3, b4, b5⟩ := PIn.get (HB0.out.below HB1.out) hx3
        obtain ⟨wc, hwc⟩ : ∃ wc, wc = wb.alloc (.cells (PT.mk o3 n3 x3 d3 q3 A3 c3 ps3).cells.toArray 29) := ⟨_, rfl⟩
        have HB2 : Hid (Below w.heap.size w wc) := hid (by rw [hwc]; exact HB1.out.alloc HB1.out.size _)
        have hp2 : PrAt wb wr.heap.size (.mk o2 n2 x2 d2 q2 A2 c2 ps2) := by rw [hwb]; exact PrAt.new _ _
        have hp3 : PrAt wc wr.heap.size (.mk o2 n2 x2 d2 q2 A2 c2 ps2) := by rw [hwc]; exact hp2.kept (below_pr _ _)
        obtain ⟨f0, f1, f2, f3, f4, f5⟩ := hp3.all
        have hj0 : (0 : Int) ≤ (j : Int) := Int.natCast_nonneg _
        have hj1 : (j : Int) < (np : Int) := by omega
        have HCA := hid (HIH.out _ (List.mem_of_getElem? hx2) (.mk o3 n3 x3 d3 q3 A3 c3 ps3) wc ((HPI.out _ (List.mem_of_getElem? hx2)).now HB2.out) ((HQI.out _ (List.mem_of_getElem? hx3)).now HB2.out))
        obtain ⟨b, hb⟩ : ∃ b, smP (.mk o2 n2 x2 d2 q2 A2 c2 ps2) (.mk o3 n3 x3 d3 q3 A3 c3 ps3) = b := ⟨_, rfl⟩
        have HBI := hid (smP_iff (p := .mk o2 n2 x2 d2 q2 A2 c2 ps2) (q := .mk o3 n3 x3 d3 q3 A3 c3 ps3))
        rw [hb] at HCA HBI
        unfold PT.cells at HCA hwb hwc
        simp only at HCA hwb hwc
        rw [hwb] at b0 b1 b2 b3 b4 b5
        clear hx2 hx3 hab hbj hbb hbk hp2 hp3 hb f0 f1 f2 f3 f4 f5
        go_wp2_with fail
        rw [← hwb, ← hwc]
        refine HCA.out.mono ?_
        rintro er w3 ⟨rfl, hb3⟩
        have HB3 := hid (HB2.out.trans (hb3.mono HB2.out.size))
        clear hb3 HCA a0 a1 a2 a3 a4 a5 b0 b1 b2 b3 b4 b5 hwb hwc
        cases b with
        | true =>
          have HA2 : Hid (∀ i, i < j + 1 → ∀ a b : PT, ps[i]? = some a → qs[i]? = some b → a.bare = b.bare) := hid (fun i hi a b ha hb => by
            rcases Nat.lt_succ_iff_lt_or_eq.1 hi with h | h
            · exact HAL.out i h a b ha hb
            · subst h
              rw [HX2.out] at ha
              rw [HX3.out] at hb
              rw [← Option.some.inj ha, ← Option.some.inj hb]
              exact HBI.out.1 rfl)
          go_wp2_with fail
          go_roundw
          case rel => exact ⟨j + 1, by omega, by go_num, HA2, HB3⟩
          case measure => simp [intOf]; omega
        | false =>
          have HZF : Hid (Z = false) := hid (Bool.eq_false_iff.2 (fun e => map_at_ne HX2.out HX3.out (fun e => by have := HBI.out.2 e; cases this) (HSA.out.1 e)))
          go_wp2_with fail
          go_ret
          exact ⟨by rw [HZF.out]; rfl, HB3.out⟩
      · obtain rfl : j = np := by omega
        have HZT : Hid (Z = true) := hid (HSA.out.2 (map_take_eq HNP.out HNQ.out HAL.out))
        go_wp2_with fail
        go_ret
        exact ⟨by rw [HZT.out]; rfl, HB.out⟩
  · have hl2 : ¬ (np : Int) = (nq : Int) := by omega
    have HZF : Hid (Z = false) := hid (Bool.eq_false_iff.2 (fun e => hl (by have := congrArg List.length (HSA.out.1 e); rw [List.length_map, List.length_map, HNP.out, HNQ.out] at this; exact this)))
    go_enter Tryz.func35, Tryz.ntmps35
    go_wp2_with fail
    go_ret
    exact ⟨by rw [HZF.out]; rfl, Below.refl _ _⟩
set_option maxHeartbeats 8000000 in
set_option maxRecDepth 100000 in
theorem same_any (p : PT) : ∀ (p' : PT) (w : World), PIn w w.heap.size p → PIn w w.heap.size p' →
    Calls Tryz.prog 16 #[.agg p.cells.toArray, .agg p'.cells.toArray] w fun e w' => e = .returned (.bool (smP p p')) ∧ Below w.heap.size w w' := by
  induction p using PT.ind
  rename_i o n x d q A c ps ih
  intro p' w hp hq
  obtain ⟨o', n', x', d', q', A', c', qs⟩ := p'
  have HIH := hid ih
  obtain ⟨h1, h2, h3, h4⟩ := hp.open'
  obtain ⟨g1, g2, g3, g4⟩ := hq.open'
  obtain ⟨w1, hw1⟩ : ∃ w1, w1 = (w.alloc (.cells (PT.mk o n x d q A c ps).cells.toArray 29)).alloc (.cells (PT.mk o' n' x' d' q' A' c' qs).cells.toArray 29) := ⟨_, rfl⟩
  have HQ1 : Hid (Below w.heap.size w w1) := hid (by rw [hw1]; exact (below_pr w _).alloc (by rw [World.size_alloc]; exact Nat.le_succ _) _)
  have HPA : Hid (PrAt w1 w.heap.size (.mk o n x d q A c ps)) := hid (by rw [hw1]; exact (PrAt.new w _).kept (below_pr _ _))
  have HPB : Hid (PrAt w1 (w.heap.size + 1) (.mk o' n' x' d' q' A' c' qs)) := hid (by rw [hw1]; have := PrAt.new (w.alloc (.cells (PT.mk o n x d q A c ps).cells.toArray 29)) (.mk o' n' x' d' q' A' c' qs); rwa [World.size_alloc] at this)
  have HPI := hid (fun a ha W (hW : Below w1.heap.size w1 W) => (h4 a ha).now (HQ1.out.trans (hW.mono HQ1.out.size)))
  have HQI := hid (fun a ha W (hW : Below w1.heap.size w1 W) => (g4 a ha).now (HQ1.out.trans (hW.mono HQ1.out.size)))
  have HEL := hid (fun W (hW : Below w1.heap.size w1 W) => (h3.below (HQ1.out.trans (hW.mono HQ1.out.size))).more (Nat.le_trans HQ1.out.size hW.size))
  have HEQ := hid (fun W (hW : Below w1.heap.size w1 W) => (g3.below (HQ1.out.trans (hW.mono HQ1.out.size))).more (Nat.le_trans HQ1.out.size hW.size))
  obtain ⟨np, hnp⟩ : ∃ np, ps.length = np := ⟨_, rfl⟩
  have HNP := hid hnp
  obtain ⟨nq', hnq⟩ : ∃ nq, qs.length = nq := ⟨_, rfl⟩
  have HNQ := hid hnq
  have hnp63 : np ≤ 9223372036854775807 := by omega
  have hnq63 : nq' ≤ 9223372036854775807 := by omega
  have HPA5 := hid (fun W (hW : Below w1.heap.size w1 W) => (HPA.out.kept hW).all)
  have HPB5 := hid (fun W (hW : Below w1.heap.size w1 W) => (HPB.out.kept hW).all)
  rw [hnp] at HPA5
  rw [hnq] at HPB5
  have HSA := hid (bare_same (o := o) (n := n) (x := x) (o' := o') (n' := n') (x' := x') (d := d) (q := q) (d' := d') (q' := q') (A := A) (A' := A') (c := c) (c' := c') (ps := ps) (ps' := qs))
  obtain ⟨Z, hZ⟩ : ∃ Z : Bool, smP (PT.mk o n x d q A c ps) (PT.mk o' n' x' d' q' A' c' qs) = Z := ⟨_, rfl⟩
  rw [← smP_iff, hZ] at HSA
  rw [hZ]
  obtain ⟨k0, k1, k2, k3, k4, k5⟩ := HPA5.out _ (Below.refl _ _)
  obtain ⟨l0, l1, l2, l3, l4, l5⟩ := HPB5.out _ (Below.refl _ _)
  unfold PT.cells at hw1 ⊢
  simp only [hnp, hnq] at hw1 ⊢
  clear ih hp hq h1 h2 h3 h4 g1 g2 g3 g4 hnp hnq hZ
  by_cases ho : o = o'
  · subst ho
    by_cases hn : n = n'
    · subst hn
      by_cases hx : x = x'
      · subst hx
        by_cases hd : d = d'
        · subst hd
          by_cases hqq : q = q'
          · subst hqq
            have HEF := hid (eqfP_any ps qs HIH.out A A' np nq' c c' HNP.out HNQ.out hnp63 w1 (HEL.out _ (Below.refl _ _)) (HEQ.out _ (Below.refl _ _)) (fun a ha => HPI.out a ha _ (Below.refl _ _)) (fun a ha => HQI.out a ha _ (Below.refl _ _)))
            obtain ⟨b, hb⟩ : ∃ b, smL ps qs = b := ⟨_, rfl⟩
            have HBI := hid (smL_iff (ps := ps) (qs := qs))
            rw [hb] at HEF HBI
            have HZB : Hid (Z = b) := hid (Bool.eq_iff_iff.2 (HSA.out.trans ⟨fun h => HBI.out.2 h.2.2.2.2.2, fun h => ⟨rfl, rfl, rfl, rfl, rfl, HBI.out.1 h⟩⟩))
            clear hb HSA
            go_enter Tryz.func16, Tryz.ntmps16
            go_wp2_with fail
            rw [← hw1]
            refine HEF.out.mono ?_
            rintro er w3 ⟨rfl, hb3⟩
            cases b <;>
            · go_wp2_with fail
              go_ret
              exact ⟨by rw [HZB.out]; rfl, HQ1.out.trans (hb3.mono HQ1.out.size)⟩
          · have y1 : (q == q') = false := beq_eq_false_iff_ne.2 hqq
            have HL := hid hqq
            have HF : Hid (Z = false) := hid (Bool.eq_false_iff.2 (fun h => (fun e => HL.out e.2.2.2.2.1) (HSA.out.1 h)))
            clear HSA
            go_enter Tryz.func16, Tryz.ntmps16
            go_wp2_with fail
            go_ret
            exact ⟨by rw [HF.out]; rfl, by rw [← hw1]; exact HQ1.out⟩
        · have y1 : (d == d') = false := beq_eq_false_iff_ne.2 hd
          have HL := hid hd
          have HF : Hid (Z = false) := hid (Bool.eq_false_iff.2 (fun h => (fun e => HL.out e.2.2.2.1) (HSA.out.1 h)))
          clear HSA
          go_enter Tryz.func16, Tryz.ntmps16
          go_wp2_with fail
          go_ret
          exact ⟨by rw [HF.out]; rfl, by rw [← hw1]; exact HQ1.out⟩
      · obtain ⟨x1, x2⟩ := inne hx
        have HL := hid hx
        clear hx
        have HF : Hid (Z = false) := hid (Bool.eq_false_iff.2 (fun h => (fun e => HL.out e.2.2.1) (HSA.out.1 h)))
        clear HSA
        go_enter Tryz.func16, Tryz.ntmps16
        go_wp2_with fail
        go_ret
        exact ⟨by rw [HF.out]; rfl, by rw [← hw1]; exact HQ1.out⟩
    · obtain ⟨x1, x2⟩ := inne hn
      have HL := hid hn
      clear hn
      have HF : Hid (Z = false) := hid (Bool.eq_false_iff.2 (fun h => (fun e => HL.out e.2.1) (HSA.out.1 h)))
      clear HSA
      go_enter Tryz.func16, Tryz.ntmps16
      go_wp2_with fail
      go_ret
      exact ⟨by rw [HF.out]; rfl, by rw [← hw1]; exact HQ1.out⟩
  · obtain ⟨x1, x2⟩ := inne ho
    have HL := hid ho
    clear ho
    have HF : Hid (Z = false) := hid (Bool.eq_false_iff.2 (fun h => (fun e => HL.out e.1) (HSA.out.1 h)))
    clear HSA
    go_enter Tryz.func16, Tryz.ntmps16
    go_wp2_with fail
    go_ret
    exact ⟨by rw [HF.out]; rfl, by rw [← hw1]; exact HQ1.out⟩
end Go.Proofs.YtfbapbpggicfbaaGreatDoor.Sh
/-
  The program's prove, by contract.
-/
namespace Go.Proofs.YtfbapbpggicfbaaGreatDoor.Sh
open Go Go.RowKit

set_option linter.unusedVariables false
set_option linter.unusedSimpArgs false

noncomputable def dc (p : Prop) : Bool := @decide p (Classical.propDecidable p)
theorem dc_iff {p : Prop} : dc p = true ↔ p := by unfold dc; exact @decide_eq_true_iff p (Classical.propDecidable p)
theorem dc_true {p : Prop} (h : p) : dc p = true := dc_iff.2 h
theorem dc_false {p : Prop} (h : ¬ p) : dc p = false := Bool.eq_false_iff.2 fun e => h (dc_iff.1 e)
set_option maxHeartbeats 2000000 in
theorem prove1_any (p : PT) (r : Pr) (w : World) :
    Calls Tryz.prog 53 #[.agg p.cells.toArray, .agg #[.string r.1.1, .string r.1.2, .string r.2]] w fun e w' => e = .returned (.bool (dc (p.pr = r))) ∧ Below w.heap.size w w' := by
  obtain ⟨o, n, x, d, q, A, c, ps⟩ := p
  obtain ⟨⟨o', n'⟩, x'⟩ := r
  have HB1 := hid (((Below.refl w.heap.size w).alloc (Nat.le_refl _) (.cells (PT.mk o n x d q A c ps).cells.toArray 29)).alloc (by rw [World.size_alloc]; exact Nat.le_succ _) (.cells #[.string o', .string n', .string x'] 55))
  obtain ⟨Z, hZ⟩ : ∃ Z, dc ((PT.mk o n x d q A c ps).pr = ((o', n'), x')) = Z := ⟨_, rfl⟩
  have HZ : Hid (Z = true ↔ o = o' ∧ n = n' ∧ x = x') := hid (by rw [← hZ, dc_iff]; unfold PT.pr PT.o PT.n PT.x; simp [and_assoc])
  rw [hZ]
  unfold PT.cells at HB1 ⊢
  simp only at HB1 ⊢
  clear hZ
  by_cases ho : o = o'
  · subst ho
    by_cases hn : n = n'
    · subst hn
      by_cases hx : x = x'
      · subst hx
        have HF : Hid (Z = true) := hid (HZ.out.2 ⟨rfl, rfl, rfl⟩)
        go_enter Tryz.func53, Tryz.ntmps53
        go_wp2_with fail
        go_ret
        exact ⟨by rw [HF.out]; rfl, HB1.out⟩
      · have HF : Hid (Z = false) := hid (Bool.eq_false_iff.2 fun e => hx (HZ.out.1 e).2.2)
        obtain ⟨x1, x2⟩ := inne hx
        clear hx
        go_enter Tryz.func53, Tryz.ntmps53
        go_wp2_with fail
        go_ret
        exact ⟨by rw [HF.out]; rfl, HB1.out⟩
    · have HF : Hid (Z = false) := hid (Bool.eq_false_iff.2 fun e => hn (HZ.out.1 e).2.1)
      obtain ⟨x1, x2⟩ := inne hn
      clear hn
      go_enter Tryz.func53, Tryz.ntmps53
      go_wp2_with fail
      go_ret
      exact ⟨by rw [HF.out]; rfl, HB1.out⟩
  · have HF : Hid (Z = false) := hid (Bool.eq_false_iff.2 fun e => ho (HZ.out.1 e).1)
    obtain ⟨x1, x2⟩ := inne ho
    clear ho
    go_enter Tryz.func53, Tryz.ntmps53
    go_wp2_with fail
    go_ret
    exact ⟨by rw [HF.out]; rfl, HB1.out⟩
theorem map_pr_eq {ps : List PT} {qs : List Pr} {n : Nat} (hp : ps.length = n) (hq : qs.length = n) (h : ∀ j, j < n → ∀ (a : PT) (b : Pr), ps[j]? = some a → qs[j]? = some b → a.pr = b) : ps.map PT.pr = qs := by
  apply List.ext_getElem?
  intro j
  rw [List.getElem?_map]
  by_cases hj : j < n
  · obtain ⟨a, ha⟩ : ∃ x, ps[j]? = some x := ⟨_, List.getElem?_eq_getElem (by rw [hp]; exact hj)⟩
    obtain ⟨b, hb⟩ : ∃ x, qs[j]? = some x := ⟨_, List.getElem?_eq_getElem (by rw [hq]; exact hj)⟩
    rw [ha, hb, Option.map_some, h j hj a b ha hb]
  · rw [List.getElem?_eq_none (by omega), List.getElem?_eq_none (by omega)]; rfl
theorem map_pr_ne {ps : List PT} {qs : List Pr} {j : Nat} {a : PT} {b : Pr} (ha : ps[j]? = some a) (hb : qs[j]? = some b) (h : a.pr ≠ b) : ps.map PT.pr ≠ qs := fun e => by
  have : (ps.map PT.pr)[j]? = qs[j]? := by rw [e]
  rw [List.getElem?_map, ha, hb] at this
  exact h (Option.some.inj this)
set_option maxHeartbeats 4000000 in
theorem eqfQ_any (ps : List PT) (qs : List Pr) (A B : Option Addr) (np nq c c' : Nat) (hnp : ps.length = np) (hnq : qs.length = nq) (h63 : np ≤ 9223372036854775807) (w : World) (hA : Els encT w w.heap.size A ps) (hB : Els encP w w.heap.size B qs) :
    Calls Tryz.prog 52 #[.slice A np c, .slice B nq c', .func (.func 53) #[] #[]] w fun e w' => e = .returned (.bool (dc (ps.map PT.pr = qs))) ∧ Below w.heap.size w w' := by
  have HA := hid hA
  have HB0 := hid hB
  have HNP := hid hnp
  have HNQ := hid hnq
  obtain ⟨Z, hZ⟩ : ∃ Z, dc (ps.map PT.pr = qs) = Z := ⟨_, rfl⟩
  have HSA : Hid (Z = true ↔ ps.map PT.pr = qs) := hid (by rw [← hZ, dc_iff])
  rw [hZ]
  clear hA hB hnp hnq hZ
  by_cases hl : np = nq
  · subst hl
    go_enter Tryz.func52, Tryz.ntmps52
    go_wp2_with fail
    go_loopw [17] (fun i wr => ∃ j : Nat, j ≤ np ∧ i = .int .i64 (j : Int) ∧ Hid (∀ i, i < j → ∀ (a : PT) (b : Pr), ps[i]? = some a → qs[i]? = some b → a.pr = b) ∧ Hid (Below w.heap.size w wr)) (fun i _ => np - (intOf i).toNat)
    case atStart => exact ⟨0, Nat.zero_le _, rfl, hid (fun i hi => absurd hi (Nat.not_lt_zero _)), hid (Below.refl _ _)⟩
    case round =>
      obtain ⟨j, hj, rfl, HAL, HB⟩ := hrel
      by_cases hlt : j < np
      · obtain ⟨⟨o2, n2, x2, d2, q2, A2, c2, ps2⟩, hx2⟩ : ∃ x, ps[j]? = some x := ⟨_, List.getElem?_eq_getElem (by rw [HNP.out]; exact hlt)⟩
        obtain ⟨⟨⟨o3, n3⟩, x3⟩, hx3⟩ : ∃ x, qs[j]? = some x := ⟨_, List.getElem?_eq_getElem (by rw [HNQ.out]; exact hlt)⟩
        have HX2 := hid hx2
        have HX3 := hid hx3
        obtain ⟨ad, aj, rfl, hab, ea, hbj, a0, a1, a2, a3, a4, a5⟩ := PIn.get (HA.out.below HB.out) hx2
        obtain ⟨wb, hwb⟩ : ∃ wb, wb = wr.alloc (.cells (PT.mk o2 n2 x2 d2 q2 A2 c2 ps2).cells.toArray 29) := ⟨_, rfl⟩
        have HB1 : Hid (Below w.heap.size w wb) := hid (by rw [hwb]; exact HB.out.alloc HB.out.size _)
        obtain ⟨bd, bj, rfl, hbb, eb, hbk, b0, bi⟩ := (HB0.out.below HB1.out).get hx3
        have b0 := b0 _ rfl
        have b1 := bi 1 _ (by omega) rfl
        have b2 := bi 2 _ (by omega) rfl
        have eb : bd.add (j * 3) = bj := eb
        obtain ⟨wc, hwc⟩ : ∃ wc, wc = wb.alloc (.cells #[.string o3, .string n3, .string x3] 55) := ⟨_, rfl⟩
        have HB2 : Hid (Below w.heap.size w wc) := hid (by rw [hwc]; exact HB1.out.alloc HB1.out.size _)
        have hj0 : (0 : Int) ≤ (j : Int) := Int.natCast_nonneg _
        have hj1 : (j : Int) < (np : Int) := by omega
        have HCA := hid (prove1_any (.mk o2 n2 x2 d2 q2 A2 c2 ps2) ((o3, n3), x3) wc)
        obtain ⟨b, hb⟩ : ∃ b, dc ((PT.mk o2 n2 x2 d2 q2 A2 c2 ps2).pr = ((o3, n3), x3)) = b := ⟨_, rfl⟩
        have HBI : Hid (b = true ↔ (PT.mk o2 n2 x2 d2 q2 A2 c2 ps2).pr = ((o3, n3), x3)) := hid (by rw [← hb, dc_iff])
        rw [hb] at HCA
        unfold PT.cells at HCA hwb
        simp only at HCA hwb
        rw [hwb] at b0 b1 b2
        clear hx2 hx3 hab hbj hbb hbk hb bi
        go_wp2_with fail
        rw [← hwb, ← hwc]
        refine HCA.out.mono ?_
        rintro er w3 ⟨rfl, hb3⟩
        have HB3 := hid (HB2.out.trans (hb3.mono HB2.out.size))
        clear hb3 HCA a0 a1 a2 a3 a4 a5 b0 b1 b2 hwb hwc
        cases b with
        | true =>
          have HA2 : Hid (∀ i, i < j + 1 → ∀ (a : PT) (b : Pr), ps[i]? = some a → qs[i]? = some b → a.pr = b) := hid (fun i hi a b ha hb => by
            rcases Nat.lt_succ_iff_lt_or_eq.1 hi with h | h
            · exact HAL.out i h a b ha hb
            · subst h
              rw [HX2.out] at ha
              rw [HX3.out] at hb
              rw [← Option.some.inj ha, ← Option.some.inj hb]
              exact HBI.out.1 rfl)
          go_wp2_with fail
          go_roundw
          case rel => exact ⟨j + 1, by omega, by go_num, HA2, HB3⟩
          case measure => simp [intOf]; omega
        | false =>
          have HZF : Hid (Z = false) := hid (Bool.eq_false_iff.2 (fun e => map_pr_ne HX2.out HX3.out (fun e => by have := HBI.out.2 e; cases this) (HSA.out.1 e)))
          go_wp2_with fail
          go_ret
          exact ⟨by rw [HZF.out]; rfl, HB3.out⟩
      · obtain rfl : j = np := by omega
        have HZT : Hid (Z = true) := hid (HSA.out.2 (map_pr_eq HNP.out HNQ.out HAL.out))
        go_wp2_with fail
        go_ret
        exact ⟨by rw [HZT.out]; rfl, HB.out⟩
  · have hl2 : ¬ (np : Int) = (nq : Int) := by omega
    have HZF : Hid (Z = false) := hid (Bool.eq_false_iff.2 (fun e => hl (by have := congrArg List.length (HSA.out.1 e); rw [List.length_map, HNP.out, HNQ.out] at this; exact this)))
    go_enter Tryz.func52, Tryz.ntmps52
    go_wp2_with fail
    go_ret
    exact ⟨by rw [HZF.out]; rfl, Below.refl _ _⟩
theorem prove_any (ps : List PT) (qs : List Pr) (A B : Option Addr) (np nq c c' : Nat) (hnp : ps.length = np) (hnq : qs.length = nq) (h63 : np ≤ 9223372036854775807) (w : World) (hA : Els encT w w.heap.size A ps) (hB : Els encP w w.heap.size B qs) :
    Calls Tryz.prog 28 #[.slice A np c, .slice B nq c'] w fun e w' => e = .returned (.bool (dc (ps.map PT.pr = qs))) ∧ Below w.heap.size w w' := by
  have HE := hid (eqfQ_any ps qs A B np nq c c' hnp hnq h63 w hA hB)
  clear hA hB hnp hnq
  go_enter Tryz.func28, Tryz.ntmps28
  go_wp2_with fail
  refine HE.out.mono ?_
  rintro er w3 ⟨rfl, hb3⟩
  go_wp2_with fail
  go_ret
  exact ⟨rfl, hb3⟩
end Go.Proofs.YtfbapbpggicfbaaGreatDoor.Sh
