/-
  The document's own Same, by contract.
-/
import Derived.Test.YtfbapbpggicfbaaDoorJa12
set_option linter.unusedVariables false
set_option linter.unusedSimpArgs false
namespace Go.Proofs.YtfbapbpggicfbaaDoor.Sh
open Go Go.RowKit

set_option linter.unusedVariables false
set_option linter.unusedSimpArgs false

theorem inne {a b : ByteArray} (h : a ≠ b) : ¬ a.toList = b.toList ∧ (a.toList == b.toList) = false := by
  have : ¬ a.toList = b.toList := fun e => h (ba_eq (by rw [← Lib.toList_data, ← Lib.toList_data, e]))
  exact ⟨this, beq_eq_false_iff_ne.2 this⟩
noncomputable def smP (p q : PT) : Bool := @decide (p.bare = q.bare) (Classical.propDecidable _)
theorem smP_iff {p q : PT} : smP p q = true ↔ p.bare = q.bare := by unfold smP; exact @decide_eq_true_iff _ (Classical.propDecidable _)
theorem map_take_eq {ps qs : List PT} {n : Nat} (hp : ps.length = n) (hq : qs.length = n) (h : ∀ j, j < n → ∀ a b, ps[j]? = some a → qs[j]? = some b → a.bare = b.bare) : ps.map PT.bare = qs.map PT.bare := by
  apply List.ext_getElem?
  intro j
  rw [List.getElem?_map, List.getElem?_map]
  by_cases hj : j < n
  · obtain ⟨a, ha⟩ : ∃ x, ps[j]? = some x := ⟨_, List.getElem?_eq_getElem (by rw [hp]; exact hj)⟩
    obtain ⟨b, hb⟩ : ∃ x, qs[j]? = some x := ⟨_, List.getElem?_eq_getElem (by rw [hq]; exact hj)⟩
    rw [ha, hb, Option.map_some, Option.map_some, h j hj a b ha hb]
  · rw [List.getElem?_eq_none (by omega), List.getElem?_eq_none (by omega)]
theorem map_at_ne {ps qs : List PT} {j : Nat} {a b : PT} (ha : ps[j]? = some a) (hb : qs[j]? = some b) (h : a.bare ≠ b.bare) : ps.map PT.bare ≠ qs.map PT.bare := fun e => by
  have : (ps.map PT.bare)[j]? = (qs.map PT.bare)[j]? := by rw [e]
  rw [List.getElem?_map, List.getElem?_map, ha, hb] at this
  exact h (Option.some.inj this)
set_option maxHeartbeats 8000000 in
set_option maxRecDepth 100000 in
theorem refSame7_any (p : PT) : ∀ (p' : PT) (w : World), PIn w w.heap.size p → PIn w w.heap.size p' →
    Calls Tryd.prog 18 #[.agg p.cells.toArray, .agg p'.cells.toArray] w fun e w' => e = .returned (.bool (smP p p')) ∧ Below w.heap.size w w' := by
  induction p using PT.ind
  rename_i o n x d q A c ps ih
  intro p' w hp hq
  obtain ⟨o', n', x', d', q', A', c', qs⟩ := p'
  have HIH := hid ih
  obtain ⟨h1, h2, h3, h4⟩ := hp.open'
  obtain ⟨g1, g2, g3, g4⟩ := hq.open'
  obtain ⟨w1, hw1⟩ : ∃ w1, w1 = (w.alloc (.cells (PT.mk o n x d q A c ps).cells.toArray 29)).alloc (.cells (PT.mk o' n' x' d' q' A' c' qs).cells.toArray 29) := ⟨_, rfl⟩
  have HQ1 : Hid (Below w.heap.size w w1) := hid (by rw [hw1]; exact (below_pr w _).alloc (by rw [World.size_alloc]; exact Nat.le_succ _) _)
  have HPA : Hid (PrAt w1 w.heap.size (.mk o n x d q A c ps)) := hid (by rw [hw1]; exact (PrAt.new w _).kept (below_pr _ _))
  have HPB : Hid (PrAt w1 (w.heap.size + 1) (.mk o' n' x' d' q' A' c' qs)) := hid (by rw [hw1]; have := PrAt.new (w.alloc (.cells (PT.mk o n x d q A c ps).cells.toArray 29)) (.mk o' n' x' d' q' A' c' qs); rwa [World.size_alloc] at this)
  have HPI := hid (fun a ha W (hW : Below w1.heap.size w1 W) => (h4 a ha).now (HQ1.out.trans (hW.mono HQ1.out.size)))
  have HQI := hid (fun a ha W (hW : Below w1.heap.size w1 W) => (g4 a ha).now (HQ1.out.trans (hW.mono HQ1.out.size)))
  have HEL := hid (fun W (hW : Below w1.heap.size w1 W) => (h3.below (HQ1.out.trans (hW.mono HQ1.out.size))).more (Nat.le_trans HQ1.out.size hW.size))
  have HEQ := hid (fun W (hW : Below w1.heap.size w1 W) => (g3.below (HQ1.out.trans (hW.mono HQ1.out.size))).more (Nat.le_trans HQ1.out.size hW.size))
  obtain ⟨np, hnp⟩ : ∃ np, ps.length = np := ⟨_, rfl⟩
  have HNP := hid hnp
  obtain ⟨nq', hnq⟩ : ∃ nq, qs.length = nq := ⟨_, rfl⟩
  have HNQ := hid hnq
  have hnp63 : np ≤ 9223372036854775807 := by omega
  have hnq63 : nq' ≤ 9223372036854775807 := by omega
  have HPA5 := hid (fun W (hW : Below w1.heap.size w1 W) => (HPA.out.kept hW).all)
  have HPB5 := hid (fun W (hW : Below w1.heap.size w1 W) => (HPB.out.kept hW).all)
  rw [hnp] at HPA5
  rw [hnq] at HPB5
  have HSA := hid (bare_same (o := o) (n := n) (x := x) (o' := o') (n' := n') (x' := x') (d := d) (q := q) (d' := d') (q' := q') (A := A) (A' := A') (c := c) (c' := c') (ps := ps) (ps' := qs))
  obtain ⟨Z, hZ⟩ : ∃ Z : Bool, smP (PT.mk o n x d q A c ps) (PT.mk o' n' x' d' q' A' c' qs) = Z := ⟨_, rfl⟩
  rw [← smP_iff, hZ] at HSA
  rw [hZ]
  obtain ⟨k0, k1, k2, k3, k4, k5⟩ := HPA5.out _ (Below.refl _ _)
  obtain ⟨l0, l1, l2, l3, l4, l5⟩ := HPB5.out _ (Below.refl _ _)
  unfold PT.cells at hw1 ⊢
  simp only [hnp, hnq] at hw1 ⊢
  clear ih hp hq h1 h2 h3 h4 g1 g2 g3 g4 hnp hnq hZ
  by_cases ho : o = o'
  · subst ho
    by_cases hn : n = n'
    · subst hn
      by_cases hx : x = x'
      · subst hx
        by_cases hd : d = d'
        · subst hd
          by_cases hqq : q = q'
          · subst hqq
            by_cases hl : np = nq'
            · subst hl
              have HTR : Hid ((∀ i, i < np → ∀ a b : PT, ps[i]? = some a → qs[i]? = some b → a.bare = b.bare) → Z = true) := hid (fun h => HSA.out.2 ⟨rfl, rfl, rfl, rfl, rfl, map_take_eq HNP.out HNQ.out h⟩)
              have HFA : Hid (∀ (j : Nat) (a b : PT), ps[j]? = some a → qs[j]? = some b → a.bare ≠ b.bare → Z = false) := hid (fun j a b ha hb h => Bool.eq_false_iff.2 (fun e => map_at_ne ha hb h (HSA.out.1 e).2.2.2.2.2))
              clear HSA
              go_enter Tryd.func18, Tryd.ntmps18
              go_wp2_with fail
              rw [← hw1]
              clear hw1 k0 k1 k2 k3 k4 k5 l0 l1 l2 l3 l4 l5
              go_loopw [5] (fun i wr => ∃ j : Nat, j ≤ np ∧ i = .int .i64 (j : Int) ∧ Hid (∀ i, i < j → ∀ a b : PT, ps[i]? = some a → qs[i]? = some b → a.bare = b.bare) ∧ Hid (Below w1.heap.size w1 wr)) (fun i _ => np - (intOf i).toNat)
              case atStart => exact ⟨0, Nat.zero_le _, rfl, hid (fun i hi => absurd hi (Nat.not_lt_zero _)), hid (Below.refl _ _)⟩
              case round =>
                obtain ⟨j, hj, rfl, HAL, HB⟩ := hrel
                by_cases hlt : j < np
                · obtain ⟨⟨o2, n2, x2, d2, q2, A2, c2, ps2⟩, hx2⟩ : ∃ x, ps[j]? = some x := ⟨_, List.getElem?_eq_getElem (by rw [HNP.out]; exact hlt)⟩
                  obtain ⟨⟨o3, n3, x3, d3, q3, A3, c3, ps3⟩, hx3⟩ : ∃ x, qs[j]? = some x := ⟨_, List.getElem?_eq_getElem (by rw [HNQ.out]; exact hlt)⟩
                  have HX2 := hid hx2
                  have HX3 := hid hx3
                  obtain ⟨ad, aj, rfl, hab, ea, hbj, a0, a1, a2, a3, a4, a5⟩ := PIn.get (HEL.out _ HB.out) hx2
                  obtain ⟨bd, bj, rfl, hbb, eb, hbk, b0, b1, b2, b3, b4, b5⟩ := PIn.get (HEQ.out _ HB.out) hx3
                  have hj0 : (0 : Int) ≤ (j : Int) := Int.natCast_nonneg _
                  have hj1 : (j : Int) < (np : Int) := by omega
                  have HCA := hid (fun W (hW : Below wr.heap.size wr W) => HIH.out _ (List.mem_of_getElem? HX2.out) (.mk o3 n3 x3 d3 q3 A3 c3 ps3) W (HPI.out _ (List.mem_of_getElem? HX2.out) W (HB.out.trans (hW.mono HB.out.size))) (HQI.out _ (List.mem_of_getElem? HX3.out) W (HB.out.trans (hW.mono HB.out.size))))
                  unfold PT.cells at HCA
                  simp only at HCA
                  have HAJ : Hid (aj.block < wr.heap.size) := hid (by rw [hbj]; exact hab)
                  have HBK : Hid (bj.block < wr.heap.size) := hid (by rw [hbk]; exact hbb)
                  have HK := hid (fun W (hW : Below wr.heap.size wr W) => (⟨(hW.cell (p := aj) HAJ.out).trans a0, (hW.cell (p := ⟨aj.block, aj.off + 1, none⟩) HAJ.out).trans a1, (hW.cell (p := ⟨aj.block, aj.off + 2, none⟩) HAJ.out).trans a2, (hW.cell (p := ⟨aj.block, aj.off + 3, none⟩) HAJ.out).trans a3, (hW.cell (p := ⟨aj.block, aj.off + 4, none⟩) HAJ.out).trans a4, (hW.cell (p := ⟨aj.block, aj.off + 5, none⟩) HAJ.out).trans a5⟩ : _ ∧ _ ∧ _ ∧ _ ∧ _ ∧ _))
                  have HK2 := hid (fun W (hW : Below wr.heap.size wr W) => (⟨(hW.cell (p := bj) HBK.out).trans b0, (hW.cell (p := ⟨bj.block, bj.off + 1, none⟩) HBK.out).trans b1, (hW.cell (p := ⟨bj.block, bj.off + 2, none⟩) HBK.out).trans b2, (hW.cell (p := ⟨bj.block, bj.off + 3, none⟩) HBK.out).trans b3, (hW.cell (p := ⟨bj.block, bj.off + 4, none⟩) HBK.out).trans b4, (hW.cell (p := ⟨bj.block, bj.off + 5, none⟩) HBK.out).trans b5⟩ : _ ∧ _ ∧ _ ∧ _ ∧ _ ∧ _))
                  have HDR := hid (Below.refl wr.heap.size wr).drew
                  obtain ⟨k0, k1, k2, k3, k4, k5⟩ := HPA5.out _ HB.out
                  obtain ⟨l0, l1, l2, l3, l4, l5⟩ := HPB5.out _ HB.out
                  have HL5 := hid (fun W (hW : Below wr.heap.size wr W) => (⟨(HPA5.out W (HB.out.trans (hW.mono HB.out.size))).2.2.2.2.2, (HPB5.out W (HB.out.trans (hW.mono HB.out.size))).2.2.2.2.2⟩ : _ ∧ _))
                  obtain ⟨b, hb⟩ : ∃ b, smP (.mk o2 n2 x2 d2 q2 A2 c2 ps2) (.mk o3 n3 x3 d3 q3 A3 c3 ps3) = b := ⟨_, rfl⟩
                  have HBI := hid (smP_iff (p := .mk o2 n2 x2 d2 q2 A2 c2 ps2) (q := .mk o3 n3 x3 d3 q3 A3 c3 ps3))
                  rw [hb] at HCA HBI
                  clear hx2 hx3 hab hbj hbb hbk hb a0 a1 a2 a3 a4 a5 b0 b1 b2 b3 b4 b5
                  go_wp2_with fail
                  clear k0 k1 k2 k3 k4 k5 l0 l1 l2 l3 l4 l5
                  have a0 := fun x : Wn wr.heap.size wr => (HK.out x.1 x.2).1
                  have a1 := fun x : Wn wr.heap.size wr => (HK.out x.1 x.2).2.1
                  have a2 := fun x : Wn wr.heap.size wr => (HK.out x.1 x.2).2.2.1
                  have a3 := fun x : Wn wr.heap.size wr => (HK.out x.1 x.2).2.2.2.1
                  have a4 := fun x : Wn wr.heap.size wr => (HK.out x.1 x.2).2.2.2.2.1
                  have a5 := fun x : Wn wr.heap.size wr => (HK.out x.1 x.2).2.2.2.2.2
                  have b0 := fun x : Wn wr.heap.size wr => (HK2.out x.1 x.2).1
                  have b1 := fun x : Wn wr.heap.size wr => (HK2.out x.1 x.2).2.1
                  have b2 := fun x : Wn wr.heap.size wr => (HK2.out x.1 x.2).2.2.1
                  have b3 := fun x : Wn wr.heap.size wr => (HK2.out x.1 x.2).2.2.2.1
                  have b4 := fun x : Wn wr.heap.size wr => (HK2.out x.1 x.2).2.2.2.2.1
                  have b5 := fun x : Wn wr.heap.size wr => (HK2.out x.1 x.2).2.2.2.2.2
                  have k5 := fun x : Wn wr.heap.size wr => (HL5.out x.1 x.2).1
                  have l5 := fun x : Wn wr.heap.size wr => (HL5.out x.1 x.2).2
                  refine region_in wr.heap.size wr (by kernel_rfl) (by kernel_rfl) HDR.out ?_
                  repeat (go_big_quiet_step (first | (go_at_call 18; exact call_in2 (Nat.le_refl _) HCA.out)))
                  refine wpQuiet_nil ?_
                  intro wq hwq
                  have HWQ := hid (HB.out.trans (hwq.mono HB.out.size))
                  clear hwq a0 a1 a2 a3 a4 a5 b0 b1 b2 b3 b4 b5 k5 l5
                  cases b with
                  | true =>
                    have HA2 : Hid (∀ i, i < j + 1 → ∀ a b : PT, ps[i]? = some a → qs[i]? = some b → a.bare = b.bare) := hid (fun i hi a b ha hb => by
                      rcases Nat.lt_succ_iff_lt_or_eq.1 hi with h | h
                      · exact HAL.out i h a b ha hb
                      · subst h
                        rw [HX2.out] at ha
                        rw [HX3.out] at hb
                        rw [← Option.some.inj ha, ← Option.some.inj hb]
                        exact HBI.out.1 rfl)
                    go_wp2_with fail
                    go_roundw
                    case rel => exact ⟨j + 1, by omega, by go_num, HA2, HWQ⟩
                    case measure => simp [intOf]; omega
                  | false =>
                    have HZF := hid (HFA.out j _ _ HX2.out HX3.out (fun e => by have := HBI.out.2 e; cases this))
                    go_wp2_with fail
                    go_ret
                    exact ⟨by rw [HZF.out]; rfl, HQ1.out.trans (HWQ.out.mono HQ1.out.size)⟩
                · obtain rfl : j = np := by omega
                  have HTT := hid (HTR.out HAL.out)
                  obtain ⟨k0, k1, k2, k3, k4, k5⟩ := HPA5.out _ HB.out
                  go_wp2_with fail
                  go_ret
                  exact ⟨by rw [HTT.out]; rfl, HQ1.out.trans (HB.out.mono HQ1.out.size)⟩
            · have hl2 : ¬ (np : Int) = (nq' : Int) := by omega
              have HL := hid hl
              clear hl
              have HF : Hid (Z = false) := hid (Bool.eq_false_iff.2 (fun h => (fun e => HL.out (by have := congrArg List.length e.2.2.2.2.2; rw [List.length_map, List.length_map, HNP.out, HNQ.out] at this; exact this)) (HSA.out.1 h)))
              clear HSA
              go_enter Tryd.func18, Tryd.ntmps18
              go_wp2_with fail
              go_ret
              exact ⟨by rw [HF.out]; rfl, by rw [← hw1]; exact HQ1.out⟩
          · have y1 : (q == q') = false := beq_eq_false_iff_ne.2 hqq
            have HL := hid hqq
            have HF : Hid (Z = false) := hid (Bool.eq_false_iff.2 (fun h => (fun e => HL.out e.2.2.2.2.1) (HSA.out.1 h)))
            clear HSA
            go_enter Tryd.func18, Tryd.ntmps18
            go_wp2_with fail
            go_ret
            exact ⟨by rw [HF.out]; rfl, by rw [← hw1]; exact HQ1.out⟩
        · have y1 : (d == d') = false := beq_eq_false_iff_ne.2 hd
          have HL := hid hd
          have HF : Hid (Z = false) := hid (Bool.eq_false_iff.2 (fun h => (fun e => HL.out e.2.2.2.1) (HSA.out.1 h)))
          clear HSA
          go_enter Tryd.func18, Tryd.ntmps18
          go_wp2_with fail
          go_ret
          exact ⟨by rw [HF.out]; rfl, by rw [← hw1]; exact HQ1.out⟩
      · obtain ⟨x1, x2⟩ := inne hx
        have HL := hid hx
        clear hx
        have HF : Hid (Z = false) := hid (Bool.eq_false_iff.2 (fun h => (fun e => HL.out e.2.2.1) (HSA.out.1 h)))
        clear HSA
        go_enter Tryd.func18, Tryd.ntmps18
        go_wp2_with fail
        go_ret
        exact ⟨by rw [HF.out]; rfl, by rw [← hw1]; exact HQ1.out⟩
    · obtain ⟨x1, x2⟩ := inne hn
      have HL := hid hn
      clear hn
      have HF : Hid (Z = false) := hid (Bool.eq_false_iff.2 (fun h => (fun e => HL.out e.2.1) (HSA.out.1 h)))
      clear HSA
      go_enter Tryd.func18, Tryd.ntmps18
      go_wp2_with fail
      go_ret
      exact ⟨by rw [HF.out]; rfl, by rw [← hw1]; exact HQ1.out⟩
  · obtain ⟨x1, x2⟩ := inne ho
    have HL := hid ho
    clear ho
    have HF : Hid (Z = false) := hid (Bool.eq_false_iff.2 (fun h => (fun e => HL.out e.1) (HSA.out.1 h)))
    clear HSA
    go_enter Tryd.func18, Tryd.ntmps18
    go_wp2_with fail
    go_ret
    exact ⟨by rw [HF.out]; rfl, by rw [← hw1]; exact HQ1.out⟩
end Go.Proofs.YtfbapbpggicfbaaDoor.Sh
