/-
  The document's own Same, by contract.
-/
import Derived.Test.YtoajckhnneagnaaDoorJc23
import Derived.Test.YtoajckhnneagnaaDoorJc18
import Derived.Test.YtoajckhnneagnaaDoorJc17
import Derived.Deep.LoopGhost
import Derived.Deep.Cut
import Derived.Deep.DeepCutAuto
set_option linter.unusedVariables false
set_option linter.unusedSimpArgs false
namespace Go.Proofs.YtoajckhnneagnaaDoor.Sh
open Go Go.RowKit

set_option linter.unusedVariables false
set_option linter.unusedSimpArgs false

noncomputable def smP (p q : PT) : Bool := @decide (p.bare = q.bare) (Classical.propDecidable _)
theorem smP_iff {p q : PT} : smP p q = true ↔ p.bare = q.bare := by unfold smP; exact @decide_eq_true_iff _ (Classical.propDecidable _)
theorem map_take_eq {ps qs : List PT} {n : Nat} (hp : ps.length = n) (hq : qs.length = n) (h : ∀ j, j < n → ∀ a b, ps[j]? = some a → qs[j]? = some b → a.bare = b.bare) : ps.map PT.bare = qs.map PT.bare := by
  apply List.ext_getElem?
  intro j
  rw [List.getElem?_map, List.getElem?_map]
  by_cases hj : j < n
  · obtain ⟨a, ha⟩ : ∃ x, ps[j]? = some x := ⟨_, List.getElem?_eq_getElem (by rw [hp]; exact hj)⟩
    obtain ⟨b, hb⟩ : ∃ x, qs[j]? = some x := ⟨_, List.getElem?_eq_getElem (by rw [hq]; exact hj)⟩
    rw [ha, hb, Option.map_some, Option.map_some, h j hj a b ha hb]
  · rw [List.getElem?_eq_none (by omega), List.getElem?_eq_none (by omega)]
theorem map_at_ne {ps qs : List PT} {j : Nat} {a b : PT} (ha : ps[j]? = some a) (hb : qs[j]? = some b) (h : a.bare ≠ b.bare) : ps.map PT.bare ≠ qs.map PT.bare := fun e => by
  have : (ps.map PT.bare)[j]? = (qs.map PT.bare)[j]? := by rw [e]
  rw [List.getElem?_map, List.getElem?_map, ha, hb] at this
  exact h (Option.some.inj this)
set_option maxHeartbeats 8000000 in
set_option maxRecDepth 100000 in
theorem refSame7_any (p : PT) : ∀ (p' : PT) (w : World), PIn w w.heap.size p → PIn w w.heap.size p' →
    Calls Tryd.prog 11 #[.agg p.cells.toArray, .agg p'.cells.toArray] w fun e w' => e = .returned (.bool (smP p p')) ∧ Below w.heap.size w w' := by
  induction p using PT.ind
  rename_i o n x d q A c ps ih
  intro p' w hp hq
  obtain ⟨o', n', x', d', q', A', c', qs⟩ := p'
  have HIH := hid ih
  obtain ⟨h1, h2, h3, h4⟩ := hp.open'
  obtain ⟨g1, g2, g3, g4⟩ := hq.open'
  obtain ⟨w1, hw1⟩ : ∃ w1, w1 = (w.alloc (.cells (PT.mk o n x d q A c ps).cells.toArray 30)).alloc (.cells (PT.mk o' n' x' d' q' A' c' qs).cells.toArray 30) := ⟨_, rfl⟩
  have HQ1 : Hid (Below w.heap.size w w1) := hid (by rw [hw1]; exact (below_pr w _).alloc (by rw [World.size_alloc]; exact Nat.le_succ _) _)
  have HPA : Hid (PrAt w1 w.heap.size (.mk o n x d q A c ps)) := hid (by rw [hw1]; exact (PrAt.new w _).kept (below_pr _ _))
  have HPB : Hid (PrAt w1 (w.heap.size + 1) (.mk o' n' x' d' q' A' c' qs)) := hid (by rw [hw1]; have := PrAt.new (w.alloc (.cells (PT.mk o n x d q A c ps).cells.toArray 30)) (.mk o' n' x' d' q' A' c' qs); rwa [World.size_alloc] at this)
  have HPI := hid (fun a ha W (hW : Below w1.heap.size w1 W) => (h4 a ha).now (HQ1.out.trans (hW.mono HQ1.out.size)))
  have HQI := hid (fun a ha W (hW : Below w1.heap.size w1 W) => (g4 a ha).now (HQ1.out.trans (hW.mono HQ1.out.size)))
  have HEL := hid (fun W (hW : Below w1.heap.size w1 W) => (h3.below (HQ1.out.trans (hW.mono HQ1.out.size))).more (Nat.le_trans HQ1.out.size hW.size))
  have HEQ := hid (fun W (hW : Below w1.heap.size w1 W) => (g3.below (HQ1.out.trans (hW.mono HQ1.out.size))).more (Nat.le_trans HQ1.out.size hW.size))
  obtain ⟨np, hnp⟩ : ∃ np, ps.length = np := ⟨_, rfl⟩
  have HNP := hid hnp
  obtain ⟨nq', hnq⟩ : ∃ nq, qs.length = nq := ⟨_, rfl⟩
  have HNQ := hid hnq
  have hnp63 : np ≤ 9223372036854775807 := by omega
  have hnq63 : nq' ≤ 9223372036854775807 := by omega
  have HPA5 := hid (fun W (hW : Below w1.heap.size w1 W) => (HPA.out.kept hW).all)
  have HPB5 := hid (fun W (hW : Below w1.heap.size w1 W) => (HPB.out.kept hW).all)
  rw [hnp] at HPA5
  rw [hnq] at HPB5
  have HSA := hid (bare_same (o := o) (n := n) (x := x) (o' := o') (n' := n') (x' := x') (d := d) (q := q) (d' := d') (q' := q') (A := A) (A' := A') (c := c) (c' := c') (ps := ps) (ps' := qs))
  obtain ⟨Z, hZ⟩ : ∃ Z : Bool, smP (PT.mk o n x d q A c ps) (PT.mk o' n' x' d' q' A' c' qs) = Z := ⟨_, rfl⟩
  rw [← smP_iff, hZ] at HSA
  rw [hZ]
  obtain ⟨k0, k1, k2, k3, k4, k5⟩ := HPA5.out _ (Below.refl _ _)
  obtain ⟨l0, l1, l2, l3, l4, l5⟩ := HPB5.out _ (Below.refl _ _)
  unfold PT.cells at hw1 ⊢
  simp only [hnp, hnq] at hw1 ⊢
  clear ih hp hq h1 h2 h3 h4 g1 g2 g3 g4 hnp hnq hZ
  by_cases ho : o = o'
  · subst ho
    by_cases hn : n = n'
    · subst hn
      by_cases hx : x = x'
      · subst hx
        by_cases hd : d = d'
        · subst hd
          by_cases hqq : q = q'
          · subst hqq
            by_cases hl : np = nq'
            · subst hl
              have HTR : Hid ((∀ i, i < np → ∀ a b : PT, ps[i]? = some a → qs[i]? = some b → a.bare = b.bare) → Z = true) := hid (fun h => HSA.out.2 ⟨rfl, rfl, rfl, rfl, rfl, map_take_eq HNP.out HNQ.out h⟩)
              have HFA : Hid (∀ (j : Nat) (a b : PT), ps[j]? = some a → qs[j]? = some b → a.bare ≠ b.bare → Z = false) := hid (fun j a b ha hb h => Bool.eq_false_iff.2 (fun e => map_at_ne ha hb h (HSA.out.1 e).2.2.2.2.2))
              clear HSA
              go_enter Tryd.func11, Tryd.ntmps11
              go_wp2_with fail
              rw [← hw1]
              clear hw1 k0 k1 k2 k3 k4 k5 l0 l1 l2 l3 l4 l5
              go_loopw [5] (fun i wr => ∃ j : Nat, j ≤ np ∧ i = .int .i64 (j : Int) ∧ Hid (∀ i, i < j → ∀ a b : PT, ps[i]? = some a → qs[i]? = some b → a.bare = b.bare) ∧ Hid (Below w1.heap.size w1 wr)) (fun i _ => np - (intOf i).toNat)
              case atStart => exact ⟨0, Nat.zero_le _, rfl, hid (fun i hi => absurd hi (Nat.not_lt_zero _)), hid (Below.refl _ _)⟩
              case round =>
                obtain ⟨j, hj, rfl, HAL, HB⟩ := hrel
                by_cases hlt : j < np
                · obtain ⟨⟨o2, n2, x2, d2, q2, A2, c2, ps2⟩, hx2⟩ : ∃ x, ps[j]? = some x := ⟨_, List.getElem?_eq_getElem (by rw [HNP.out]; exact hlt)⟩
                  obtain ⟨⟨o3, n3, x3, d3, q3, A3, c3, ps3⟩, hx3⟩ : ∃ x, qs[j]? = some x := ⟨_, List.getElem?_eq_getElem (by rw [HNQ.out]; exact hlt)⟩
                  have HX2 := hid hx2
                  have HX3 := hid hx3
                  obtain ⟨ad, aj, rfl, hab, ea, hbj, a0, a1, a2, a3, a4, a5⟩ := PIn.get (HEL.out _ HB.out) hx2
                  obtain ⟨bd, bj, rfl, hbb, eb, hbk, b0, b1, b2, b3, b4, b5⟩ := PIn.get (HEQ.out _ HB.out) hx3
                  have hj0 : (0 : Int) ≤ (j : Int) := Int.natCast_nonneg _
                  have hj1 : (j : Int) < (np : Int) := by omega
                  have HCA := hid (fun W (hW : Below wr.heap.size wr W) => HIH.out _ (List.mem_of_getElem? HX2.out) (.mk o3 n3 x3 d3 q3 A3 c3 ps3) W (HPI.out _ (List.mem_of_getElem? HX2.out) W (HB.out.trans (hW.mono HB.out.size))) (HQI.out _ (List.mem_of_getElem? HX3.out) W (HB.out.trans (hW.mono HB.out.size))))
                  unfold PT.cells at HCA
                  simp only at HCA
                  have HAJ : Hid (aj.block < wr.heap.size) := hid (by rw [hbj]; exact hab)
                  have HBK : Hid (bj.block < wr.heap.size) := hid (by rw [hbk]; exact hbb)
                  have HK := hid (fun W (hW : Below wr.heap.size wr W) => (⟨(hW.cell (p := aj) HAJ.out).trans a0, (hW.cell (p := ⟨aj.block, aj.off + 1, none⟩) HAJ.out).trans a1, (hW.cell (p := ⟨aj.block, aj.off + 2, none⟩) HAJ.out).trans a2, (hW.cell (p := ⟨aj.block, aj.off + 3, none⟩) HAJ.out).trans a3, (hW.cell (p := ⟨aj.block, aj.off + 4, none⟩) HAJ.out).trans a4, (hW.cell (p := ⟨aj.block, aj.off + 5, none⟩) HAJ.out).trans a5⟩ : _ ∧ _ ∧ _ ∧ _ ∧ _ ∧ _))
                  have HK2 := hid (fun W (hW : Below wr.heap.size wr W) => (⟨(hW.cell (p := bj) HBK.out).trans b0, (hW.cell (p := ⟨bj.block, bj.off + 1, none⟩) HBK.out).trans b1, (hW.cell (p := ⟨bj.block, bj.off + 2, none⟩) HBK.out).trans b2, (hW.cell (p := ⟨bj.block, bj.off + 3, none⟩) HBK.out).trans b3, (hW.cell (p := ⟨bj.block, bj.off + 4, none⟩) HBK.out).trans b4, (hW.cell (p := ⟨bj.block, bj.off + 5, none⟩) HBK.out).trans b5⟩ : _ ∧ _ ∧ _ ∧ _ ∧ _ ∧ _))
                  have HDR := hid (Below.refl wr.heap.size wr).drew
                  obtain ⟨k0, k1, k2, k3, k4, k5⟩ := HPA5.out _ HB.out
                  obtain ⟨l0, l1, l2, l3, l4, l5⟩ := HPB5.out _ HB.out
                  have HL5 := hid (fun W (hW : Below wr.heap.size wr W) => (⟨(HPA5.out W (HB.out.trans (hW.mono HB.out.size))).2.2.2.2.2, (HPB5.out W (HB.out.trans (hW.mono HB.out.size))).2.2.2.2.2⟩ : _ ∧ _))
                  obtain ⟨b, hb⟩ : ∃ b, smP (.mk o2 n2 x2 d2 q2 A2 c2 ps2) (.mk o3 n3 x3 d3 q3 A3 c3 ps3) = b := ⟨_, rfl⟩
                  have HBI := hid (smP_iff (p := .mk o2 n2 x2 d2 q2 A2 c2 ps2) (q := .mk o3 n3 x3 d3 q3 A3 c3 ps3))
                  rw [hb] at HCA HBI
                  clear hx2 hx3 hab hbj hbb hbk hb a0 a1 a2 a3 a4 a5 b0 b1 b2 b3 b4 b5
                  go_wp2_with fail
                  clear k0 k1 k2 k3 k4 k5 l0 l1 l2 l3 l4 l5
                  have a0 := fun x : Wn wr.heap.size wr => (HK.out x.1 x.2).1
                  have a1 := fun x : Wn wr.heap.size wr => (HK.out x.1 x.2).2.1
                  have a2 := fun x : Wn wr.heap.size wr => (HK.out x.1 x.2).2.2.1
                  have a3 := fun x : Wn wr.heap.size wr => (HK.out x.1 x.2).2.2.2.1
                  have a4 := fun x : Wn wr.heap.size wr => (HK.out x.1 x.2).2.2.2.2.1
                  have a5 := fun x : Wn wr.heap.size wr => (HK.out x.1 x.2).2.2.2.2.2
                  have b0 := fun x : Wn wr.heap.size wr => (HK2.out x.1 x.2).1
                  have b1 := fun x : Wn wr.heap.size wr => (HK2.out x.1 x.2).2.1
                  have b2 := fun x : Wn wr.heap.size wr => (HK2.out x.1 x.2).2.2.1
                  have b3 := fun x : Wn wr.heap.size wr => (HK2.out x.1 x.2).2.2.2.1
                  have b4 := fun x : Wn wr.heap.size wr => (HK2.out x.1 x.2).2.2.2.2.1
                  have b5 := fun x : Wn wr.heap.size wr => (HK2.out x.1 x.2).2.2.2.2.2
                  have k5 := fun x : Wn wr.heap.size wr => (HL5.out x.1 x.2).1
                  have l5 := fun x : Wn wr.heap.size wr => (HL5.out x.1 x.2).2
                  refine region_in wr.heap.size wr (by kernel_rfl) (by kernel_rfl) HDR.out ?_
                  repeat (go_big_quiet_step (first | (go_at_call 11; exact call_in2 (Nat.le_refl _) HCA.out)))
                  refine wpQuiet_nil ?_
                  intro wq hwq
                  have HWQ := hid (HB.out.trans (hwq.mono HB.out.size))
                  clear hwq a0 a1 a2 a3 a4 a5 b0 b1 b2 b3 b4 b5 k5 l5
                  cases b with
                  | true =>
                    have HA2 : Hid (∀ i, i < j + 1 → ∀ a b : PT, ps[i]? = some a → qs[i]? = some b → a.bare = b.bare) := hid (fun i hi a b ha hb => by
                      rcases Nat.lt_succ_iff_lt_or_eq.1 hi with h | h
                      · exact HAL.out i h a b ha hb
                      · subst h
                        rw [HX2.out] at ha
                        rw [HX3.out] at hb
                        rw [← Option.some.inj ha, ← Option.some.inj hb]
                        exact HBI.out.1 rfl)
                    go_wp2_with fail
                    go_roundw
                    case rel => exact ⟨j + 1, by omega, by go_num, HA2, HWQ⟩
                    case measure => simp [intOf]; omega
                  | false =>
                    have HZF := hid (HFA.out j _ _ HX2.out HX3.out (fun e => by have := HBI.out.2 e; cases this))
                    go_wp2_with fail
                    go_ret
                    exact ⟨by rw [HZF.out]; rfl, HQ1.out.trans (HWQ.out.mono HQ1.out.size)⟩
                · obtain rfl : j = np := by omega
                  have HTT := hid (HTR.out HAL.out)
                  obtain ⟨k0, k1, k2, k3, k4, k5⟩ := HPA5.out _ HB.out
                  go_wp2_with fail
                  go_ret
                  exact ⟨by rw [HTT.out]; rfl, HQ1.out.trans (HB.out.mono HQ1.out.size)⟩
            · have hl2 : ¬ (np : Int) = (nq' : Int) := by omega
              have HL := hid hl
              clear hl
              have HF : Hid (Z = false) := hid (Bool.eq_false_iff.2 (fun h => (fun e => HL.out (by have := congrArg List.length e.2.2.2.2.2; rw [List.length_map, List.length_map, HNP.out, HNQ.out] at this; exact this)) (HSA.out.1 h)))
              clear HSA
              go_enter Tryd.func11, Tryd.ntmps11
              go_wp2_with fail
              go_ret
              exact ⟨by rw [HF.out]; rfl, by rw [← hw1]; exact HQ1.out⟩
          · have y1 : (q == q') = false := beq_eq_false_iff_ne.2 hqq
            have HL := hid hqq
            have HF : Hid (Z = false) := hid (Bool.eq_false_iff.2 (fun h => (fun e => HL.out e.2.2.2.2.1) (HSA.out.1 h)))
            clear HSA
            go_enter Tryd.func11, Tryd.ntmps11
            go_wp2_with fail
            go_ret
            exact ⟨by rw [HF.out]; rfl, by rw [← hw1]; exact HQ1.out⟩
        · have y1 : (d == d') = false := beq_eq_false_iff_ne.2 hd
          have HL := hid hd
          have HF : Hid (Z = false) := hid (Bool.eq_false_iff.2 (fun h => (fun e => HL.out e.2.2.2.1) (HSA.out.1 h)))
          clear HSA
          go_enter Tryd.func11, Tryd.ntmps11
          go_wp2_with fail
          go_ret
          exact ⟨by rw [HF.out]; rfl, by rw [← hw1]; exact HQ1.out⟩
      · obtain ⟨x1, x2⟩ := inne hx
        have HL := hid hx
        clear hx
        have HF : Hid (Z = false) := hid (Bool.eq_false_iff.2 (fun h => (fun e => HL.out e.2.2.1) (HSA.out.1 h)))
        clear HSA
        go_enter Tryd.func11, Tryd.ntmps11
        go_wp2_with fail
        go_ret
        exact ⟨by rw [HF.out]; rfl, by rw [← hw1]; exact HQ1.out⟩
    · obtain ⟨x1, x2⟩ := inne hn
      have HL := hid hn
      clear hn
      have HF : Hid (Z = false) := hid (Bool.eq_false_iff.2 (fun h => (fun e => HL.out e.2.1) (HSA.out.1 h)))
      clear HSA
      go_enter Tryd.func11, Tryd.ntmps11
      go_wp2_with fail
      go_ret
      exact ⟨by rw [HF.out]; rfl, by rw [← hw1]; exact HQ1.out⟩
  · obtain ⟨x1, x2⟩ := inne ho
    have HL := hid ho
    clear ho
    have HF : Hid (Z = false) := hid (Bool.eq_false_iff.2 (fun h => (fun e => HL.out e.1) (HSA.out.1 h)))
    clear HSA
    go_enter Tryd.func11, Tryd.ntmps11
    go_wp2_with fail
    go_ret
    exact ⟨by rw [HF.out]; rfl, by rw [← hw1]; exact HQ1.out⟩
end Go.Proofs.YtoajckhnneagnaaDoor.Sh
namespace Go.Proofs.YtoajckhnneagnaaDoor.Sh
open Go Go.RowKit

set_option linter.unusedVariables false
set_option linter.unusedSimpArgs false

end Go.Proofs.YtoajckhnneagnaaDoor.Sh
namespace Go.Proofs.YtoajckhnneagnaaDoor.Sh
open Go Go.RowKit

set_option linter.unusedVariables false
set_option linter.unusedSimpArgs false

noncomputable def dc (p : Prop) : Bool := @decide p (Classical.propDecidable p)
end Go.Proofs.YtoajckhnneagnaaDoor.Sh
namespace Go.Proofs.YtoajckhnneagnaaDoor.Sh
open Go Go.RowKit

set_option linter.unusedVariables false
set_option linter.unusedSimpArgs false
theorem counts_one8 {a b l : List Crd} (h : CountsOf a l) (h' : CountsOf b l) : a = b := counts_uniq h h'
theorem lv_round {cs : List Crd} {l out : List Pr} {k : Nat} (hl : ∀ p, p ∈ l ↔ Lv cs k p) (h : Rnd cs l out) : ∀ p, p ∈ out ↔ Lv cs (k + 1) p := fun p => by
  obtain ⟨new, -, -, -, hm⟩ := h
  rw [hm, lv_succ, hl]
  constructor
  · rintro (h1 | ⟨c, hc, h1⟩)
    · exact .inl h1
    · exact .inr ⟨c, hc, (brg_der.1 h1).mono fun q hq => (hl q).1 hq⟩
  · rintro (h1 | ⟨c, hc, h1⟩)
    · exact .inl h1
    · exact .inr ⟨c, hc, brg_der.2 (h1.mono fun q hq => (hl q).2 hq)⟩
set_option maxHeartbeats 16000000 in
set_option maxRecDepth 100000 in
theorem refRound8_any (A : Option Addr) (all : List Crd) (n c : Nat) (hn : all.length = n) (hm : n ≤ 30) (who o nm : ByteArray) (w : World) (h : Crs w w.heap.size A all) :
    Calls Tryd.prog 13 #[.slice A n c, .string who, .agg #[.string o, .string nm]] w fun e w' => ∃ cs, CountsOf cs all ∧ e = .returned (.int .i64 (rd cs ((o, nm), who) : Int)) ∧ Below w.heap.size w w' := by
  obtain ⟨w1, hw1⟩ : ∃ w1, w1 = w.alloc (.cells #[.string o, .string nm] 24) := ⟨_, rfl⟩
  obtain ⟨gp, hgp⟩ : ∃ g, w.heap.size = g := ⟨_, rfl⟩
  have HQ1 : Hid (Below w.heap.size w w1) := hid (by rw [hw1]; exact (Below.refl _ _).alloc (Nat.le_refl _) _)
  have HRO : Hid (RoleAt w1 gp o nm) := hid (by rw [hw1, ← hgp]; exact RoleAt.new w o nm)
  have HCA := hid (fun W (hW : Below w1.heap.size w1 W) => (h.below (HQ1.out.trans (hW.mono HQ1.out.size))).more (Nat.le_trans HQ1.out.size hW.size))
  have HCO := hid (refCounts_any A all n c hn (by omega) w1 (HCA.out _ (Below.refl _ _)))
  have HAL := hid (fun W (hW : Below w1.heap.size w1 W) => refAll_any A all n c hn hm W (HCA.out W hW))
  have HM : Hid (n ≤ 30) := hid hm
  have HN := hid hn
  clear h hn hm
  go_enter Tryd.func13, Tryd.ntmps13
  go_upto_region 1 with fail
  rw [← hw1]
  try rw [hgp]
  clear hw1 hgp
  go_upto_region 2 with (go_at_call 25; (refine HCO.out.mono ?_); rintro er w2 ⟨Ac, nc, cc, cs, rfl, hnc, oc, hco, bb⟩; have HB2 := hid bb; have HCN := hid hco; have HOC := hid oc; have HNC := hid hnc; clear hnc oc hco bb)
  have HR2 := hid (HRO.out.kept HB2.out)
  have r0 := HR2.out.c0
  have r1 := HR2.out.c1
  obtain ⟨w3, hw3⟩ : ∃ w3, w3 = w2.alloc (.cells #[.string o, .string nm, .string who] 47) := ⟨_, rfl⟩
  obtain ⟨gq, hgq⟩ : ∃ g, w2.heap.size = g := ⟨_, rfl⟩
  go_upto_region 3 with fail
  rw [← hw3]
  try rw [hgq]
  have HB3 : Hid (Below w2.heap.size w2 w3) := hid (by rw [hw3]; exact (Below.refl _ _).alloc (Nat.le_refl _) _)
  have HP3 : Hid (w3.heap[gq]? = some (.cells #[.string o, .string nm, .string who] 47 (0, 0))) := hid (by rw [hw3, ← hgq]; exact heap_alloc_new w2 _)
  clear hw3 hgq r0 r1
  have HB13 : Hid (Below w1.heap.size w1 w3) := hid (HB2.out.trans (HB3.out.mono HB2.out.size))
  have HPC := hid (fun W (hW : Below w3.heap.size w3 W) => (⟨by rw [cell_of_row W gq 0 _ _ (0, 0) ((hW.block _ (Array.getElem?_eq_some_iff.1 HP3.out).1).trans HP3.out)]; rfl, by rw [cell_of_row W gq 1 _ _ (0, 0) ((hW.block _ (Array.getElem?_eq_some_iff.1 HP3.out).1).trans HP3.out)]; rfl, by rw [cell_of_row W gq 2 _ _ (0, 0) ((hW.block _ (Array.getElem?_eq_some_iff.1 HP3.out).1).trans HP3.out)]; rfl⟩ : W.cell? ⟨gq, 0, none⟩ = some (.string o) ∧ W.cell? ⟨gq, 1, none⟩ = some (.string nm) ∧ W.cell? ⟨gq, 2, none⟩ = some (.string who)))
  have HD := hid (Below.refl w3.heap.size w3).drew
  go_cut [9] (fun a9 wx => a9 = .bool (dc (rd cs ((o, nm), who) ≠ 0)) ∧ Hid (Below w3.heap.size w3 wx))
  case first =>
    go_region_held3 (fun W => W.cell? ⟨gq, 0, none⟩ = some (.string o) ∧ W.cell? ⟨gq, 1, none⟩ = some (.string nm) ∧ W.cell? ⟨gq, 2, none⟩ = some (.string who))
      (first | exact HPC.out _ B2.out | exact HPC.out _ B1.out | exact HPC.out _ HD.out | go_keep) (first
      | (go_at_call 18; (refine (HAL.out _ (HB13.out.trans (HD.out.mono HB13.out.size))).mono ?_); rintro er w4 ⟨cs2, Al, cl, lst, hco, rfl, hso, him, ow, bb⟩; have B1 := hid (kept_trans HD.out HD.out.size bb); have HIM : Hid (∀ p, p ∈ lst ↔ rd cs p ≠ 0) := hid (fun p => by rw [him p, counts_one8 hco HCN.out, rd_imp]); have HEL := hid (own_els ow);
          (obtain ⟨nl, hnl⟩ : ∃ nl, lst.length = nl := ⟨_, rfl⟩); have HNL := hid hnl; have HNB : Hid (nl ≤ 1000000000) := hid (by have h1 := nodup_length hso.nodup (fun p hp => imp_uni ((him p).1 hp)); rw [uni_length] at h1; have h2 := counts_len hco; have h3 : cs2.length * cs2.length ≤ 30 * 30 := Nat.mul_le_mul (by have := HM.out; have := HN.out; omega) (by have := HM.out; have := HN.out; omega); omega); rw [hnl]; clear hco hso him ow bb hnl)
      | (go_at_call 21; (refine (in_any Al lst nl cl HNL.out ?hnn o nm who _ HEL.out).mono ?_); (case hnn => exact HNB.out); rintro er w5 ⟨rfl, bb⟩; have B2 := hid (kept_trans B1.out B1.out.size bb); clear bb)
      | fail)
    all_goals
      go_wp2_with fail
      go_meet
      case rel => exact ⟨by unfold dc; congr 1; exact decide_eq_decide.2 (HIM.out _), B2⟩
  case rest =>
    obtain ⟨rfl, HB4⟩ := hcut
    obtain ⟨w4, hw4⟩ : ∃ x, x = wc := ⟨_, rfl⟩
    subst hw4
    have HBW : Hid (Below w.heap.size w w4) := hid (HQ1.out.trans ((HB13.out.trans (HB4.out.mono HB13.out.size)).mono HQ1.out.size))
    by_cases hrd : rd cs ((o, nm), who) = 0
    · have hd : dc (rd cs ((o, nm), who) ≠ 0) = false := @decide_eq_false _ (Classical.propDecidable _) (fun e => e hrd)
      have HRD := hid hrd
      rw [hd]
      clear hd hrd
      go_wp2_with fail
      go_ret
      exact ⟨cs, HCN.out, by rw [HRD.out]; rfl, HBW.out⟩
    · have hd : dc (rd cs ((o, nm), who) ≠ 0) = true := @decide_eq_true _ (Classical.propDecidable _) hrd
      have HRD := hid hrd
      rw [hd]
      clear hd hrd
      obtain ⟨R, hR⟩ : ∃ R, rd cs ((o, nm), who) = R := ⟨_, rfl⟩
      have HR := hid hR
      clear hR
      obtain ⟨ws, hws⟩ : ∃ ws, whos cs [] = ws := ⟨_, rfl⟩
      have HLC : Hid (cs.length ≤ 30 ∧ cs.length = nc) := hid ⟨by have := counts_len HCN.out; have := HN.out; have := HM.out; omega, HOC.out.len⟩
      have HWS : Hid (∀ c ∈ cs, c.wh ∈ ws) := hid (fun c hc => by rw [← hws]; exact List.mem_append_left _ (List.mem_map.2 ⟨c, hc, rfl⟩))
      have HWL : Hid (cs.length * ws.length ≤ 900) := hid (by
        rw [← hws]; unfold whos
        rw [List.length_append, List.length_map, List.map_nil, List.length_nil]
        exact Nat.mul_le_mul HLC.out.1 (by have := HLC.out.1; omega : cs.length + 0 ≤ 30))
      have HMY : Hid (∀ c ∈ cs, mayC c = true) := hid (fun c hc => (counts_mem HCN.out hc).1)
      have HB24 : Hid (Below w2.heap.size w2 w4) := hid (HB3.out.trans (HB4.out.mono HB3.out.size))
      have HRB : Hid (R ≤ 900) := hid (by
        rw [← HR.out]
        obtain ⟨l, h1, h2, h3⟩ := rd_chain (cs := cs) (pe := who :: (List.range 16).map domN) (fun i hi => List.mem_cons_of_mem _ (List.mem_map.2 ⟨i, List.mem_range.2 hi, rfl⟩)) _ ((o, nm), who) (by simp) rfl
        rw [← h1]
        have h4 := nodup_lenA h2 (b := Hds cs (who :: (List.range 16).map domN)) fun p hp => in_hds (h3 p hp).2.1 (h3 p hp).1
        rw [hds_len] at h4
        simp at h4
        have := HLC.out.1
        omega)
      clear hws
      go_wp2_with fail
      go_loopw [10, 11] (fun v10 v11 wr => ∃ (k : Nat) (A1 : Option Addr) (n1 c1 : Nat) (now : List Pr), v11 = .int .i64 ((k + 1 : Nat) : Int) ∧ v10 = .slice A1 n1 c1 ∧ n1 ≤ 900 ∧ k < R ∧ Hid (now.length = n1) ∧ Hid (Els encP wr wr.heap.size A1 now) ∧ Hid (Within cs ws [] now) ∧ Hid (∀ p, p ∈ now ↔ Lv cs k p) ∧ Hid (Below w4.heap.size w4 wr)) (fun _ v11 _ => R + 1 - (intOf v11).toNat)
      case atStart => exact ⟨0, none, 0, 0, [], rfl, rfl, Nat.zero_le _, by have := HRD.out; have := HR.out; omega, hid rfl, hid Els.nil, hid (Within.start cs (by simp)), hid (fun p => by simp [Lv]), hid (Below.refl _ _)⟩
      case round =>
        obtain ⟨k, A1, n1, c1, now, rfl, rfl, hn1, hkR, HN1, HE1, HWI, HLV, HB1⟩ := hrel
        have HRO8 := hid (round_any Ac cs nc cc HLC.out.2 (by have := HLC.out; omega) HMY.out A1 now n1 c1 HN1.out (by omega) wr ((HOC.out.crs.below (HB24.out.trans (HB1.out.mono HB24.out.size))).more (Nat.le_trans HB24.out.size HB1.out.size)) HE1.out)
        have HR9 := HRB.out
        have hk0 : ((k + 1 : Nat) : Int) ≤ 900 := by omega
        have hk1 : (0 : Int) ≤ ((k + 1 : Nat) : Int) := Int.natCast_nonneg _
        obtain ⟨K, hK⟩ : ∃ K, k + 1 = K := ⟨_, rfl⟩
        rw [hK] at hk0 hk1 ⊢
        have HKK := hid hK
        have HKR : Hid (K ≤ R) := hid (by omega)
        clear hK
        go_upto_region 10 with (go_at_call 31; (refine HRO8.out.mono ?_); rintro er w5 ⟨A3, c3, nxt, rfl, ho3, hb3, hr3⟩; have HO3 := hid ho3; have HB5 := hid hb3; have HR3 := hid hr3; clear ho3 hb3 hr3)
        obtain ⟨n3, hn3⟩ : ∃ k, nxt.length = k := ⟨_, rfl⟩
        have HN3 := hid hn3
        have HW3 := hid (HWI.out.next HWS.out HR3.out)
        have HLV3 : Hid (∀ p, p ∈ nxt ↔ Lv cs K p) := hid (by rw [← HKK.out]; exact lv_round HLV.out HR3.out)
        have hn3b : n3 ≤ 900 := by have := HW3.out.len.2; have := HWL.out; rw [hn3] at *; simp at *; omega
        have HE3 := hid (own_els HO3.out)
        rw [hn3]
        clear hn3
        have HBW5 : Hid (Below w3.heap.size w3 w5) := hid (HB4.out.trans ((HB1.out.trans (HB5.out.mono HB1.out.size)).mono HB4.out.size))
        obtain ⟨p0, p1, p2⟩ := HPC.out _ HBW5.out
        have HIN := hid (fun hh => in_any A3 nxt n3 c3 HN3.out hh o nm who w5 HE3.out)
        by_cases hin : ((o, nm), who) ∈ nxt
        · have hd : decide (((o, nm), who) ∈ nxt) = true := decide_eq_true hin
          have HIN2 := hid (HIN.out (by omega))
          rw [hd] at HIN2
          have HEQ : Hid (rd cs ((o, nm), who) = K) := hid (by
            have h1 := rd_lv.1 ((HLV3.out _).1 hin)
            have := HKR.out; have := HR.out
            omega)
          clear hd hin
          go_wp2_with (go_at_call 21; (refine HIN2.out.mono ?_); rintro er w6 ⟨rfl, b6⟩; have HB6 := hid b6; clear b6)
          go_ret
          exact ⟨cs, HCN.out, by rw [HEQ.out]; rfl, HBW.out.trans (((HB1.out.trans (HB5.out.mono HB1.out.size)).trans (HB6.out.mono (Nat.le_trans HB1.out.size HB5.out.size))).mono HBW.out.size)⟩
        · have hd : decide (((o, nm), who) ∈ nxt) = false := decide_eq_false hin
          have HIN2 := hid (HIN.out (by omega))
          rw [hd] at HIN2
          have hKR : K < R := by
            rcases Nat.lt_or_ge K R with h1 | h1
            · exact h1
            · exact absurd ((HLV3.out _).2 (rd_lv.2 ⟨HRD.out, by rw [HR.out]; exact h1⟩)) hin
          clear hd hin
          go_wp2_with (go_at_call 21; (refine HIN2.out.mono ?_); rintro er w6 ⟨rfl, b6⟩; have HB6 := hid b6; clear b6)
          go_roundw
          case rel => exact ⟨K, A3, n3, c3, nxt, by go_num, rfl, hn3b, hKR, HN3, hid ((HE3.out.below HB6.out).more HB6.out.size), HW3, HLV3, hid ((HB1.out.trans (HB5.out.mono HB1.out.size)).trans (HB6.out.mono (Nat.le_trans HB1.out.size HB5.out.size)))⟩
          case measure => simp [intOf]; omega
end Go.Proofs.YtoajckhnneagnaaDoor.Sh
