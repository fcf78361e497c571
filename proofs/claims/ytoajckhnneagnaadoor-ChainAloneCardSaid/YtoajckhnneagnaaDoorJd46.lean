/-
  The document's own Support, by contract.
-/
import Derived.Test.YtoajckhnneagnaaDoorJd44
import Derived.Test.YtoajckhnneagnaaDoorJd24
import Derived.Test.YtoajckhnneagnaaDoorJd45
import Derived.Test.YtoajckhnneagnaaDoorJd23
import Derived.Test.YtoajckhnneagnaaDoorJd4
import Derived.Test.YtoajckhnneagnaaDoorJd42
set_option linter.unusedVariables false
set_option linter.unusedSimpArgs false
namespace Go.Proofs.YtoajckhnneagnaaDoor.Sh
open Go Go.RowKit

set_option linter.unusedSimpArgs false
set_option linter.unusedVariables false
end Go.Proofs.YtoajckhnneagnaaDoor.Sh
namespace Go.Proofs.YtoajckhnneagnaaDoor.Sh
open Go Go.RowKit

set_option linter.unusedSimpArgs false
set_option linter.unusedVariables false
theorem SortedI.nodup {l : List (Int × Int)} (h : SortedI l) : l.Nodup := List.Pairwise.imp (fun {x y} hxy (e : x = y) => by subst e; unfold beforeI at hxy; simp only [decide_eq_true_eq] at hxy; omega) h
end Go.Proofs.YtoajckhnneagnaaDoor.Sh
namespace Go.Proofs.YtoajckhnneagnaaDoor.Sh
open Go Go.RowKit

set_option linter.unusedSimpArgs false
set_option linter.unusedVariables false
def inS8 (ss : List (Int × Int)) (out : List Crd) : List Crd := out.filter fun c => decide ((c.d, c.q) ∈ ss)
theorem inS8_snoc (ss : List (Int × Int)) (out : List Crd) (c : Crd) : inS8 ss (out ++ [c]) = inS8 ss out ++ (if (c.d, c.q) ∈ ss then [c] else []) := by
  unfold inS8
  rw [List.filter_append]
  by_cases h : (c.d, c.q) ∈ ss
  · rw [if_pos h, List.filter_cons_of_pos (by simpa using h)]; rfl
  · rw [if_neg h, List.filter_cons_of_neg (by simpa using h)]; rfl
theorem mem_inS8 {ss : List (Int × Int)} {out : List Crd} {c : Crd} : c ∈ inS8 ss out ↔ c ∈ out ∧ (c.d, c.q) ∈ ss := by
  unfold inS8; rw [List.mem_filter]; simp
theorem inS8_le {ss : List (Int × Int)} {out : List Crd} : (inS8 ss out).length ≤ out.length := List.length_filter_le _ _
theorem counts_inS8 {out o2 l : List Crd} {ss : List (Int × Int)} (h : CountsOf out l) (h2 : CountsOf o2 (inS8 ss out)) {c : Crd} (hc : c ∈ out) (hs : (c.d, c.q) ∈ ss) : c ∈ o2 := by
  have hcl : c ∈ inS8 ss out := mem_inS8.2 ⟨hc, hs⟩
  have h3 := h2.2 c.d c.q
  have h4 : ((inS8 ss out).filter fun x => idIs c.d c.q x && mayC x) = [c] := by
    have e1 : ((inS8 ss out).filter fun x => idIs c.d c.q x && mayC x) = (inS8 ss out).filter (idIs c.d c.q) := by
      apply List.filter_congr
      intro x hx
      rw [(counts_mem h (mem_inS8.1 hx).1).1, Bool.and_true]
    rw [e1]
    unfold inS8
    rw [List.filter_filter]
    have e2 : (out.filter fun x => idIs c.d c.q x && decide ((x.d, x.q) ∈ ss)) = out.filter (idIs c.d c.q) := by
      apply List.filter_congr
      intro x hx
      by_cases hid : idIs c.d c.q x = true
      · have := idIs_iff.1 hid
        rw [hid, Bool.true_and, this.1, this.2]
        exact decide_eq_true hs
      · rw [Bool.not_eq_true] at hid
        rw [hid, Bool.false_and]
    rw [e2, counts_one h hc]
  rw [h4] at h3
  exact (List.mem_filter.1 (by rw [h3]; simp : c ∈ o2.filter (idIs c.d c.q))).1
theorem inS8_len {out l : List Crd} {ss : List (Int × Int)} (h : CountsOf out l) (hn : ss.Nodup) (hm : ∀ i ∈ ss, ∃ c ∈ out, (c.d, c.q) = i) : (inS8 ss out).length = ss.length := by
  have ho := counts_onceI h
  have hnd : ((inS8 ss out).map fun c => (c.d, c.q)).Nodup := by
    have h1 : (inS8 ss out).Nodup := (counts_nodup h).filter _
    refine List.pairwise_map.2 (List.Pairwise.imp_of_mem (fun {a b} ha hb hab e => ?_) h1)
    exact hab (ho a (mem_inS8.1 ha).1 b (mem_inS8.1 hb).1 e)
  have e1 := nodup_lenA hnd (b := ss) (fun i hi => by
    obtain ⟨c, hc, rfl⟩ := List.mem_map.1 hi
    exact (mem_inS8.1 hc).2)
  have e2 := nodup_lenA hn (b := (inS8 ss out).map fun c => (c.d, c.q)) (fun i hi => by
    obtain ⟨c, hc, e⟩ := hm i hi
    exact List.mem_map.2 ⟨c, mem_inS8.2 ⟨hc, by rw [e]; exact hi⟩, e⟩)
  rw [List.length_map] at e1 e2
  omega
theorem alone8 {cs l : List Crd} (h : CountsOf cs l) {T : PT} (hT : Can cs T) :
    (inS8 (onceI T.ids) cs).length = (onceI T.ids).length ∧ ∀ o2, CountsOf o2 (inS8 (onceI T.ids) cs) → rd o2 T.pr ≠ 0 := by
  obtain ⟨h1, -, h3⟩ := onceI_all T.ids
  refine ⟨inS8_len h h1.nodup fun i hi => hT.cor.named i ((h3 i).1 hi), fun o2 h2 => ?_⟩
  exact (cor_rd (hT.cor.more fun c hc hid => counts_inS8 h h2 hc ((h3 _).2 hid))).1
end Go.Proofs.YtoajckhnneagnaaDoor.Sh
namespace Go.Proofs.YtoajckhnneagnaaDoor.Sh
open Go Go.RowKit

set_option linter.unusedVariables false
set_option linter.unusedSimpArgs false
set_option maxHeartbeats 8000000 in
set_option maxRecDepth 100000 in
theorem refHas_any (A : Option Addr) (all : List Crd) (n c : Nat) (hn : all.length = n) (hm : n ≤ 30) (o nm who : ByteArray) (w : World) (h : Crs w w.heap.size A all) :
    Calls Tryd.prog 26 #[.slice A n c, .string who, .agg #[.string o, .string nm]] w fun e w' => ∃ out b, CountsOf out all ∧ e = .returned (.bool b) ∧ (b = true ↔ Imp (· ∈ out) ((o, nm), who)) ∧ Below w.heap.size w w' := by
  obtain ⟨w1, hw1⟩ : ∃ w1, w1 = w.alloc (.cells #[.string o, .string nm] 24) := ⟨_, rfl⟩
  have HQ1 : Hid (Below w.heap.size w w1) := hid (by rw [hw1]; exact (Below.refl _ _).alloc (Nat.le_refl _) _)
  have HR1 : Hid (RoleAt w1 w.heap.size o nm) := hid (by rw [hw1]; exact RoleAt.new w o nm)
  have HAL := hid (fun W (hW : Below w1.heap.size w1 W) => refAll_any A all n c hn hm W ((h.below (HQ1.out.trans (hW.mono HQ1.out.size))).more (Nat.le_trans HQ1.out.size hW.size)))
  have HRC := hid (fun W (hW : Below w1.heap.size w1 W) => (⟨(hW.cell (p := ⟨w.heap.size, 0, none⟩) HR1.out.lt).trans (by rw [cell_of_row w1 _ 0 _ _ (0, 0) HR1.out]; rfl), (hW.cell (p := ⟨w.heap.size, 1, none⟩) HR1.out.lt).trans (by rw [cell_of_row w1 _ 1 _ _ (0, 0) HR1.out]; rfl)⟩ :
    W.cell? ⟨w.heap.size, 0, none⟩ = some (.string o) ∧ W.cell? ⟨w.heap.size, 1, none⟩ = some (.string nm)))
  have HD := hid (Below.refl w1.heap.size w1).drew
  have HM : Hid (all.length ≤ 30) := hid (by omega)
  clear h hn hm
  go_enter Tryd.func26, Tryd.ntmps26
  go_wp2_with fail
  rw [← hw1]
  clear hw1
  go_region_held3 (fun W => W.cell? ⟨w.heap.size, 0, none⟩ = some (.string o) ∧ W.cell? ⟨w.heap.size, 1, none⟩ = some (.string nm))
    (first | exact HRC.out _ B2.out | exact HRC.out _ B1.out | exact HRC.out _ HD.out | go_keep) (first
    | (go_at_call 18; (refine (HAL.out _ HD.out).mono ?_); rintro er w2 ⟨cs, Ac, cc, lst, hco, rfl, hso, him, ow, bb⟩; have B1 := hid (kept_trans HD.out HD.out.size bb); have HCN := hid hco; have HIM := hid him; have HEL := hid (own_els ow);
        (obtain ⟨nc, hnc⟩ : ∃ nc, lst.length = nc := ⟨_, rfl⟩); have HNC := hid hnc; have HNB : Hid (nc ≤ 1000000000) := hid (by have h1 := nodup_length hso.nodup (fun p hp => imp_uni ((him p).1 hp)); rw [uni_length] at h1; have h2 := counts_len hco; have h3 : cs.length * cs.length ≤ 30 * 30 := Nat.mul_le_mul (by have := HM.out; omega) (by have := HM.out; omega); omega); rw [hnc]; clear hco hso him ow bb hnc)
    | (go_at_call 21; (refine (in_any Ac lst nc cc HNC.out ?hnn o nm who _ HEL.out).mono ?_); (case hnn => exact HNB.out); rintro er w3 ⟨rfl, bb⟩; have B2 := hid (kept_trans B1.out B1.out.size bb); clear bb)
    | fail)
  all_goals
    go_wp2_with fail
    go_ret
    exact ⟨cs, _, HCN.out, rfl, by rw [decide_eq_true_iff]; exact HIM.out _, HQ1.out.trans (B2.out.mono HQ1.out.size)⟩
end Go.Proofs.YtoajckhnneagnaaDoor.Sh
namespace Go.Proofs.YtoajckhnneagnaaDoor.Sh
open Go Go.RowKit

set_option linter.unusedSimpArgs false
set_option linter.unusedVariables false
set_option maxHeartbeats 32000000 in
set_option maxRecDepth 100000 in
theorem chainAlone_walk (A : Option Addr) (l0 : List Crd) (n0 k : Nat) (hn0 : l0.length = n0) (hk0 : n0 ≤ k) (hk2 : k ≤ 9223372036854775807) (who o nm : ByteArray) (hwho : okB who) (ho : okB o) (hnm : okB nm) (w : World) (hb : Crs w w.heap.size A l0) :
    Calls Tryd.prog 7 #[.slice A n0 k, .string who, .agg #[.string o, .string nm]] w fun e w' => e = .returned (.bool true) ∧ Below w.heap.size w w' := by
  obtain ⟨w1, hw1⟩ : ∃ w1, w1 = w.alloc (.cells #[.string o, .string nm] 24) := ⟨_, rfl⟩
  obtain ⟨gp, hgp⟩ : ∃ g, w.heap.size = g := ⟨_, rfl⟩
  have HQ1 : Hid (Below w.heap.size w w1) := hid (by rw [hw1]; exact (Below.refl _ _).alloc (Nat.le_refl _) _)
  have HRO : Hid (RoleAt w1 gp o nm) := hid (by rw [hw1, ← hgp]; exact RoleAt.new w o nm)
  have HKR := hid (fun W (hW : Below w1.heap.size w1 W) => (⟨(HRO.out.kept hW).c0, (HRO.out.kept hW).c1⟩ : W.cell? ⟨gp, 0, none⟩ = some (.string o) ∧ W.cell? ⟨gp, 1, none⟩ = some (.string nm)))
  have HFE := hid (few8C_any A l0 n0 k hn0 hk0 hk2 w1 ((hb.below HQ1.out).more HQ1.out.size))
  have HOK : Hid (okB who ∧ okB o ∧ okB nm ∧ k ≤ 9223372036854775807) := hid ⟨hwho, ho, hnm, hk2⟩
  clear hb hn0 hk0 hk2 hwho ho hnm
  go_enter Tryd.func7, Tryd.ntmps7
  go_upto_region 1 with fail
  try rw [← hw1]
  try rw [hgp]
  clear hw1 hgp
  go_upto_region 2 with (go_at_call 8; (refine HFE.out.mono ?_); rintro er w2 ⟨n, rfl, l, hN, hm, hk, y0, rfl⟩; have HN : Hid (l.length = n ∧ n ≤ 9 ∧ n ≤ k) := hid ⟨hN, hm, hk⟩; have HY := hid (fun W (hW : Below w2.heap.size w2 W) => (y0.below hW).more hW.size); clear hN hm hk y0)
  obtain ⟨r0, r1⟩ := HKR.out _ (Below.refl _ _)
  have HLV := hid (fun W => lives8_any W)
  have HF1 := hid ((cFind_any A l n k HN.out.1 HN.out.2.2 HOK.out.2.2.2 (by have := HN.out; omega) who o nm HOK.out.1 HOK.out.2.1 HOK.out.2.2.1 w2 (HY.out _ (Below.refl _ _))).mono (R' := fun e w' => ∃ (T : PT) (E : Int), e = .returned (.tuple #[.agg T.cells.toArray, .int .i64 E]) ∧ PIn w' w'.heap.size T ∧ (E = 16 ∨ (E = 0 ∧ ∃ cs, CountsOf cs l ∧ Can cs T ∧ T.pr = ((o, nm), who) ∧ T.size ≤ 2097152)) ∧ Below w2.heap.size w2 w') fun e w' ⟨cs, h1, h2, h3⟩ => by
    rcases h2 with ⟨h5, h6⟩ | ⟨h5, T, h6, h7, h8, h9⟩
    · exact ⟨zeroT, 16, h6, pin_zero w', .inl rfl, h3⟩
    · exact ⟨T, 0, h6, h7, .inr ⟨rfl, cs, h1, h8, h9, h8.few (by have := counts_len h1; have := HN.out; omega)⟩, h3⟩)
  go_upto_region 3 with (go_at_call 9; (refine HF1.out.mono ?_); rintro er w3 ⟨⟨To, Tn, Tx, Td, Tq, TA, Tc, Tps⟩, E, rfl, hpi, hou, hb3⟩; have HP3 := hid hpi; have HOU := hid hou; have HB3 := hid hb3; simp only [PT.cells]; clear hpi hou hb3)
  obtain ⟨w4, hw4⟩ : ∃ x, x = w3.alloc (.cells #[.string To, .string Tn, .string Tx, .int .i64 Td, .int .i64 Tq, .slice TA Tps.length Tc] 30) := ⟨_, rfl⟩
  obtain ⟨g4, hg4⟩ : ∃ x, w3.heap.size = x := ⟨_, rfl⟩
  rw [← hw4]
  try rw [hg4]
  have HB34 : Hid (Below w3.heap.size w3 w4) := hid (by rw [hw4]; exact (Below.refl _ _).alloc (Nat.le_refl _) _)
  have HB4 : Hid (Below w2.heap.size w2 w4) := hid (HB3.out.trans (HB34.out.mono HB3.out.size))
  have HA4 : Hid (PrAt w4 g4 (.mk To Tn Tx Td Tq TA Tc Tps)) := hid (by rw [hw4, ← hg4]; exact PrAt.new w3 (.mk To Tn Tx Td Tq TA Tc Tps))
  have HP4 := hid (HP3.out.now HB34.out)
  clear hw4 hg4 r0 r1 HF1 HB3 HP3 HB34
  have HBQ : Hid (Below w.heap.size w w4) := hid (HQ1.out.trans (HB4.out.mono HQ1.out.size))
  rcases HOU.out with rfl | ⟨rfl, cs, hcs, hcan, hpr, hsz⟩
  · go_wp2_with (go_at_call 14; (refine (HLV.out _).mono ?_); rintro er w5 ⟨rfl, b5⟩)
    go_ret
    exact ⟨rfl, HBQ.out.trans (b5.mono HBQ.out.size)⟩
  · obtain ⟨T, hT⟩ : ∃ T, T = PT.mk To Tn Tx Td Tq TA Tc Tps := ⟨_, rfl⟩
    have HSU := hid (refSupportB_any _ w4 (by omega) HP4.out)
    rw [← hT] at hcan hpr hsz HSU
    have HAL := hid (alone8 hcs hcan)
    have HPR := hid hpr
    have HCS := hid hcs
    have HLC : Hid (cs.length ≤ 9) := hid (by have := counts_len hcs; have := HN.out; omega)
    obtain ⟨ss, hss⟩ : ∃ ss, onceI T.ids = ss := ⟨_, rfl⟩
    rw [hss] at HSU HAL
    have HND : Hid (ss.Nodup) := hid (by rw [← hss]; exact (onceI_all T.ids).1.nodup)
    obtain ⟨ns, hns⟩ : ∃ n, ss.length = n := ⟨_, rfl⟩
    rw [hns] at HSU HAL
    have HNS : Hid (ss.length = ns ∧ ns ≤ 9) := hid ⟨hns, by have := HAL.out.1; have h2 := inS8_le (ss := ss) (out := cs); have := HLC.out; omega⟩
    rw [hT] at HSU
    unfold PT.cells at HSU
    simp only at HSU
    clear hss hns hcs hcan hsz hpr HOU
    obtain ⟨a0, a1, a2, a3, a4, a5⟩ := HA4.out.all
    go_upto_region 6 with (go_at_call 24; (refine HSU.out.mono ?_); rintro er w5 ⟨A5, c5, rfl, ho5, b5⟩; have HO5 := hid ho5; have HB5 := hid b5; clear ho5 b5)
    have HB25 : Hid (Below w2.heap.size w2 w5) := hid (HB4.out.trans (HB5.out.mono HB4.out.size))
    have HCO := hid ((refCounts_any A l n k HN.out.1 (by have := HN.out; omega) w5 (HY.out _ HB25.out)).mono (R' := fun e w' => ∃ A' n' c', e = .returned (.slice A' n' c') ∧ OwnC w' w5.heap.size (.slice A' n' c') n' cs ∧ Below w5.heap.size w5 w') fun e w' ⟨A', n', c', out, g1, g2, g3, g4, g5⟩ => by
      obtain rfl := counts_one8 g4 HCS.out
      exact ⟨A', n', c', g1, g3, g5⟩)
    clear a0 a1 a2 a3 a4 a5
    go_upto_region 7 with (go_at_call 25; (refine HCO.out.mono ?_); rintro er w6 ⟨C, nc, cc, rfl, hoc, b6⟩; have HOC := hid hoc; have HB6 := hid b6; clear hoc b6)
    have HB26 : Hid (Below w2.heap.size w2 w6) := hid (HB25.out.trans (HB6.out.mono HB25.out.size))
    have HNC : Hid (cs.length = nc ∧ nc ≤ 9) := hid ⟨HOC.out.len, by have := HOC.out.len; have := HLC.out; omega⟩
    have HES := hid (fun W (hW : Below w6.heap.size w6 W) => ((own_els HO5.out).below (HB6.out.trans (hW.mono HB6.out.size))).more (Nat.le_trans HB6.out.size hW.size))
    have HEC := hid (fun W (hW : Below w6.heap.size w6 W) => (HOC.out.crs.below hW).more hW.size)
    have hc9 : nc ≤ 9 := HNC.out.2
    have hs9 : ns ≤ 9 := HNS.out.2
    go_wp2_with fail
    go_loopw [11, 12] (fun v11 v12 wr => ∃ (A3 : Option Addr) (m3 c3 i : Nat) (al : List Crd), v11 = .slice A3 m3 c3 ∧ v12 = .int .i64 (i : Int) ∧ i ≤ nc ∧ m3 ≤ i ∧ Hid (al = inS8 ss (cs.take i)) ∧ Hid (OwnC wr w6.heap.size (.slice A3 m3 c3) m3 al) ∧ Hid (Below w6.heap.size w6 wr)) (fun _ v12 _ => nc - (intOf v12).toNat)
    case atStart => exact ⟨none, 0, 0, 0, [], rfl, rfl, Nat.zero_le _, Nat.le_refl _, hid (by simp [inS8]), hid (OwnC.nil _ _), hid (Below.refl _ _)⟩
    case round =>
      obtain ⟨wi, hwi⟩ : ∃ x, x = wr := ⟨_, rfl⟩
      subst hwi
      obtain ⟨A3, m3, c3, i, al, rfl, rfl, hi, hmi, HAI, HOA, HBI⟩ := hrel
      have hi0 : (0 : Int) ≤ (i : Int) := Int.natCast_nonneg _
      by_cases hlt : i < nc
      · obtain ⟨⟨d, q, nn, kd, wh, ao, an, bo, bn⟩, hx⟩ : ∃ x, cs[i]? = some x := ⟨_, List.getElem?_eq_getElem (by rw [HNC.out.1]; exact hlt)⟩
        have HX := hid hx
        have hi1 : (i : Int) < (nc : Int) := by omega
        have HNX : Hid (inS8 ss (cs.take (i + 1)) = al ++ (if (d, q) ∈ ss then [⟨d, q, nn, kd, wh, ao, an, bo, bn⟩] else [])) := hid (by rw [take_snoc_of hx, inS8_snoc, ← HAI.out])
        obtain ⟨ad, aj, rfl, hab, ea, hbj, b0, b1, b2, b3, b4, b5, b6, b7, b8⟩ := (HEC.out _ (Below.refl _ _)).get hx
        simp only at b0 b1 b2 b3 b4 b5 b6 b7 b8
        have haj : aj.block < w6.heap.size := by rw [hbj]; exact hab
        have HKC := hid (fun W (hW : Below w6.heap.size w6 W) => (⟨(hW.cell (p := aj) haj).trans b0, (hW.cell (p := ⟨aj.block, aj.off + 1, none⟩) haj).trans b1, (hW.cell (p := ⟨aj.block, aj.off + 2, none⟩) haj).trans b2, (hW.cell (p := ⟨aj.block, aj.off + 3, none⟩) haj).trans b3, (hW.cell (p := ⟨aj.block, aj.off + 4, none⟩) haj).trans b4, (hW.cell (p := ⟨aj.block, aj.off + 5, none⟩) haj).trans b5, (hW.cell (p := ⟨aj.block, aj.off + 6, none⟩) haj).trans b6, (hW.cell (p := ⟨aj.block, aj.off + 7, none⟩) haj).trans b7, (hW.cell (p := ⟨aj.block, aj.off + 8, none⟩) haj).trans b8⟩ :
          W.cell? aj = some (.int .i64 d) ∧ W.cell? ⟨aj.block, aj.off + 1, none⟩ = some (.int .i64 q) ∧ W.cell? ⟨aj.block, aj.off + 2, none⟩ = some (.string nn) ∧ W.cell? ⟨aj.block, aj.off + 3, none⟩ = some (.int .i64 kd) ∧ W.cell? ⟨aj.block, aj.off + 4, none⟩ = some (.string wh) ∧ W.cell? ⟨aj.block, aj.off + 5, none⟩ = some (.string ao) ∧ W.cell? ⟨aj.block, aj.off + 6, none⟩ = some (.string an) ∧ W.cell? ⟨aj.block, aj.off + 7, none⟩ = some (.string bo) ∧ W.cell? ⟨aj.block, aj.off + 8, none⟩ = some (.string bn)))
        clear hx hab hbj b0 b1 b2 b3 b4 b5 b6 b7 b8
        go_wp2_with fail
        go_loopw [11, 13] (fun v11 v13 wr => ∃ (A7 : Option Addr) (m7 c7 k' : Nat) (al' : List Crd), v11 = .slice A7 m7 c7 ∧ v13 = .int .i64 (k' : Int) ∧ k' ≤ ns ∧ Hid (al' = al ++ (if (d, q) ∈ ss.take k' then [⟨d, q, nn, kd, wh, ao, an, bo, bn⟩] else [])) ∧ Hid (OwnC wr w6.heap.size (.slice A7 m7 c7) m7 al') ∧ Hid (Below w6.heap.size w6 wr)) (fun _ v13 _ => ns - (intOf v13).toNat)
        case atStart => exact ⟨A3, m3, c3, 0, al, rfl, rfl, Nat.zero_le _, hid (by simp), HOA, HBI⟩
        case round =>
          obtain ⟨wk, hwk⟩ : ∃ x, x = wr := ⟨_, rfl⟩
          subst hwk
          obtain ⟨A7, m7, c7, k', al', rfl, rfl, hk', HAK, HOK7, HBK⟩ := hrel
          have hk0 : (0 : Int) ≤ (k' : Int) := Int.natCast_nonneg _
          have HM7 : Hid (al'.length = m7) := hid HOK7.out.len
          have hm7 : m7 ≤ m3 + 1 := by
            have h1 := HM7.out
            have h2 := HOA.out.len
            rw [HAK.out, List.length_append] at h1
            split at h1 <;> simp at h1 <;> omega
          by_cases hlt2 : k' < ns
          · obtain ⟨⟨d', q'⟩, hy⟩ : ∃ x, ss[k']? = some x := ⟨_, List.getElem?_eq_getElem (by rw [HNS.out.1]; exact hlt2)⟩
            have HY2 := hid hy
            have hk1 : (k' : Int) < (ns : Int) := by omega
            have HTK : Hid (ss.take (k' + 1) = ss.take k' ++ [(d', q')]) := hid (take_snoc_of hy)
            obtain ⟨bd, bj, rfl, hbb, eb, hbbj, s0, si⟩ := (HES.out wk HBK.out).get hy
            have s0 := s0 _ rfl
            have s1 := si 1 _ (by omega) rfl
            have eb : bd.add (k' * 2) = bj := eb
            obtain ⟨b0, b1, b2, b3, b4, b5, b6, b7, b8⟩ := HKC.out wk HBK.out
            clear hy hbb hbbj si
            by_cases hdq : d = d' ∧ q = q'
            · obtain ⟨rfl, rfl⟩ := hdq
              have HNI : Hid ((d, q) ∉ ss.take k') := hid (fun hm => by
                have h1 : (ss.take (k' + 1)).Nodup := List.Nodup.sublist (List.take_sublist _ _) HND.out
                rw [HTK.out] at h1
                exact (List.nodup_append.1 h1).2.2 _ hm _ (by simp) rfl)
              have HNA : Hid (al' ++ [⟨d, q, nn, kd, wh, ao, an, bo, bn⟩] = al ++ (if (d, q) ∈ ss.take (k' + 1) then [⟨d, q, nn, kd, wh, ao, an, bo, bn⟩] else [])) := hid (by
                rw [HAK.out, if_neg HNI.out, if_pos (by rw [HTK.out]; simp), List.append_nil])
              go_wp2_with fail
              go_quiet (fail)
              go_upto_region 15 with fail
              clear b0 b1 b2 b3 b4 b5 b6 b7 b8 s0 s1
              obtain ⟨wq, hwq⟩ : ∃ x, x = wk.drewN nq := ⟨_, rfl⟩
              have HBQ2 : Hid (Below w6.heap.size w6 wq) := hid (by rw [hwq]; exact below_drewN HBK.out _)
              have HOQ2 : Hid (OwnC wq w6.heap.size (.slice A7 m7 c7) m7 al') := hid (by rw [hwq]; exact HOK7.out)
              rw [← hwq]
              clear hwq
              obtain ⟨b0, b1, b2, b3, b4, b5, b6, b7, b8⟩ := HKC.out wq HBQ2.out
              have HM12 : Hid (m7 + 1 ≤ 1000000000000) := hid (by omega)
              go_wp2_with (first | (at_builtin; refine wpList_appC rfl (.tmp 54) (.tmp 59) rfl w6.heap.size (.slice A7 m7 c7) m7 al' (OwnC.alloc HOQ2.out _) rfl (some ⟨wq.heap.size, 0, none⟩) 1 1 [⟨d, q, nn, kd, wh, ao, an, bo, bn⟩] rfl rfl (reads_cr wq _ _ _) HM12.out (le_alloc HBQ2.out.size _) w6 (HBQ2.out.alloc HBQ2.out.size _) (m7 + 1) rfl ?_; intro A9 c9 w9 o9 g9 x9 h9; have HO9 := hid o9; have HB9 := hid x9; clear o9 g9 x9 h9) | go_in)
              go_roundw
              case rel => exact ⟨A9, m7 + 1, c9, k' + 1, _, rfl, by go_num, by omega, HNA, HO9, HB9⟩
              case measure => simp [intOf]; omega
            · have HNA : Hid (al' = al ++ (if (d, q) ∈ ss.take (k' + 1) then [⟨d, q, nn, kd, wh, ao, an, bo, bn⟩] else [])) := hid (by
                rw [HAK.out, HTK.out]
                have e : ((d, q) ∈ ss.take k' ++ [(d', q')]) ↔ (d, q) ∈ ss.take k' := by
                  rw [List.mem_append, List.mem_singleton]
                  exact ⟨fun h => h.elim id fun h => absurd (Prod.mk.inj h) hdq, .inl⟩
                simp only [e])
              have hcase : (d ≠ d') ∨ (d = d' ∧ q ≠ q') := by
                by_cases e : d = d'
                · exact .inr ⟨e, fun e2 => hdq ⟨e, e2⟩⟩
                · exact .inl e
              clear hdq
              rcases hcase with hd | ⟨rfl, hq⟩
              · have y1 : (d == d') = false := beq_eq_false_iff_ne.2 hd
                have y2 : ¬ d = d' := hd
                clear hd
                go_wp2_with fail
                go_quiet (fail)
                go_wp2_with fail
                go_roundw
                case rel => exact ⟨A7, m7, c7, k' + 1, al', rfl, by go_num, by omega, HNA, HOK7, hid (below_drewN HBK.out _)⟩
                case measure => simp [intOf]; omega
              · have y1 : (q == q') = false := beq_eq_false_iff_ne.2 hq
                have y2 : ¬ q = q' := hq
                clear hq
                go_wp2_with fail
                go_quiet (fail)
                go_wp2_with fail
                go_roundw
                case rel => exact ⟨A7, m7, c7, k' + 1, al', rfl, by go_num, by omega, HNA, HOK7, hid (below_drewN HBK.out _)⟩
                case measure => simp [intOf]; omega
          · obtain rfl : k' = ns := by omega
            have hk1 : ¬ (k' : Int) < (k' : Int) := by omega
            have HFN : Hid (al' = inS8 ss (cs.take (i + 1))) := hid (by rw [HNX.out, HAK.out, List.take_of_length_le (by rw [HNS.out.1]; exact Nat.le_refl _)])
            go_wp2_with fail
            go_roundw
            case rel => exact ⟨A7, m7, c7, i + 1, al', rfl, by go_num, by omega, by omega, HFN, HOK7, HBK⟩
            case measure => simp [intOf]; omega
      · obtain rfl : i = nc := by omega
        have hi1 : ¬ (i : Int) < (i : Int) := by omega
        have HAE : Hid (al = inS8 ss cs) := hid (by rw [HAI.out, List.take_of_length_le (by rw [HNC.out.1]; exact Nat.le_refl _)])
        have HML : Hid (al.length = m3) := hid HOA.out.len
        have hmn : m3 = ns := by rw [← HML.out, HAE.out]; exact HAL.out.1
        subst hmn
        have hcap : m3 ≤ c3 ∧ c3 ≤ 9223372036854775807 := by
          obtain ⟨A2, c2, e, h1, h2⟩ := HOA.out.slice
          simp only [Value.slice.injEq] at e
          obtain ⟨_, _, rfl⟩ := e
          exact ⟨h1, h2⟩
        have HRN : Hid (∀ o2, CountsOf o2 al → rd o2 ((o, nm), who) ≠ 0) := hid (by rw [HAE.out, ← HPR.out]; exact HAL.out.2)
        have HCA := hid (fun W (hW : Below wi.heap.size wi W) => (HOA.out.crs.below hW).more hW.size)
        have HB2i : Hid (Below w2.heap.size w2 wi) := hid (HB26.out.trans (HBI.out.mono HB26.out.size))
        obtain ⟨r0, r1⟩ := HKR.out _ HB2i.out
        have HF2 := hid ((cFind_any A3 al m3 c3 HML.out hcap.1 hcap.2 (by omega) who o nm HOK.out.1 HOK.out.2.1 HOK.out.2.2.1 wi (HCA.out _ (Below.refl _ _))).mono (R' := fun e w' => ∃ (T : PT), e = .returned (.tuple #[.agg T.cells.toArray, .int .i64 0]) ∧ PIn w' w'.heap.size T ∧ (∃ o2, CountsOf o2 al ∧ Can o2 T) ∧ Below wi.heap.size wi w') fun e w' ⟨o2, h1, h2, h3⟩ => by
          rcases h2 with ⟨h5, -⟩ | ⟨-, T2, h6, h7, h8, -⟩
          · exact absurd h5 (HRN.out o2 h1)
          · exact ⟨T2, h6, h7, ⟨o2, h1, h8⟩, h3⟩)
        go_upto_region 17 with (go_at_call 9; (refine HF2.out.mono ?_); rintro er w7 ⟨⟨So, Sn, Sx, Sd, Sq, SA, Sc, Sps⟩, rfl, hpi, hex, hb7⟩; have HP7 := hid hpi; have HEX := hid hex; have HB7 := hid hb7; simp only [PT.cells]; clear hpi hex hb7)
        obtain ⟨w8, hw8⟩ : ∃ x, x = w7.alloc (.cells #[.string So, .string Sn, .string Sx, .int .i64 Sd, .int .i64 Sq, .slice SA Sps.length Sc] 30) := ⟨_, rfl⟩
        obtain ⟨g8, hg8⟩ : ∃ x, w7.heap.size = x := ⟨_, rfl⟩
        rw [← hw8]
        try rw [hg8]
        have HB78 : Hid (Below w7.heap.size w7 w8) := hid (by rw [hw8]; exact (Below.refl _ _).alloc (Nat.le_refl _) _)
        have HB8 : Hid (Below wi.heap.size wi w8) := hid (HB7.out.trans (HB78.out.mono HB7.out.size))
        have HA8 : Hid (PrAt w8 g8 (.mk So Sn Sx Sd Sq SA Sc Sps)) := hid (by rw [hw8, ← hg8]; exact PrAt.new w7 (.mk So Sn Sx Sd Sq SA Sc Sps))
        have HP8 := hid (HP7.out.now HB78.out)
        have HCK := hid ((refCheck_any A3 al m3 c3 HML.out (by omega) (.mk So Sn Sx Sd Sq SA Sc Sps) w8 (HCA.out w8 HB8.out) HP8.out).mono (R' := fun e w' => e = .returned (.int .i64 0) ∧ Below w8.heap.size w8 w') fun e w' ⟨out, g1, g2, g3⟩ => by
          obtain ⟨o2, h1, h2⟩ := HEX.out
          obtain rfl := counts_one8 g1 h1
          exact ⟨by rw [g2, dc_iff.2 h2.cor]; rfl, g3⟩)
        have HHS := hid (fun W (hW : Below wi.heap.size wi W) => (refHas_any A3 al m3 c3 HML.out (by omega) o nm who W (HCA.out W hW)).mono (R' := fun e w' => e = .returned (.bool true) ∧ Below W.heap.size W w') fun e w' ⟨out, b, g1, g2, g3, g4⟩ => ⟨by rw [g2, g3.2 (rd_imp.1 (HRN.out out g1))], g4⟩)
        unfold PT.cells at HCK
        simp only at HCK
        clear hw8 hg8 r0 r1
        obtain ⟨t0, t1, t2, t3, t4, t5⟩ := HA8.out.all
        obtain ⟨r0, r1⟩ := HKR.out _ (HB2i.out.trans (HB8.out.mono HB2i.out.size))
        go_wp2_with (first
          | (go_at_call 19; (refine HCK.out.mono ?_); rintro er w9 ⟨rfl, b9⟩; have HB9 := hid (HB8.out.trans (b9.mono HB8.out.size)); clear b9; clear r0 r1; (obtain ⟨r0, r1⟩ := HKR.out _ (HB2i.out.trans (HB9.out.mono HB2i.out.size))))
          | (go_at_call 26; (refine (HHS.out _ HB9.out).mono ?_); rintro er w10 ⟨rfl, b10⟩; have HB10 := hid (HB9.out.trans (b10.mono HB9.out.size)); clear b10)
          | (go_at_call 14; (refine (HLV.out _).mono ?_); rintro er w11 ⟨rfl, b11⟩; have HB11 := hid (HB10.out.trans (b11.mono HB10.out.size)); clear b11))
        go_ret
        exact ⟨rfl, HQ1.out.trans ((HB2i.out.trans (HB11.out.mono HB2i.out.size)).mono HQ1.out.size)⟩
end Go.Proofs.YtoajckhnneagnaaDoor.Sh
