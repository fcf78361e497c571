/-
  The document's own Check, by contract.
-/
import Derived.Test.YtoajckhnneagnaaDoorJd41
import Derived.Test.YtoajckhnneagnaaDoorJd38
import Derived.Test.YtoajckhnneagnaaDoorJd22
import Derived.Test.YtoajckhnneagnaaDoorJd40
import Derived.Test.YtoajckhnneagnaaDoorJd23
import Derived.Test.YtoajckhnneagnaaDoorJd37
import Derived.Test.YtoajckhnneagnaaDoorJd5
set_option linter.unusedVariables false
set_option linter.unusedSimpArgs false
namespace Go.Proofs.YtoajckhnneagnaaDoor.Sh
open Go Go.RowKit

set_option linter.unusedVariables false
set_option linter.unusedSimpArgs false

theorem of_self {cs : List Crd} {p : PT} : OfP cs p p.pr ↔ Cor cs p := ⟨fun h => h.2, fun h => ⟨rfl, h⟩⟩
set_option maxHeartbeats 4000000 in
set_option maxRecDepth 100000 in
theorem refCheck_any (A : Option Addr) (all : List Crd) (n c : Nat) (hn : all.length = n) (hm : n ≤ 1000) (p : PT) (w : World) (h : Crs w w.heap.size A all) (hp : PIn w w.heap.size p) :
    Calls Tryd.prog 19 #[.slice A n c, .agg p.cells.toArray] w fun e w' => ∃ out, CountsOf out all ∧ e = .returned (.int .i64 (bif dc (Cor out p) then 0 else 15)) ∧ Below w.heap.size w w' := by
  obtain ⟨o, n', x, d, q, A', cp, ps⟩ := p
  obtain ⟨w1, hw1⟩ : ∃ w1, w1 = w.alloc (.cells (PT.mk o n' x d q A' cp ps).cells.toArray 30) := ⟨_, rfl⟩
  have HQ1 : Hid (Below w.heap.size w w1) := hid (by rw [hw1]; exact below_pr w _)
  have HPA : Hid (PrAt w1 w.heap.size (.mk o n' x d q A' cp ps)) := hid (by rw [hw1]; exact PrAt.new w _)
  have HCO := hid (fun W (hW : Below w1.heap.size w1 W) => refCounts_any A all n c hn (by omega) W ((h.below (HQ1.out.trans (hW.mono HQ1.out.size))).more (Nat.le_trans HQ1.out.size hW.size)))
  have HPI := hid (fun W (hW : Below w1.heap.size w1 W) => hp.now (HQ1.out.trans (hW.mono HQ1.out.size)))
  have HM : Hid (n ≤ 1000) := hid hm
  obtain ⟨np, hnp⟩ : ∃ np, ps.length = np := ⟨_, rfl⟩
  have HNP := hid hnp
  have HPA5 := hid (fun W (hW : Below w1.heap.size w1 W) => (HPA.out.kept hW).all)
  rw [hnp] at HPA5
  have HD := hid (Below.refl w1.heap.size w1).drew
  unfold PT.cells at hw1 ⊢
  simp only [hnp] at hw1 ⊢
  clear h hp hn hnp hm
  go_enter Tryd.func19, Tryd.ntmps19
  go_wp2_with fail
  rw [← hw1]
  clear hw1
  go_region_held3 (fun W => W.cell? ⟨w.heap.size, 0, none⟩ = some (.string o) ∧ W.cell? ⟨w.heap.size, 1, none⟩ = some (.string n') ∧ W.cell? ⟨w.heap.size, 2, none⟩ = some (.string x) ∧ W.cell? ⟨w.heap.size, 3, none⟩ = some (.int .i64 d) ∧ W.cell? ⟨w.heap.size, 4, none⟩ = some (.int .i64 q) ∧ W.cell? ⟨w.heap.size, 5, none⟩ = some (.slice A' np cp))
    (first | exact HPA5.out _ B2.out | exact HPA5.out _ B1.out | exact HPA5.out _ HD.out | go_keep) (first
    | (go_at_call 25; (refine (HCO.out _ HD.out).mono ?_); rintro er w2 ⟨Ac, nc, cc, cs, rfl, hnc, oc, hco, bb⟩; have B1 := hid (kept_trans HD.out HD.out.size bb); have HCN := hid hco; have HCR := hid oc.crs; have HCL := hid oc.len; have HLE := hid hnc;
        have HOF := hid (of_any cs (fun c hc => (counts_mem hco hc).1) (counts_onceI hco) Ac nc cc oc.len (by have := HM.out; omega) (.mk o n' x d q A' cp ps) o n' x); unfold PT.cells at HOF; simp only [HNP.out] at HOF; (obtain ⟨T, hT⟩ : ∃ T, dc (OfP cs (.mk o n' x d q A' cp ps) ((o, n'), x)) = T := ⟨_, rfl⟩); have HT : Hid (dc (Cor cs (.mk o n' x d q A' cp ps)) = T) := hid (by rw [← hT]; unfold dc; exact decide_eq_decide.2 of_self.symm); rw [hT] at HOF; clear hT bb hco oc hnc)
    | (go_at_call 36; (refine (HOF.out _ HCR.out (HPI.out _ B1.out)).mono ?_); rintro er w3 ⟨rfl, bb⟩; have B2 := hid (kept_trans B1.out B1.out.size bb); clear bb)
    | fail)
  all_goals
    cases T <;>
    · go_wp2_with fail
      go_ret
      exact ⟨cs, HCN.out, by rw [HT.out]; rfl, HQ1.out.trans (B2.out.mono HQ1.out.size)⟩
end Go.Proofs.YtoajckhnneagnaaDoor.Sh
namespace Go.Proofs.YtoajckhnneagnaaDoor.Sh
open Go Go.RowKit

set_option linter.unusedSimpArgs false
set_option linter.unusedVariables false
theorem imp_ok8 {l : List Crd} (hm : ∀ c ∈ l, mayC c = true) {p : Pr} (h : Imp (· ∈ l) p) : okP p := by
  obtain ⟨c, hc, e⟩ := imp_role h
  obtain ⟨c', hc', _, e'⟩ := imp_who h
  have h1 := okC_of (hm c hc)
  have h2 := okC_of (hm c' hc')
  refine ⟨?_, by rw [← e']; exact h2.2.1⟩
  rw [← e]
  exact ⟨ok_dom _, h1.1⟩
set_option maxHeartbeats 8000000 in
set_option maxRecDepth 100000 in
theorem chainComplete_walk (hlv : ∀ w, Calls Tryd.prog 14 #[] w fun e w' => e = .returned (.bool true) ∧ Below w.heap.size w w')
    (A : Option Addr) (l0 : List Crd) (n0 k : Nat) (hn0 : l0.length = n0) (hk0 : n0 ≤ k) (hk2 : k ≤ 9223372036854775807) (who o nm : ByteArray) (hwho : okB who) (ho : okB o) (hnm : okB nm) (w : World) (hb : Crs w w.heap.size A l0) :
    Calls Tryd.prog 5 #[.slice A n0 k, .string who, .agg #[.string o, .string nm]] w fun e w' => e = .returned (.bool true) ∧ Below w.heap.size w w' := by
  obtain ⟨w1, hw1⟩ : ∃ w1, w1 = w.alloc (.cells #[.string o, .string nm] 24) := ⟨_, rfl⟩
  obtain ⟨gp, hgp⟩ : ∃ g, w.heap.size = g := ⟨_, rfl⟩
  have HQ1 : Hid (Below w.heap.size w w1) := hid (by rw [hw1]; exact (Below.refl _ _).alloc (Nat.le_refl _) _)
  have HRO : Hid (RoleAt w1 gp o nm) := hid (by rw [hw1, ← hgp]; exact RoleAt.new w o nm)
  have HKR := hid (fun W (hW : Below w1.heap.size w1 W) => (⟨(HRO.out.kept hW).c0, (HRO.out.kept hW).c1⟩ : W.cell? ⟨gp, 0, none⟩ = some (.string o) ∧ W.cell? ⟨gp, 1, none⟩ = some (.string nm)))
  have HOK : Hid (okB who ∧ okB o ∧ okB nm ∧ k ≤ 9223372036854775807) := hid ⟨hwho, ho, hnm, hk2⟩
  have HLV := hid hlv
  have HY0 := hid (fun W (hW : Below w1.heap.size w1 W) => (hb.below (HQ1.out.trans (hW.mono HQ1.out.size))).more (Nat.le_trans HQ1.out.size hW.size))
  obtain ⟨l, n, hN, hm, hk, hcase, HY⟩ : ∃ (l : List Crd) (n : Nat), l.length = n ∧ n ≤ 12 ∧ n ≤ k ∧ ((12 < n0 ∧ n = 12) ∨ (n0 ≤ 12 ∧ n = n0)) ∧ Hid (∀ W, Below w1.heap.size w1 W → Crs W W.heap.size A l) := by
    by_cases h12 : 12 < n0
    · exact ⟨l0.take 12, 12, by rw [List.length_take]; omega, Nat.le_refl _, by omega, .inl ⟨h12, rfl⟩, hid (fun W hW => (HY0.out W hW).head (hi := 12))⟩
    · exact ⟨l0, n0, hn0, by omega, hk0, .inr ⟨by omega, rfl⟩, HY0⟩
  have HN : Hid (l.length = n ∧ n ≤ 12 ∧ n ≤ k) := hid ⟨hN, hm, hk⟩
  have HAL := hid (refAll_any A l n k hN (by omega) w1 (HY.out _ (Below.refl _ _)))
  clear hb hn0 hk2 hwho ho hnm hlv HY0 hN hm
  go_enter Tryd.func5, Tryd.ntmps5
  go_upto_region 1 with fail
  rw [← hw1]
  try rw [hgp]
  clear hw1 hgp
  rcases hcase with ⟨h12, rfl⟩ | ⟨h12, rfl⟩
  all_goals
    first | (have h12i : (12 : Int) < (n0 : Int) := by omega) | (have h12i : ¬ (12 : Int) < (n : Int) := by omega)
    go_upto_region 3 with fail
    clear h12i
    go_upto_region 4 with (go_at_call 18; go_loud ((refine HAL.out.mono ?_); rintro er w2 ⟨cs, AL, cL, lst, hco, rfl, hso, him, hown, hb2⟩; have HCN := hid (cnt8_of hco); have HMY : Hid (∀ c ∈ cs, mayC c = true) := hid (fun c hc => (counts_mem hco hc).1); have HLL : Hid (lst.length ≤ 1000000) := hid (by have h1 := nodup_length hso.nodup (fun p hp => imp_uni ((him p).1 hp)); rw [uni_length] at h1; have h2 := counts_len hco; have h3 : cs.length * cs.length ≤ 12 * 12 := Nat.mul_le_mul (by have := HN.out; omega) (by have := HN.out; omega); omega); have HIM := hid him; have HEL := hid (own_els hown); have HB2 := hid hb2; (obtain ⟨L, hL⟩ : ∃ L, lst.length = L := ⟨_, rfl⟩); have HL := hid hL; rw [hL] at HLL ⊢; clear hco hso him hown hb2 hL))
    go_upto_region 5 with fail
    go_loopw [8] (fun v8 wr => ∃ j : Nat, v8 = .int .i64 (j : Int) ∧ j ≤ L ∧ Hid (Below w2.heap.size w2 wr)) (fun v8 _ => L - (intOf v8).toNat)
    case atStart => exact ⟨0, rfl, Nat.zero_le _, hid (Below.refl _ _)⟩
    case round =>
      obtain ⟨j, rfl, hj, HB3⟩ := hrel
      by_cases hlt : j < L
      · obtain ⟨⟨⟨po, pn⟩, px⟩, hx⟩ : ∃ x, lst[j]? = some x := ⟨_, List.getElem?_eq_getElem (by rw [HL.out]; exact hlt)⟩
        have hme := List.mem_of_getElem? hx
        have HLT := hid hlt
        have hok := imp_ok8 HMY.out ((HIM.out _).1 hme)
        have HRDN : Hid (rd (cnt8 l) ((po, pn), px) ≠ 0) := hid (by rw [HCN.out]; exact rd_imp.2 ((HIM.out _).1 hme))
        obtain ⟨ad, aj, rfl, hab, ea, hbj, a0, ai⟩ := (HEL.out.below HB3.out).get hx
        have a0 := a0 _ rfl
        have a1 := ai 1 _ (by decide) rfl
        have a2 := ai 2 _ (by decide) rfl
        have ea : ad.add (j * 3) = aj := ea
        have hj0 : (0 : Int) ≤ (j : Int) := Int.natCast_nonneg _
        have hj1 : (j : Int) < (L : Int) := by omega
        have hL6 : L ≤ 1000000 := HLL.out
        have haj : aj.block < wr.heap.size := by have := HB3.out.size; omega
        have HKX := hid (fun W (hW : Below wr.heap.size wr W) => (⟨(hW.cell (p := aj) haj).trans a0, (hW.cell (p := ⟨aj.block, aj.off + 1, none⟩) haj).trans a1, (hW.cell (p := ⟨aj.block, aj.off + 2, none⟩) haj).trans a2⟩ : W.cell? aj = some (.string po) ∧ W.cell? ⟨aj.block, aj.off + 1, none⟩ = some (.string pn) ∧ W.cell? ⟨aj.block, aj.off + 2, none⟩ = some (.string px)))
        have HB13 : Hid (Below w1.heap.size w1 wr) := hid (HB2.out.trans (HB3.out.mono HB2.out.size))
        have HYR := hid (fun W (hW : Below wr.heap.size wr W) => HY.out W (HB13.out.trans (hW.mono HB13.out.size)))
        have HF := hid (fun W (hW : Below wr.heap.size wr W) => (cFindW_any A l _ k HN.out.1 HN.out.2.2 HOK.out.2.2.2 (by have := HN.out; omega) px po pn hok.2 hok.1.1 hok.1.2 W (HYR.out W hW)).mono (R' := fun e w' => ∃ V : Array Value, e = .returned (.tuple #[.agg V, .int .i64 0]) ∧ (∀ W2 : World, w'.heap.size ≤ W2.heap.size → (∀ b, W.heap.size ≤ b → b < w'.heap.size → W2.heap[b]? = w'.heap[b]?) → ∃ T : PT, V = T.cells.toArray ∧ PIn W2 W2.heap.size T ∧ Can (cnt8 l) T ∧ T.pr = ((po, pn), px)) ∧ Below W.heap.size W w') fun e w' ⟨cs2, g1, g2, g3⟩ => by
          rcases g2 with ⟨g4, -⟩ | ⟨-, V, g5, g6⟩
          · exact absurd (by rw [cnt8_of g1]; exact g4) HRDN.out
          · exact ⟨V, g5, by rw [cnt8_of g1]; exact g6, g3⟩)
        have HDZ : Hid (Below wr.heap.size wr (wr.alloc (.cells #[.string ⟨#[]⟩, .string ⟨#[]⟩, .string ⟨#[]⟩, .int .i64 0, .int .i64 0, .slice none 0 0] 30)).drew) := hid ((Below.refl wr.heap.size wr).alloc (Nat.le_refl _) _).drew
        have HZN : Hid ((wr.alloc (.cells #[.string ⟨#[]⟩, .string ⟨#[]⟩, .string ⟨#[]⟩, .int .i64 0, .int .i64 0, .slice none 0 0] 30)).drew.heap[wr.heap.size]? = some (.cells #[.string ⟨#[]⟩, .string ⟨#[]⟩, .string ⟨#[]⟩, .int .i64 0, .int .i64 0, .slice none 0 0] 30 (0, 0))) := hid (heap_alloc_new wr _)
        have HZS : Hid ((wr.alloc (.cells #[.string ⟨#[]⟩, .string ⟨#[]⟩, .string ⟨#[]⟩, .int .i64 0, .int .i64 0, .slice none 0 0] 30)).drew.heap.size = wr.heap.size + 1) := hid (by simp)
        have HCK := hid (fun (T : PT) (hT : Cor (cnt8 l) T) W (hW : Below wr.heap.size wr W) (hp : PIn W W.heap.size T) => (check_any A l _ k HN.out.1 HN.out.2.2 HOK.out.2.2.2 (by have := HN.out; omega) T W (HYR.out W hW) hp).mono (R' := fun e w' => e = .returned (.int .i64 0) ∧ Below W.heap.size W w') fun e w' ⟨out, g1, g2, g3⟩ => ⟨by
          have h1 : dc (Cor out T) = true := @decide_eq_true _ (Classical.propDecidable _) (by rw [← cnt8_of g1]; exact hT)
          rw [g2, h1]; rfl, g3⟩)
        have HRC := hid (fun (T : PT) (hT : Cor (cnt8 l) T) W (hW : Below wr.heap.size wr W) (hp : PIn W W.heap.size T) => (refCheck_any (c := k) A l _ HN.out.1 (by have := HN.out; omega) T W (HYR.out W hW) hp).mono (R' := fun e w' => e = .returned (.int .i64 0) ∧ Below W.heap.size W w') fun e w' ⟨out, g1, g2, g3⟩ => ⟨by
          have h1 : dc (Cor out T) = true := @decide_eq_true _ (Classical.propDecidable _) (by rw [← cnt8_of g1]; exact hT)
          rw [g2, h1]; rfl, g3⟩)
        have HDD : Hid (Below wr.heap.size wr wr.drew) := hid (Below.refl wr.heap.size wr).drew
        clear hx hme hok hab hbj haj a0 a1 a2 ai
        go_upto_region 7 with fail
        go_region_held3 (fun W => W.cell? aj = some (.string po) ∧ W.cell? ⟨aj.block, aj.off + 1, none⟩ = some (.string pn) ∧ W.cell? ⟨aj.block, aj.off + 2, none⟩ = some (.string px))
          (exact HKX.out _ (by repeat (first | with_reducible exact HDD.out | with_reducible exact HDZ.out | with_reducible exact BC.out | with_reducible refine Below.drew ?_ | with_reducible refine Below.alloc ?_ (by first | exact Nat.le_refl _ | (have := BC.out.size; omega)) _ | with_reducible refine Below.setCell ?_ (by first | exact Nat.le_refl _ | (simp only; omega)) _)))
          ((first | (go_at_call 9; first
            | ((refine (HF.out _ HDD.out).mono ?_); rintro er w4 ⟨V, rfl, hV, b4⟩; (obtain ⟨⟨To, Tn, Tx, Td, Tq, TA, Tc, Tps⟩, rfl, -, -, hpr⟩ := hV w4 (Nat.le_refl _) (fun b _ _ => rfl)); have BC : Hid (Below wr.heap.size wr w4) := hid (HDD.out.trans b4); have HV := hid hV; have HPR := hid hpr; simp only [PT.cells]; clear hV hpr b4)
            | ((refine (HF.out _ HDZ.out).mono ?_); rintro er w4 ⟨V, rfl, hV, b4⟩; (obtain ⟨⟨To, Tn, Tx, Td, Tq, TA, Tc, Tps⟩, rfl, -, -, hpr⟩ := hV w4 (Nat.le_refl _) (fun b _ _ => rfl)); have BC : Hid (Below wr.heap.size wr w4) := hid (HDZ.out.trans (b4.mono HDZ.out.size)); have HZ4 : Hid (w4.heap[wr.heap.size]? = some (.cells #[.string ⟨#[]⟩, .string ⟨#[]⟩, .string ⟨#[]⟩, .int .i64 0, .int .i64 0, .slice none 0 0] 30 (0, 0))) := hid ((b4.block wr.heap.size (by have := HZS.out; omega)).trans HZN.out); have HV := hid hV; have HPR := hid hpr; simp only [PT.cells]; have z0 : w4.cell? ⟨wr.heap.size, 0, none⟩ = some (.string ⟨#[]⟩) := (by rw [cell_of_row w4 wr.heap.size 0 _ _ (0, 0) HZ4.out]; rfl); have z1 : w4.cell? ⟨wr.heap.size, 1, none⟩ = some (.string ⟨#[]⟩) := (by rw [cell_of_row w4 wr.heap.size 1 _ _ (0, 0) HZ4.out]; rfl); have z2 : w4.cell? ⟨wr.heap.size, 2, none⟩ = some (.string ⟨#[]⟩) := (by rw [cell_of_row w4 wr.heap.size 2 _ _ (0, 0) HZ4.out]; rfl); have z3 : w4.cell? ⟨wr.heap.size, 3, none⟩ = some (.int .i64 0) := (by rw [cell_of_row w4 wr.heap.size 3 _ _ (0, 0) HZ4.out]; rfl); have z4 : w4.cell? ⟨wr.heap.size, 4, none⟩ = some (.int .i64 0) := (by rw [cell_of_row w4 wr.heap.size 4 _ _ (0, 0) HZ4.out]; rfl); have z5 : w4.cell? ⟨wr.heap.size, 5, none⟩ = some (.slice none 0 0) := (by rw [cell_of_row w4 wr.heap.size 5 _ _ (0, 0) HZ4.out]; rfl); have y0 := frozen_of_row w4 wr.heap.size 0 _ _ HZ4.out; have y1 := frozen_of_row w4 wr.heap.size 1 _ _ HZ4.out; have y2 := frozen_of_row w4 wr.heap.size 2 _ _ HZ4.out; have y3 := frozen_of_row w4 wr.heap.size 3 _ _ HZ4.out; have y4 := frozen_of_row w4 wr.heap.size 4 _ _ HZ4.out; have y5 := frozen_of_row w4 wr.heap.size 5 _ _ HZ4.out; clear hV hpr b4))))
        all_goals
          first
          | (obtain ⟨w5, hw5⟩ : ∃ x, x = w4.alloc (.cells #[.string To, .string Tn, .string Tx, .int .i64 Td, .int .i64 Tq, .slice TA Tps.length Tc] 30) := ⟨_, rfl⟩
             obtain ⟨g5, hg5⟩ : ∃ x, w4.heap.size = x := ⟨_, rfl⟩
             rw [← hw5]
             rw [hg5]
             have HA5 : Hid (w5.heap[g5]? = some (.cells #[.string To, .string Tn, .string Tx, .int .i64 Td, .int .i64 Tq, .slice TA Tps.length Tc] 30 (0, 0))) := hid (by rw [hw5, ← hg5]; exact heap_alloc_new w4 _)
             have HB5 : Hid (Below wr.heap.size wr w5) := hid (by rw [hw5]; exact BC.out.alloc BC.out.size _)
             have HFT := hid (HV.out w5 (by rw [hw5]; simp) (fun b h1 h2 => by rw [hw5]; exact ((Below.refl w4.heap.size w4).alloc (Nat.le_refl _) _).block b h2)))
          | (obtain ⟨w5, hw5⟩ : ∃ x, x = ((((((w4.setCell ⟨wr.heap.size, 0, none⟩ (.string To)).setCell ⟨wr.heap.size, 1, none⟩ (.string Tn)).setCell ⟨wr.heap.size, 2, none⟩ (.string Tx)).setCell ⟨wr.heap.size, 3, none⟩ (.int .i64 Td)).setCell ⟨wr.heap.size, 4, none⟩ (.int .i64 Tq)).setCell ⟨wr.heap.size, 5, none⟩ (.slice TA Tps.length Tc)) := ⟨_, rfl⟩
             obtain ⟨g5, hg5⟩ : ∃ x, wr.heap.size = x := ⟨_, rfl⟩
             rw [← hw5]
             rw [hg5]
             have HA5 : Hid (w5.heap[g5]? = some (.cells #[.string To, .string Tn, .string Tx, .int .i64 Td, .int .i64 Tq, .slice TA Tps.length Tc] 30 (0, 0))) := hid (by rw [hw5, ← hg5]; exact set_six HZ4.out)
             have HB5 : Hid (Below wr.heap.size wr w5) := hid (by rw [hw5]; exact BC.out.trans (six_below (k6 := 0) (Nat.le_refl _) _ _ _ _ _ _))
             have HFT := hid (HV.out w5 (by rw [hw5]; simp) (fun b h1 h2 => by
               have hb : b ≠ wr.heap.size := by have := HZS.out; omega
               rw [hw5, Below.heap_setCell _ _ _ _ hb, Below.heap_setCell _ _ _ _ hb, Below.heap_setCell _ _ _ _ hb, Below.heap_setCell _ _ _ _ hb, Below.heap_setCell _ _ _ _ hb, Below.heap_setCell _ _ _ _ hb])))
          obtain ⟨T', heT, hpi, hcan, -⟩ := HFT.out
          have hpe := HPR.out
          simp only [PT.pr, PT.o, PT.n, PT.x, Prod.mk.injEq] at hpe
          have HC1 := hid (fun W (hW : Below w5.heap.size w5 W) => HCK.out T' hcan.cor W (HB5.out.trans (hW.mono HB5.out.size)) (hpi.now hW))
          have HC2 := hid (fun W (hW : Below w5.heap.size w5 W) => HRC.out T' hcan.cor W (HB5.out.trans (hW.mono HB5.out.size)) (hpi.now hW))
          rw [← heT] at HC1 HC2
          try simp only [PT.cells] at HC1 HC2
          have HK5 := hid (fun W (hW : Below w5.heap.size w5 W) => HKX.out W (HB5.out.trans (hW.mono HB5.out.size)))
          have HR5 := hid (fun W (hW : Below w5.heap.size w5 W) => (hW.block g5 (Array.getElem?_eq_some_iff.1 HA5.out).1).trans HA5.out)
          clear HCK HRC heT hcan hpi
          obtain ⟨⟨rfl, rfl⟩, rfl⟩ := hpe
          have k0 := fun x : Wn w5.heap.size w5 => (HK5.out x.1 x.2).1
          have k1 := fun x : Wn w5.heap.size w5 => (HK5.out x.1 x.2).2.1
          have k2 := fun x : Wn w5.heap.size w5 => (HK5.out x.1 x.2).2.2
          have c0 := fun x : Wn w5.heap.size w5 => show x.1.cell? ⟨g5, 0, none⟩ = some (.string To) by rw [cell_of_row x.1 g5 0 _ _ (0, 0) (HR5.out x.1 x.2)]; rfl
          have c1 := fun x : Wn w5.heap.size w5 => show x.1.cell? ⟨g5, 1, none⟩ = some (.string Tn) by rw [cell_of_row x.1 g5 1 _ _ (0, 0) (HR5.out x.1 x.2)]; rfl
          have c2 := fun x : Wn w5.heap.size w5 => show x.1.cell? ⟨g5, 2, none⟩ = some (.string Tx) by rw [cell_of_row x.1 g5 2 _ _ (0, 0) (HR5.out x.1 x.2)]; rfl
          have c3 := fun x : Wn w5.heap.size w5 => show x.1.cell? ⟨g5, 3, none⟩ = some (.int .i64 Td) by rw [cell_of_row x.1 g5 3 _ _ (0, 0) (HR5.out x.1 x.2)]; rfl
          have c4 := fun x : Wn w5.heap.size w5 => show x.1.cell? ⟨g5, 4, none⟩ = some (.int .i64 Tq) by rw [cell_of_row x.1 g5 4 _ _ (0, 0) (HR5.out x.1 x.2)]; rfl
          have c5 := fun x : Wn w5.heap.size w5 => show x.1.cell? ⟨g5, 5, none⟩ = some (.slice TA Tps.length Tc) by rw [cell_of_row x.1 g5 5 _ _ (0, 0) (HR5.out x.1 x.2)]; rfl
          have HDR := hid (Below.refl w5.heap.size w5).drew
          go_upto_region 8 with fail
          refine region_in w5.heap.size w5 (by kernel_rfl) (by kernel_rfl) HDR.out ?_
          repeat (go_big_quiet_step (first
            | (go_at_call 19; with_reducible exact call_in2 (Nat.le_refl _) HC2.out)
            | (go_at_call 20; with_reducible exact call_in2 (Nat.le_refl _) HC1.out)))
          refine wpQuiet_nil ?_
          intro wq hwq
          have HWQ := hid hwq
          clear hwq k0 k1 k2 c0 c1 c2 c3 c4 c5
          go_wp2_with fail
          go_roundw
          case rel => exact ⟨j + 1, by go_num, by have := HLT.out; omega, hid (HB3.out.trans ((HB5.out.trans (HWQ.out.mono HB5.out.size)).mono HB3.out.size))⟩
          case measure => (have := HLT.out; simp [intOf]; omega)
      · obtain rfl : j = L := by omega
        have HB13 : Hid (Below w1.heap.size w1 wr) := hid (HB2.out.trans (HB3.out.mono HB2.out.size))
        have HF := hid (cFindU A l _ k HN.out.1 HN.out.2.2 HOK.out.2.2.2 (by have := HN.out; omega) who o nm HOK.out.1 HOK.out.2.1 HOK.out.2.2.1 wr (HY.out _ HB13.out))
        obtain ⟨r0, r1⟩ := HKR.out _ HB13.out
        go_upto_region 11 with (go_at_call 9; (refine HF.out.mono ?_); rintro er w4 ⟨⟨So, Sn, Sx, Sd, Sq, SA, Sc, Sps⟩, E, rfl, hpi, hou, b4⟩; have HOU := hid hou; have HB4 := hid b4; simp only [PT.cells]; clear hpi hou b4)
        obtain ⟨w5, hw5⟩ : ∃ x, x = w4.alloc (.cells #[.string So, .string Sn, .string Sx, .int .i64 Sd, .int .i64 Sq, .slice SA Sps.length Sc] 30) := ⟨_, rfl⟩
        try rw [← hw5]
        have HB5 : Hid (Below wr.heap.size wr w5) := hid (by rw [hw5]; exact HB4.out.alloc HB4.out.size _)
        have HB15 : Hid (Below w1.heap.size w1 w5) := hid (HB13.out.trans (HB5.out.mono HB13.out.size))
        have HB25 : Hid (Below w2.heap.size w2 w5) := hid (HB3.out.trans (HB5.out.mono HB3.out.size))
        clear hw5 r0 r1
        obtain ⟨r0, r1⟩ := HKR.out _ HB15.out
        obtain ⟨T, hT⟩ : ∃ T, decide (((o, nm), who) ∈ lst) = T := ⟨_, rfl⟩
        have HIN := hid (in_any AL lst j cL HL.out (by have := HLL.out; omega) o nm who w5 ((HEL.out.below HB25.out).more HB25.out.size))
        rw [hT] at HIN
        go_upto_region 12 with (go_at_call 21; (refine HIN.out.mono ?_); rintro er w6 ⟨rfl, b6⟩; have HB6 := hid (HB15.out.trans (b6.mono HB15.out.size)); clear b6)
        have hcs : (E = 16 ∧ T = false) ∨ (E = 0 ∧ T = true) := by
          rcases HOU.out with ⟨h1, -, h2⟩ | ⟨h1, -, -, h2⟩
          · refine .inl ⟨h2, ?_⟩
            rw [← hT]
            exact decide_eq_false fun h => (rd_imp.2 ((HIM.out _).1 h)) (by rw [← HCN.out]; exact h1)
          · refine .inr ⟨h2, ?_⟩
            rw [← hT]
            exact decide_eq_true ((HIM.out _).2 (rd_imp.1 (by rw [← HCN.out]; exact h1)))
        clear hT r0 r1
        rcases hcs with ⟨rfl, rfl⟩ | ⟨rfl, rfl⟩
        all_goals
          go_wp2_with (go_at_call 14; (refine (HLV.out _).mono ?_); rintro er w7 ⟨rfl, b7⟩; have HB7 := hid (HB6.out.trans (b7.mono HB6.out.size)); clear b7)
          go_ret
          exact ⟨rfl, HQ1.out.trans (HB7.out.mono HQ1.out.size)⟩
end Go.Proofs.YtoajckhnneagnaaDoor.Sh
namespace Go.Proofs.YtoajckhnneagnaaDoor.Sh
open Go Go.RowKit
open Go.Maps (Keyed)

set_option linter.unusedVariables false
set_option linter.unusedSimpArgs false
def SortedI (l : List (Int × Int)) : Prop := l.Pairwise fun x y => beforeI x.1 x.2 y.1 y.2 = true
theorem SortedI.uniq {a b : List (Int × Int)} (ha : SortedI a) (hb : SortedI b) (h : ∀ i, i ∈ a ↔ i ∈ b) : a = b := by
  have irr : ∀ x : Int × Int, ¬ beforeI x.1 x.2 x.1 x.2 = true := fun x => by unfold beforeI; simp only [decide_eq_true_eq]; omega
  have nd : ∀ {l}, SortedI l → l.Nodup := fun {l} hl => List.Pairwise.imp (fun {x y} hxy (e : x = y) => by subst e; exact irr _ hxy) hl
  exact List.Perm.eq_of_pairwise (le := fun (x y : Int × Int) => beforeI x.1 x.2 y.1 y.2 = true) (fun x y _ _ h1 h2 => by
    have := beforeI_trans h1 h2
    exact absurd this (irr x)) ha hb ((List.perm_ext_iff_of_nodup (nd ha) (nd hb)).2 h)
set_option maxRecDepth 100000 in
set_option maxHeartbeats 2000000 in
def IMap (w : World) (b : Nat) (L : List (Int × Int)) : Prop := ∃ D : DataW Unit, w.ownsMap Tryd.prog 27 unitElem b L.length D ∧ (∀ i, okI i → Maps.has D (ki i) = decide (i ∈ L)) ∧ (∀ z, Maps.has D z = true → ∃ i ∈ L, okI i ∧ z = ki i)
theorem IMap.new (w : World) : IMap (w.alloc (.map #[] 0)) w.heap.size [] := ⟨_, World.ownsMap_made w _ _ _, fun i _ => by simp [Maps.has], fun z h => by simp [Maps.has] at h⟩
theorem IMap.at' {w w' : World} {b : Nat} {L : List (Int × Int)} (h : IMap w b L) (hb : w'.heap[b]? = w.heap[b]?) : IMap w' b L := by
  obtain ⟨D, ⟨es, clock, h1, r⟩, h2⟩ := h
  exact ⟨D, ⟨es, clock, hb.trans h1, r⟩, h2⟩
theorem IMap.lt {w : World} {b : Nat} {L : List (Int × Int)} (h : IMap w b L) : b < w.heap.size := by obtain ⟨D, h1, _⟩ := h; exact h1.lt
theorem IMap.kept {w w' : World} {b : Nat} {L : List (Int × Int)} (h : IMap w b L) (hb : Below w.heap.size w w') : IMap w' b L := h.at' (hb.block b h.lt)
theorem IMap.add {w : World} {b : Nat} {L : List (Int × Int)} (h : IMap w b L) {i : Int × Int} (hi : okI i) (hl : L.length < 1000000) :
    ∃ w', (Instr.mapUpdate 78 (.map (some b)) (.agg #[.int .i64 i.1, .int .i64 i.2]) (.agg #[])).run Tryd.prog w = .ok () w' ∧ IMap w' b (L ++ [i]) ∧ w.grownBy w' (some b) := by
  obtain ⟨D, h1, h2, h3⟩ := h
  obtain ⟨w', hrun, ho, hg⟩ := h1.update lawI Tryd.underlying78 (by unfold maxLen; omega) (keyI hi) (unitElem_mk (H := Unit))
  refine ⟨w', hrun, ⟨_, by rw [List.length_append, List.length_singleton]; exact ho, fun q hq => ?_, fun z hz => ?_⟩, hg⟩
  · by_cases e : q = i
    · subst e
      rw [Maps.has_put_same h1.isMap (lawI.key (keyI hi))]
      simp
    · rw [Maps.has_put_other (fun e' => e (ki_inj hq hi e')), h2 q hq]
      simp [e]
  · by_cases e : z = ki i
    · exact ⟨i, by simp, hi, e⟩
    · rw [Maps.has_put_other e] at hz
      obtain ⟨q, hq, e'⟩ := h3 z hz
      exact ⟨q, by simp [hq], e'⟩
end Go.Proofs.YtoajckhnneagnaaDoor.Sh
