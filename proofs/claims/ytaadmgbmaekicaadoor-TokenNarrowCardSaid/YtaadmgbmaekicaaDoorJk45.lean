/-
  The statement's own spoil: a new token is written over, nothing else turns. Written by mk_tkspo.py.
-/
import Derived.Test.YtaadmgbmaekicaaDoorJk42
set_option linter.unusedVariables false
set_option linter.unusedSimpArgs false
namespace Go.Proofs.YtaadmgbmaekicaaDoor.Sh
open Go Go.RowKit

set_option linter.unusedSimpArgs false
set_option linter.unusedVariables false
/-- A write into a row of roles, IDs or bytes. -/
theorem TokWr.poke {w : World} {B U : Nat} {th : TH} {hs : List CH} (h : TokWr w B U th hs) {t : TypeId} {g : Nat} {cs : Array Value} (hr : w.heap[g]? = some (.cells cs t (0, 0))) (ht : t ≠ 38) (j : Nat) (u : Value) : TokWr (w.setCell ⟨g, j, none⟩ u) B U th hs :=
  ⟨h.r.set g j u, h.s.set g j u, h.t.set g j u, h.len, fun h0 => by
    obtain ⟨gC, c2, e, h1, h2, h3, h4⟩ := h.c h0
    refine ⟨gC, c2, e, h1, h2, ?_, h4⟩
    rw [heap_setCell_other w ⟨g, j, none⟩ gC u (fun e2 => ht (by
      have e3 : g = gC := by simpa using e2.symm
      subst e3
      rw [h3] at hr
      injection hr with hr
      injection hr with _ q _
      exact q.symm))]
    exact h3, fun i x hi => ⟨(h.cr i x hi).1, (h.cr i x hi).2.1, (h.cr i x hi).2.2.set g j u⟩⟩
/-- The caveats from number i on still are what they were. -/
structure CavWr (w : World) (B U : Nat) (th : TH) (hs : List CH) (i : Nat) : Prop where
  len : hs.length = th.cn
  c : 0 < th.cn → ∃ (g : Nat) (cs : Array Value), th.cA = some ⟨g, 0, none⟩ ∧ B ≤ g ∧ g < U ∧ w.heap[g]? = some (.cells cs 38 (0, 0)) ∧ th.cn * 4 ≤ cs.size ∧ ∀ (k : Nat) (h : CH), i ≤ k → hs[k]? = some h → ∀ (j : Nat) (u : Value), h.cells[j]? = some u → cs[k * 4 + j]? = some u
  cr : ∀ (k : Nat) (h : CH), hs[k]? = some h → h.rn ≤ h.rc ∧ h.rc ≤ 9223372036854775807 ∧ OpN w 42 2 B U h.rA h.rn
theorem TokWr.cav {w : World} {B U : Nat} {th : TH} {hs : List CH} (h : TokWr w B U th hs) : CavWr w B U th hs 0 :=
  ⟨h.len, fun h0 => by
    obtain ⟨g, cs, e, h1, h2, h3, h4, h5⟩ := h.c h0
    exact ⟨g, cs, e, h1, h2, h3, h4, fun k x _ => h5 k x⟩, h.cr⟩
theorem CavWr.poke {w : World} {B U i : Nat} {th : TH} {hs : List CH} (h : CavWr w B U th hs i) {t : TypeId} {g : Nat} {cs : Array Value} (hr : w.heap[g]? = some (.cells cs t (0, 0))) (ht : t ≠ 38) (j : Nat) (u : Value) : CavWr (w.setCell ⟨g, j, none⟩ u) B U th hs i :=
  ⟨h.len, fun h0 => by
    obtain ⟨gC, c2, e, h1, h2, h3, h4⟩ := h.c h0
    refine ⟨gC, c2, e, h1, h2, ?_, h4⟩
    rw [heap_setCell_other w ⟨g, j, none⟩ gC u (fun e2 => ht (by
      have e3 : g = gC := by simpa using e2.symm
      subst e3
      rw [h3] at hr
      injection hr with hr
      injection hr with _ q _
      exact q.symm))]
    exact h3, fun k x hk => ⟨(h.cr k x hk).1, (h.cr k x hk).2.1, (h.cr k x hk).2.2.set g j u⟩⟩
/-- One caveat is written over. -/
theorem CavWr.next {w : World} {B U i : Nat} {th : TH} {hs : List CH} (h : CavWr w B U th hs i) {g : Nat} {cs : Array Value} (hA : th.cA = some ⟨g, 0, none⟩) (hr : w.heap[g]? = some (.cells cs 38 (0, 0))) (h0 : 0 < th.cn) (j : Nat) (u : Value) (hj : j < (i + 1) * 4) : CavWr (w.setCell ⟨g, j, none⟩ u) B U th hs (i + 1) := by
  obtain ⟨gC, c2, e, h1, h2, h3, h4, h5⟩ := h.c h0
  have eg : gC = g := by rw [hA] at e; injection e with e; injection e with e; exact e.symm
  subst eg
  rw [h3] at hr
  obtain rfl : c2 = cs := by injection hr with hr; injection hr
  refine ⟨h.len, fun _ => ⟨gC, _, hA, h1, h2, heap_setCell_same w gC j _ _ u h3, by simpa using h4, fun k x hk hx q v hv => ?_⟩, fun k x hk => ⟨(h.cr k x hk).1, (h.cr k x hk).2.1, (h.cr k x hk).2.2.set gC j u⟩⟩
  rw [Array.getElem?_setIfInBounds, if_neg (by omega)]
  exact h5 k x (by omega) hx q v hv
theorem CavWr.same {w : World} {B U i : Nat} {th : TH} {hs : List CH} (h : CavWr w B U th hs i) {g : Nat} {cs : Array Value} (hA : th.cA = some ⟨g, 0, none⟩) (hr : w.heap[g]? = some (.cells cs 38 (0, 0))) (h0 : 0 < th.cn) (j : Nat) (u : Value) (hj : j < i * 4) : CavWr (w.setCell ⟨g, j, none⟩ u) B U th hs i := by
  obtain ⟨gC, c2, e, h1, h2, h3, h4, h5⟩ := h.c h0
  have eg : gC = g := by rw [hA] at e; injection e with e; injection e with e; exact e.symm
  subst eg
  rw [h3] at hr
  obtain rfl : c2 = cs := by injection hr with hr; injection hr
  refine ⟨h.len, fun _ => ⟨gC, _, hA, h1, h2, heap_setCell_same w gC j _ _ u h3, by simpa using h4, fun k x hk hx q v hv => ?_⟩, fun k x hk => ⟨(h.cr k x hk).1, (h.cr k x hk).2.1, (h.cr k x hk).2.2.set gC j u⟩⟩
  rw [Array.getElem?_setIfInBounds, if_neg (by omega)]
  exact h5 k x hk hx q v hv
set_option maxHeartbeats 32000000 in
set_option maxRecDepth 100000 in
theorem pspoil_any {w : World} {B U : Nat} {th : TH} {hs : List CH} (h : TokWr w B U th hs) (hU : U ≤ w.heap.size) (hr : th.rn ≤ 1000) (hs1 : th.sn ≤ 1000) (ht1 : th.tn ≤ 1000) (hc1 : th.cn ≤ 1000) (hcr : ∀ (i : Nat) (x : CH), hs[i]? = some x → x.rn ≤ 1000) :
    Calls Tryd.prog 19 #[.agg #[.int .i64 th.d, .int .i64 th.e, .int .i64 th.n, .string th.who, .slice th.rA th.rn th.rc, .int .i64 th.til, .slice th.sA th.sn th.sc, .slice th.cA th.cn th.cc, .slice th.tA th.tn th.tc]] w fun e w' => e = .returned (.tuple #[]) ∧ Grew w w' (fun b => B ≤ b ∧ b < U) := by
  have HH := hid h
  have HCR := hid hcr
  obtain ⟨d, e, m, who, rA, rn, rc, til, sA, sn, sc, cA, cn, cc, tA, tn, tc⟩ := th
  simp only at hr hs1 ht1 hc1 ⊢
  obtain ⟨w1, hw1⟩ : ∃ y, y = w.alloc (.cells #[.int .i64 d, .int .i64 e, .int .i64 m, .string who, .slice rA rn rc, .int .i64 til, .slice sA sn sc, .slice cA cn cc, .slice tA tn tc] 27) := ⟨_, rfl⟩
  have hb1 : Below w.heap.size w w1 := by rw [hw1]; exact (Below.refl _ _).alloc (Nat.le_refl _) _
  have HX1 : Hid (ThAt w1 w.heap.size ⟨d, e, m, who, rA, rn, rc, til, sA, sn, sc, cA, cn, cc, tA, tn, tc⟩) := hid (by rw [hw1]; exact ThAt.new w ⟨d, e, m, who, rA, rn, rc, til, sA, sn, sc, cA, cn, cc, tA, tn, tc⟩)
  have HT1 := hid (HH.out.below hb1)
  have HG1 : Hid (Grew w1 w1 (fun b => B ≤ b ∧ b < U)) := hid (Grew.refl _ _)
  have HG0 : Hid (Grew w w1 (fun b => B ≤ b ∧ b < U)) := hid (Grew.of_below hb1)
  have HW1 := hid hw1
  clear h hcr hw1 hb1
  go_enter Tryd.func19, Tryd.ntmps19
  go_upto_region 1 with fail
  rw [← HW1.out]
  go_wp2_with fail
  go_loopw [2] (fun v wr => ∃ i : Nat, v = .int .i64 (i : Int) ∧ i ≤ rn ∧ Hid (TokWr wr B U ⟨d, e, m, who, rA, rn, rc, til, sA, sn, sc, cA, cn, cc, tA, tn, tc⟩ hs) ∧ Hid (Grew w1 wr (fun b => B ≤ b ∧ b < U))) (fun v _ => rn - (intOf v).toNat)
  case atStart => exact ⟨0, rfl, Nat.zero_le _, HT1, HG1⟩
  case round =>
    clear HT1 HG1
    obtain ⟨wj, hwj⟩ : ∃ x, x = wr := ⟨_, rfl⟩
    subst hwj
    obtain ⟨i, rfl, hi, HT, HG⟩ := hrel
    have hi0 : (0 : Int) ≤ (i : Int) := Int.natCast_nonneg _
    have HXJ : Hid (ThAt wj w.heap.size ⟨d, e, m, who, rA, rn, rc, til, sA, sn, sc, cA, cn, cc, tA, tn, tc⟩) := hid ((HG.out.block _ HX1.out.lt (fun h => by have := h.2; omega)).trans HX1.out)
    obtain ⟨c0, c1, c2, c3, c4, c5, c6, c7, c8⟩ := HXJ.out.all
    simp only at c0 c1 c2 c3 c4 c5 c6 c7 c8
    by_cases hlt : i < rn
    · have hi1 : (i : Int) < (rn : Int) := by omega
      obtain ⟨gr, hA, hgB, hgU, cs, hrow, hsz⟩ := HT.out.r (by show 0 < rn; omega)
      simp only at hA hsz
      subst hA
      have HGR := hid (And.intro hgB hgU)
      have ai := addr_rowE gr (i * 2)
      have f0 := frozen_of_row wj gr (i * 2) _ _ hrow
      obtain ⟨y0, hy0⟩ : ∃ y, wj.cell? ⟨gr, i * 2, none⟩ = some y := ⟨_, (cell_of_row wj gr (i * 2) _ _ (0, 0) hrow).trans (Array.getElem?_eq_getElem (by omega))⟩
      have f1 := frozen_of_row wj gr (i * 2 + 1) _ _ hrow
      obtain ⟨y1, hy1⟩ : ∃ y, wj.cell? ⟨gr, i * 2 + 1, none⟩ = some y := ⟨_, (cell_of_row wj gr (i * 2 + 1) _ _ (0, 0) hrow).trans (Array.getElem?_eq_getElem (by omega))⟩
      obtain ⟨wz, hwz⟩ : ∃ y, y = ((wj.setCell ⟨gr, i * 2, none⟩ (.string ⟨#[]⟩)).setCell ⟨gr, i * 2 + 1, none⟩ (.string ⟨#[]⟩)) := ⟨_, rfl⟩
      have HTZ : Hid (TokWr wz B U ⟨d, e, m, who, some ⟨gr, 0, none⟩, rn, rc, til, sA, sn, sc, cA, cn, cc, tA, tn, tc⟩ hs) := hid (by rw [hwz]; exact ((HT.out.poke (t := 42) hrow (by decide) (i * 2) (.string ⟨#[]⟩)).poke (t := 42) (heap_setCell_same _ gr (i * 2) _ _ (.string ⟨#[]⟩) hrow) (by decide) (i * 2 + 1) (.string ⟨#[]⟩)))
      have HGZ : Hid (Grew w1 wz (fun b => B ≤ b ∧ b < U)) := hid (by rw [hwz]; exact ((HG.out.trans (Grew.of_gro (gro_set1 _ _ _ _) ⟨hgB, hgU⟩)).trans (Grew.of_gro (gro_set1 _ _ _ _) ⟨hgB, hgU⟩)))
      have HWZ := hid hwz
      clear hwz hrow hsz hgB hgU
      go_wp2_with fail
      rw [← HWZ.out]
      go_roundw
      case rel => exact ⟨i + 1, by go_num, by omega, HTZ, HGZ⟩
      case measure => simp [intOf]; omega
    · have hiN : i = rn := by omega
      have hi1 : ¬ (i : Int) < (rn : Int) := by omega
      clear hlt
      go_wp2_with fail
      have HT1 := HT
      have HG1 := HG
      have HX1' := HXJ
      go_loopw [3] (fun v wr => ∃ i : Nat, v = .int .i64 (i : Int) ∧ i ≤ sn ∧ Hid (TokWr wr B U ⟨d, e, m, who, rA, rn, rc, til, sA, sn, sc, cA, cn, cc, tA, tn, tc⟩ hs) ∧ Hid (Grew w1 wr (fun b => B ≤ b ∧ b < U))) (fun v _ => sn - (intOf v).toNat)
      case atStart => exact ⟨0, rfl, Nat.zero_le _, HT1, HG1⟩
      case round =>
        clear HT1 HG1
        obtain ⟨wj, hwj⟩ : ∃ x, x = wr := ⟨_, rfl⟩
        subst hwj
        obtain ⟨i, rfl, hi, HT, HG⟩ := hrel
        have hi0 : (0 : Int) ≤ (i : Int) := Int.natCast_nonneg _
        have HXJ : Hid (ThAt wj w.heap.size ⟨d, e, m, who, rA, rn, rc, til, sA, sn, sc, cA, cn, cc, tA, tn, tc⟩) := hid ((HG.out.block _ HX1.out.lt (fun h => by have := h.2; omega)).trans HX1.out)
        obtain ⟨c0, c1, c2, c3, c4, c5, c6, c7, c8⟩ := HXJ.out.all
        simp only at c0 c1 c2 c3 c4 c5 c6 c7 c8
        by_cases hlt : i < sn
        · have hi1 : (i : Int) < (sn : Int) := by omega
          obtain ⟨gr, hA, hgB, hgU, cs, hrow, hsz⟩ := HT.out.s (by show 0 < sn; omega)
          simp only at hA hsz
          subst hA
          have HGR := hid (And.intro hgB hgU)
          have ai := addr_rowE gr (i * 2)
          have f0 := frozen_of_row wj gr (i * 2) _ _ hrow
          obtain ⟨y0, hy0⟩ : ∃ y, wj.cell? ⟨gr, i * 2, none⟩ = some y := ⟨_, (cell_of_row wj gr (i * 2) _ _ (0, 0) hrow).trans (Array.getElem?_eq_getElem (by omega))⟩
          have f1 := frozen_of_row wj gr (i * 2 + 1) _ _ hrow
          obtain ⟨y1, hy1⟩ : ∃ y, wj.cell? ⟨gr, i * 2 + 1, none⟩ = some y := ⟨_, (cell_of_row wj gr (i * 2 + 1) _ _ (0, 0) hrow).trans (Array.getElem?_eq_getElem (by omega))⟩
          obtain ⟨wz, hwz⟩ : ∃ y, y = ((wj.setCell ⟨gr, i * 2, none⟩ (.int .i64 0)).setCell ⟨gr, i * 2 + 1, none⟩ (.int .i64 0)) := ⟨_, rfl⟩
          have HTZ : Hid (TokWr wz B U ⟨d, e, m, who, rA, rn, rc, til, some ⟨gr, 0, none⟩, sn, sc, cA, cn, cc, tA, tn, tc⟩ hs) := hid (by rw [hwz]; exact ((HT.out.poke (t := 69) hrow (by decide) (i * 2) (.int .i64 0)).poke (t := 69) (heap_setCell_same _ gr (i * 2) _ _ (.int .i64 0) hrow) (by decide) (i * 2 + 1) (.int .i64 0)))
          have HGZ : Hid (Grew w1 wz (fun b => B ≤ b ∧ b < U)) := hid (by rw [hwz]; exact ((HG.out.trans (Grew.of_gro (gro_set1 _ _ _ _) ⟨hgB, hgU⟩)).trans (Grew.of_gro (gro_set1 _ _ _ _) ⟨hgB, hgU⟩)))
          have HWZ := hid hwz
          clear hwz hrow hsz hgB hgU
          go_wp2_with fail
          rw [← HWZ.out]
          go_roundw
          case rel => exact ⟨i + 1, by go_num, by omega, HTZ, HGZ⟩
          case measure => simp [intOf]; omega
        · have hiN : i = sn := by omega
          have hi1 : ¬ (i : Int) < (sn : Int) := by omega
          clear hlt
          go_wp2_with fail
          have HT1 := HT
          have HG1 := HG
          have HX1' := HXJ
          go_loopw [4] (fun v wr => ∃ i : Nat, v = .int .i64 (i : Int) ∧ i ≤ tn ∧ Hid (TokWr wr B U ⟨d, e, m, who, rA, rn, rc, til, sA, sn, sc, cA, cn, cc, tA, tn, tc⟩ hs) ∧ Hid (Grew w1 wr (fun b => B ≤ b ∧ b < U))) (fun v _ => tn - (intOf v).toNat)
          case atStart => exact ⟨0, rfl, Nat.zero_le _, HT1, HG1⟩
          case round =>
            clear HT1 HG1
            obtain ⟨wj, hwj⟩ : ∃ x, x = wr := ⟨_, rfl⟩
            subst hwj
            obtain ⟨i, rfl, hi, HT, HG⟩ := hrel
            have hi0 : (0 : Int) ≤ (i : Int) := Int.natCast_nonneg _
            have HXJ : Hid (ThAt wj w.heap.size ⟨d, e, m, who, rA, rn, rc, til, sA, sn, sc, cA, cn, cc, tA, tn, tc⟩) := hid ((HG.out.block _ HX1.out.lt (fun h => by have := h.2; omega)).trans HX1.out)
            obtain ⟨c0, c1, c2, c3, c4, c5, c6, c7, c8⟩ := HXJ.out.all
            simp only at c0 c1 c2 c3 c4 c5 c6 c7 c8
            by_cases hlt : i < tn
            · have hi1 : (i : Int) < (tn : Int) := by omega
              obtain ⟨gr, hA, hgB, hgU, cs, hrow, hsz⟩ := HT.out.t (by show 0 < tn; omega)
              simp only at hA hsz
              subst hA
              have HGR := hid (And.intro hgB hgU)
              have ai := addr_rowE gr (i * 1)
              rw [Nat.mul_one] at ai
              have ai1 := addr_rowE gr (i * 1)
              rw [Nat.mul_one] at ai1
              have f0 := frozen_of_row wj gr (i) _ _ hrow
              obtain ⟨y0, hy0⟩ : ∃ y, wj.cell? ⟨gr, i, none⟩ = some y := ⟨_, (cell_of_row wj gr (i) _ _ (0, 0) hrow).trans (Array.getElem?_eq_getElem (by omega))⟩
              obtain ⟨wz, hwz⟩ : ∃ y, y = (wj.setCell ⟨gr, i, none⟩ (.int .u8 7)) := ⟨_, rfl⟩
              have HTZ : Hid (TokWr wz B U ⟨d, e, m, who, rA, rn, rc, til, sA, sn, sc, cA, cn, cc, some ⟨gr, 0, none⟩, tn, tc⟩ hs) := hid (by rw [hwz]; exact (HT.out.poke (t := 5) hrow (by decide) (i) (.int .u8 7)))
              have HGZ : Hid (Grew w1 wz (fun b => B ≤ b ∧ b < U)) := hid (by rw [hwz]; exact (HG.out.trans (Grew.of_gro (gro_set1 _ _ _ _) ⟨hgB, hgU⟩)))
              have HWZ := hid hwz
              clear hwz hrow hsz hgB hgU
              go_wp2_with fail
              rw [← HWZ.out]
              go_roundw
              case rel => exact ⟨i + 1, by go_num, by omega, HTZ, HGZ⟩
              case measure => simp [intOf]; omega
            · have hiN : i = tn := by omega
              have hi1 : ¬ (i : Int) < (tn : Int) := by omega
              clear hlt
              go_wp2_with fail
              have HT1 := HT
              have HG1 := HG
              have HX1' := HXJ
              have HCW : Hid (CavWr wj B U ⟨d, e, m, who, rA, rn, rc, til, sA, sn, sc, cA, cn, cc, tA, tn, tc⟩ hs 0) := hid HT1.out.cav
              go_loopw [5] (fun v wr => ∃ i : Nat, v = .int .i64 (i : Int) ∧ i ≤ cn ∧ Hid (CavWr wr B U ⟨d, e, m, who, rA, rn, rc, til, sA, sn, sc, cA, cn, cc, tA, tn, tc⟩ hs i) ∧ Hid (Grew w1 wr (fun b => B ≤ b ∧ b < U))) (fun v _ => cn - (intOf v).toNat)
              case atStart => exact ⟨0, rfl, Nat.zero_le _, HCW, HG1⟩
              case round =>
                clear HT1 HG1 HCW
                obtain ⟨wk, hwk⟩ : ∃ x, x = wr := ⟨_, rfl⟩
                subst hwk
                obtain ⟨i, rfl, hi, HC, HG⟩ := hrel
                have hi0 : (0 : Int) ≤ (i : Int) := Int.natCast_nonneg _
                have HXJ : Hid (ThAt wk w.heap.size ⟨d, e, m, who, rA, rn, rc, til, sA, sn, sc, cA, cn, cc, tA, tn, tc⟩) := hid ((HG.out.block _ HX1.out.lt (fun h => by have := h.2; omega)).trans HX1.out)
                obtain ⟨c0, c1, c2, c3, c4, c5, c6, c7, c8⟩ := HXJ.out.all
                simp only at c0 c1 c2 c3 c4 c5 c6 c7 c8
                by_cases hlt : i < cn
                · have hi1 : (i : Int) < (cn : Int) := by omega
                  obtain ⟨gC, hcA⟩ : ∃ gC, cA = some ⟨gC, 0, none⟩ := by
                    obtain ⟨gC, cs, e1, _⟩ := HC.out.c (by show 0 < cn; omega)
                    exact ⟨gC, e1⟩
                  subst hcA
                  obtain ⟨x, hx⟩ : ∃ y, hs[i]? = some y := ⟨_, List.getElem?_eq_getElem (by have := HC.out.len; simp only at this; omega)⟩
                  have HXI := hid hx
                  have HRN := hid (HCR.out i x hx)
                  have HG2 := HG
                  obtain ⟨xk, xA, xn, xc, xt, xa⟩ := x
                  have hx1000 : xn ≤ 1000 := HRN.out
                  clear hx
                  go_wp2_with fail
                  clear c0 c1 c2 c3 c4 c5 c6 c7 c8 HXJ
                  go_loopw [6] (fun v wr => ∃ k : Nat, v = .int .i64 (k : Int) ∧ k ≤ xn ∧ Hid (CavWr wr B U ⟨d, e, m, who, rA, rn, rc, til, sA, sn, sc, some ⟨gC, 0, none⟩, cn, cc, tA, tn, tc⟩ hs i) ∧ Hid (Grew w1 wr (fun b => B ≤ b ∧ b < U))) (fun v _ => xn - (intOf v).toNat)
                  case atStart => exact ⟨0, rfl, Nat.zero_le _, HC, HG2⟩
                  case round =>
                    clear HC HG HG2
                    obtain ⟨wm, hwm⟩ : ∃ x, x = wr := ⟨_, rfl⟩
                    subst hwm
                    obtain ⟨k, rfl, hk, HC, HG⟩ := hrel
                    have hk0 : (0 : Int) ≤ (k : Int) := Int.natCast_nonneg _
                    have HXJ : Hid (ThAt wm w.heap.size ⟨d, e, m, who, rA, rn, rc, til, sA, sn, sc, some ⟨gC, 0, none⟩, cn, cc, tA, tn, tc⟩) := hid ((HG.out.block _ HX1.out.lt (fun h => by have := h.2; omega)).trans HX1.out)
                    obtain ⟨c0, c1, c2, c3, c4, c5, c6, c7, c8⟩ := HXJ.out.all
                    simp only at c0 c1 c2 c3 c4 c5 c6 c7 c8
                    obtain ⟨gC', cs, e1, hgB, hgU, hrow, hsz, hcell⟩ := HC.out.c (by show 0 < cn; omega)
                    obtain rfl : gC' = gC := by injection e1 with e1; injection e1 with e1; exact e1.symm
                    have v0 : wm.cell? ⟨gC', i * 4, none⟩ = some (.int .i64 xk) := (cell_of_row wm gC' (i * 4) _ _ (0, 0) hrow).trans (hcell i _ (Nat.le_refl _) HXI.out 0 _ rfl)
                    have v1 : wm.cell? ⟨gC', i * 4 + 1, none⟩ = some (.slice xA xn xc) := (cell_of_row wm gC' (i * 4 + 1) _ _ (0, 0) hrow).trans (hcell i _ (Nat.le_refl _) HXI.out 1 _ rfl)
                    have v2 : wm.cell? ⟨gC', i * 4 + 2, none⟩ = some (.int .i64 xt) := (cell_of_row wm gC' (i * 4 + 2) _ _ (0, 0) hrow).trans (hcell i _ (Nat.le_refl _) HXI.out 2 _ rfl)
                    have v3 : wm.cell? ⟨gC', i * 4 + 3, none⟩ = some (.string xa) := (cell_of_row wm gC' (i * 4 + 3) _ _ (0, 0) hrow).trans (hcell i _ (Nat.le_refl _) HXI.out 3 _ rfl)
                    have ac := addr_rowE gC' (i * 4)
                    by_cases hlk : k < xn
                    · have hk1 : (k : Int) < (xn : Int) := by omega
                      obtain ⟨gr, hA, hrB, hrU, ds, hdrow, hdsz⟩ := (HC.out.cr i _ HXI.out).2.2 (by show 0 < xn; omega)
                      simp only at hA hdsz
                      subst hA
                      have ai := addr_rowE gr (k * 2)
                      have f0 := frozen_of_row wm gr (k * 2) _ _ hdrow
                      have f1 := frozen_of_row wm gr (k * 2 + 1) _ _ hdrow
                      obtain ⟨y0, hy0⟩ : ∃ y, wm.cell? ⟨gr, k * 2, none⟩ = some y := ⟨_, (cell_of_row wm gr (k * 2) _ _ (0, 0) hdrow).trans (Array.getElem?_eq_getElem (by omega))⟩
                      obtain ⟨y1, hy1⟩ : ∃ y, wm.cell? ⟨gr, k * 2 + 1, none⟩ = some y := ⟨_, (cell_of_row wm gr (k * 2 + 1) _ _ (0, 0) hdrow).trans (Array.getElem?_eq_getElem (by omega))⟩
                      obtain ⟨wz, hwz⟩ : ∃ y, y = ((wm.setCell ⟨gr, k * 2, none⟩ (.string ⟨#[]⟩)).setCell ⟨gr, k * 2 + 1, none⟩ (.string ⟨#[]⟩)) := ⟨_, rfl⟩
                      have HCZ : Hid (CavWr wz B U ⟨d, e, m, who, rA, rn, rc, til, sA, sn, sc, some ⟨gC', 0, none⟩, cn, cc, tA, tn, tc⟩ hs i) := hid (by rw [hwz]; exact (HC.out.poke (t := 42) hdrow (by decide) (k * 2) (.string ⟨#[]⟩)).poke (t := 42) (heap_setCell_same _ gr (k * 2) _ _ (.string ⟨#[]⟩) hdrow) (by decide) (k * 2 + 1) (.string ⟨#[]⟩))
                      have HGZ : Hid (Grew w1 wz (fun b => B ≤ b ∧ b < U)) := hid (by rw [hwz]; exact (HG.out.trans (Grew.of_gro (gro_set1 _ _ _ _) ⟨hrB, hrU⟩)).trans (Grew.of_gro (gro_set1 _ _ _ _) ⟨hrB, hrU⟩))
                      have HWZ := hid hwz
                      clear hwz hrow hsz hcell hdrow hdsz
                      go_wp2_with fail
                      rw [← HWZ.out]
                      go_roundw
                      case rel => exact ⟨k + 1, by go_num, by omega, HCZ, HGZ⟩
                      case measure => simp [intOf]; omega
                    · obtain rfl : k = xn := by omega
                      have hk1 : ¬ (k : Int) < (k : Int) := by omega
                      have f0 := frozen_of_row wm gC' (i * 4) _ _ hrow
                      have f1 := frozen_of_row wm gC' (i * 4 + 1) _ _ hrow
                      have f2 := frozen_of_row wm gC' (i * 4 + 2) _ _ hrow
                      have f3 := frozen_of_row wm gC' (i * 4 + 3) _ _ hrow
                      obtain ⟨wz, hwz⟩ : ∃ y, y = ((((wm.setCell ⟨gC', i * 4, none⟩ (.int .i64 0)).setCell ⟨gC', i * 4 + 1, none⟩ (.slice none 0 0)).setCell ⟨gC', i * 4 + 2, none⟩ (.int .i64 0)).setCell ⟨gC', i * 4 + 3, none⟩ (.string ⟨#[]⟩)) := ⟨_, rfl⟩
                      have r1 := heap_setCell_same _ gC' (i * 4) _ _ (.int .i64 0) hrow
                      have r2 := heap_setCell_same _ gC' (i * 4 + 1) _ _ (.slice none 0 0) r1
                      have r3 := heap_setCell_same _ gC' (i * 4 + 2) _ _ (.int .i64 0) r2
                      have HCZ : Hid (CavWr wz B U ⟨d, e, m, who, rA, rn, rc, til, sA, sn, sc, some ⟨gC', 0, none⟩, cn, cc, tA, tn, tc⟩ hs (i + 1)) := hid (by
                        rw [hwz]
                        have q1 := HC.out.next rfl hrow (by show 0 < cn; omega) (i * 4) (.int .i64 0) (by omega)
                        have q2 := q1.same rfl r1 (by show 0 < cn; omega) (i * 4 + 1) (.slice none 0 0) (by omega)
                        have q3 := q2.same rfl r2 (by show 0 < cn; omega) (i * 4 + 2) (.int .i64 0) (by omega)
                        exact q3.same rfl r3 (by show 0 < cn; omega) (i * 4 + 3) (.string ⟨#[]⟩) (by omega))
                      have HGZ : Hid (Grew w1 wz (fun b => B ≤ b ∧ b < U)) := hid (by rw [hwz]; exact (((HG.out.trans (Grew.of_gro (gro_set1 _ _ _ _) ⟨hgB, hgU⟩)).trans (Grew.of_gro (gro_set1 _ _ _ _) ⟨hgB, hgU⟩)).trans (Grew.of_gro (gro_set1 _ _ _ _) ⟨hgB, hgU⟩)).trans (Grew.of_gro (gro_set1 _ _ _ _) ⟨hgB, hgU⟩))
                      have HWZ := hid hwz
                      clear hwz hrow hsz hcell r1 r2 r3
                      go_wp2_with fail
                      rw [← HWZ.out]
                      go_roundw
                      case rel => exact ⟨i + 1, by go_num, by omega, HCZ, HGZ⟩
                      case measure => simp [intOf]; omega
                · obtain rfl : i = cn := by omega
                  have hi1 : ¬ (i : Int) < (i : Int) := by omega
                  go_wp2_with fail
                  go_end0
                  exact ⟨rfl, HG0.out.trans HG.out⟩
end Go.Proofs.YtaadmgbmaekicaaDoor.Sh
