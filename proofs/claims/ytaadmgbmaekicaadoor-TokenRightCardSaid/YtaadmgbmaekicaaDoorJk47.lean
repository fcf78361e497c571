/-
  The walk of TokenRight (the contract of lives is its premise). Written by mk_tklawr.py.
-/
import Derived.Test.YtaadmgbmaekicaaDoorJk46
set_option linter.unusedVariables false
set_option linter.unusedSimpArgs false
namespace Go.Proofs.YtaadmgbmaekicaaDoor.Sh
open Go Go.RowKit

set_option linter.unusedSimpArgs false
set_option linter.unusedVariables false
theorem hay_p {w8 W9 : World} {B k G : Nat} {th : TH} {t : Tok} (a : TokAt w8 (fun b => B ≤ b) th t) (hg : w8.grownBy W9 (some k)) (hk : k < B) (hG : G < B) : TokAt W9 (fun b => b ≠ G) th t :=
  (a.kept (kept_gro hg (fun h => absurd hk (Nat.not_lt.2 h))) hg.size).imp (fun b hb _ => Nat.ne_of_gt (Nat.lt_of_lt_of_le hG hb))
theorem hay_b {w8 W9 : World} {B G : Nat} {th : TH} {t : Tok} (a : TokAt w8 (fun b => B ≤ b) th t) (hg : Below w8.heap.size w8 W9) (hG : G < B) : TokAt W9 (fun b => b ≠ G) th t :=
  (a.imp (fun b hb _ => Nat.ne_of_gt (Nat.lt_of_lt_of_le hG hb))).below hg
set_option maxHeartbeats 32000000 in
set_option maxRecDepth 100000 in
theorem tokenRight_walk (hlv : Lives12) {w : World} (hT : Tab w) (A : Option Addr) (key : List UInt8) (n c : Nat) (hn : key.length = n) (hnc : n ≤ c) (hcm : c ≤ 9223372036854775807) (hb : Byt w w.heap.size A key) {th : TH} {t : Tok} (a : TokAt w (fun b => b < w.heap.size) th t)
    (LA : Option Addr) (ls : List Cav) (ln lc : Nat) (hln : ls.length = ln) (hlc : ln ≤ lc) (hlm : lc ≤ 9223372036854775807) (hl : CavsQ w (fun b => b < w.heap.size) LA ls) :
    Calls Tryd.prog 4 #[.slice A n c, .agg #[.int .i64 th.d, .int .i64 th.e, .int .i64 th.n, .string th.who, .slice th.rA th.rn th.rc, .int .i64 th.til, .slice th.sA th.sn th.sc, .slice th.cA th.cn th.cc, .slice th.tA th.tn th.tc], .slice LA ln lc] w fun e w' => e = .returned (.bool true) ∧ Below w.heap.size w w' := by
  have HL := hid (fun W (hW : Below w.heap.size w W) => hl.below hW)
  have HLN := hid hln
  have HTT := hid (fun W (hW : Below w.heap.size w W) => hT.below hT.pos hW)
  have HLV := hid (fun W (hW : Below w.heap.size w W) => hlv W (hT.below hT.pos hW))
  have HK0 := hid (fun W (hW : Below w.heap.size w W) => (hb.below hW).more hW.size)
  obtain ⟨K, hK⟩ : ∃ K, key.take 100 = K := ⟨_, rfl⟩
  obtain ⟨n2, hn2⟩ : ∃ x, min n 100 = x := ⟨_, rfl⟩
  have HKL : Hid (K.length = n2) := hid (by rw [← hK, List.length_take, hn, Nat.min_comm]; exact hn2)
  have HKK : Hid (∀ W, Below w.heap.size w W → Byt W W.heap.size A K) := hid (fun W hW => by
    rw [← hK]
    intro hpos
    rw [List.length_take] at hpos
    obtain ⟨ad, q1, q2, q3⟩ := HK0.out W hW (by omega)
    exact ⟨ad, q1, q2, fun j x hx => q3 j x (by rw [List.getElem?_take] at hx; split at hx; exact hx; cases hx)⟩)
  have hn2c : n2 ≤ c := by omega
  have hn2m : n2 ≤ 100 := by omega
  have HFW := hid (few12_any A key n c hn hnc hcm)
  rw [hn2] at HFW
  have HFT := hid (FewTok.few t)
  obtain ⟨d, e, m, who, rA, rn, rc, til, sA, sn, sc, cA, cn, cc, tA, tn, tc⟩ := th
  simp only
  obtain ⟨w1, hw1⟩ : ∃ y, y = w.alloc (.cells #[.int .i64 d, .int .i64 e, .int .i64 m, .string who, .slice rA rn rc, .int .i64 til, .slice sA sn sc, .slice cA cn cc, .slice tA tn tc] 27) := ⟨_, rfl⟩
  have HB1 : Hid (Below w.heap.size w w1) := hid (by rw [hw1]; exact (Below.refl _ _).alloc (Nat.le_refl _) _)
  have HX1 : Hid (ThAt w1 w.heap.size ⟨d, e, m, who, rA, rn, rc, til, sA, sn, sc, cA, cn, cc, tA, tn, tc⟩) := hid (by rw [hw1]; exact ThAt.new w ⟨d, e, m, who, rA, rn, rc, til, sA, sn, sc, cA, cn, cc, tA, tn, tc⟩)
  have hs1 : w1.heap.size = w.heap.size + 1 := by rw [hw1]; simp
  have HW1 := hid hw1
  have HF1 := hid (refFew12_any (a.below HB1.out))
  simp only at HF1
  obtain ⟨c0, c1, c2, c3, c4, c5, c6, c7, c8⟩ := HX1.out.all
  simp only at c0 c1 c2 c3 c4 c5 c6 c7 c8
  clear a hw1 hn hb hK hn2 hlv HK0
  clear hl hln
  go_enter Tryd.func4, Tryd.ntmps4
  go_upto_region 1 with fail
  rw [← HW1.out]
  go_wp2_with fail
  refine (HFW.out w1).mono ?_
  rintro er wq ⟨rfl, hw⟩
  have hw2 : w1 = wq := hw
  subst hw2
  clear hw
  go_wp2_with fail
  refine HF1.out.mono ?_
  rintro er w2 ⟨⟨d2, e2, m2, who2, rA2, rn2, rc2, til2, sA2, sn2, sc2, cA2, cn2, cc2, tA2, tn2, tc2⟩, rfl, a2, b2⟩
  unfold TH.cells
  simp only
  have HB2 := hid (HB1.out.trans (b2.mono HB1.out.size))
  have HP2 := hid (pMint12_any (HTT.out w2 HB2.out) a2 HFT.out A K n2 c HKL.out hn2m hn2c hcm (HKK.out w2 HB2.out))
  simp only at HP2
  obtain ⟨E, hE⟩ : ∃ E, mintE (fewT t) = E := ⟨_, rfl⟩
  have HE := hid hE
  rw [hE] at HP2
  clear a2 b2 hE c0 c1 c2 c3 c4 c5 c6 c7 c8 HX1 HF1
  go_wp2_with fail
  refine HP2.out.mono ?_
  rintro er w3 ⟨⟨d3, e3, m3, who3, rA3, rn3, rc3, til3, sA3, sn3, sc3, cA3, cn3, cc3, tA3, tn3, tc3⟩, rfl, nt⟩
  unfold TH.cells
  simp only
  obtain ⟨w4, hw4⟩ : ∃ y, y = w3.alloc (.cells #[.int .i64 d3, .int .i64 e3, .int .i64 m3, .string who3, .slice rA3 rn3 rc3, .int .i64 til3, .slice sA3 sn3 sc3, .slice cA3 cn3 cc3, .slice tA3 tn3 tc3] 27) := ⟨_, rfl⟩
  have hb34 : Below w3.heap.size w3 w4 := by rw [hw4]; exact (Below.refl _ _).alloc (Nat.le_refl _) _
  have HB24 : Hid (Below w2.heap.size w2 w4) := hid (nt.below.trans (hb34.mono nt.below.size))
  have HX4 : Hid (ThAt w4 w3.heap.size ⟨d3, e3, m3, who3, rA3, rn3, rc3, til3, sA3, sn3, sc3, cA3, cn3, cc3, tA3, tn3, tc3⟩) := hid (by rw [hw4]; exact ThAt.new w3 ⟨d3, e3, m3, who3, rA3, rn3, rc3, til3, sA3, sn3, sc3, cA3, cn3, cc3, tA3, tn3, tc3⟩)
  have HA4 := hid ((nt.at_.imp (R := fun b => b ≠ w3.heap.size) (fun b _ hl => by omega)).below hb34)
  have HB4 := hid (HB2.out.trans (HB24.out.mono HB2.out.size))
  have HW4 := hid hw4
  have hg0 : w.heap.size ≤ w3.heap.size := by have h1 := HB2.out.size; have h2 := nt.below.size; omega
  clear nt hw4 hb34
  rcases mintE_cases (fewT t) with h0 | h0
  rotate_left 1
  · have hE25 : E = 25 := HE.out.symm.trans h0
    subst hE25
    go_upto_region 3 with fail
    rw [← HW4.out]
    go_wp2_with fail
    refine (HLV.out _ HB4.out).mono ?_
    rintro er w5 ⟨rfl, b5⟩
    have HB5 := hid (HB4.out.trans (b5.mono HB4.out.size))
    clear b5
    go_wp2_with fail
    go_ret
    exact ⟨rfl, HB5.out⟩
  have hE0 : E = 0 := HE.out.symm.trans h0
  subst hE0
  have hRM : mintR K (fewT t) = mintT K (fewT t) := if_pos (mintE_zero.1 h0)
  rw [hRM] at HA4
  have HRT : Hid (RightT K (mintT K (fewT t))) := hid (RightT.mint (mintE_zero.1 h0))
  obtain ⟨X0, hX0⟩ : ∃ X, mintT K (fewT t) = X := ⟨_, rfl⟩
  have HC0 : Hid (X0.cavs.length = 0) := hid (by rw [← hX0]; rfl)
  rw [hX0] at HA4 HRT
  have HV4 := hid (pVerify12_any (HTT.out w4 HB4.out) HA4.out (FewTok.ok HRT.out.ok) A K n2 c HKL.out hn2m hn2c hcm (HKK.out w4 HB4.out))
  rw [HRT.out.ver] at HV4
  simp only at HV4
  clear h0 hRM hX0 HE HP2
  go_upto_region 3 with fail
  rw [← HW4.out]
  obtain ⟨c0, c1, c2, c3, c4, c5, c6, c7, c8⟩ := HX4.out.all
  simp only at c0 c1 c2 c3 c4 c5 c6 c7 c8
  obtain ⟨GX, hGX⟩ : ∃ x, w3.heap.size = x := ⟨_, rfl⟩
  rw [hGX] at HX4 HA4 c0 c1 c2 c3 c4 c5 c6 c7 c8 hg0 ⊢
  clear hGX HW4
  go_wp2_with fail
  refine HV4.out.mono ?_
  rintro er w5 ⟨rfl, b5⟩
  have HX5 := hid (HX4.out.below b5)
  have HA5 := hid (HA4.out.below b5)
  have HB5 := hid (HB4.out.trans (b5.mono HB4.out.size))
  clear b5 HX4 HA4 HB4 HV4 c0 c1 c2 c3 c4 c5 c6 c7 c8
  go_wp2_with fail
  go_loopw [9, 10] (fun z i wr => ∃ (k N : Nat) (thx : TH) (X : Tok), z = .int .i64 (N : Int) ∧ i = .int .i64 (k : Int) ∧ k ≤ ln ∧ k ≤ 8 ∧ N ≤ 6 ∧ Hid (X.cavs.length = N) ∧ Hid (RightT K X) ∧ Hid (ThAt wr GX thx) ∧ Hid (TokAt wr (fun b => b ≠ GX) thx X) ∧ Hid (Below w.heap.size w wr)) (fun _ i _ => 8 - (intOf i).toNat)
  case atStart => exact ⟨0, 0, ⟨d3, e3, m3, who3, rA3, rn3, rc3, til3, sA3, sn3, sc3, cA3, cn3, cc3, tA3, tn3, tc3⟩, X0, rfl, rfl, Nat.zero_le _, Nat.zero_le _, Nat.zero_le _, HC0, HRT, HX5, HA5, HB5⟩
  case round =>
    clear HC0 HRT HX5 HA5 HB5
    obtain ⟨wj, hwj⟩ : ∃ x, x = wr := ⟨_, rfl⟩
    subst hwj
    obtain ⟨k, N, thx, X, rfl, rfl, hk, hk8, hN6, HC, HRT, HXJ, HAJ, HB⟩ := hrel
    have hk0 : (0 : Int) ≤ (k : Int) := Int.natCast_nonneg _
    have hN0 : (0 : Int) ≤ (N : Int) := Int.natCast_nonneg _
    obtain ⟨d4, e4, m4, who4, rA4, rn4, rc4, til4, sA4, sn4, sc4, cA4, cn4, cc4, tA4, tn4, tc4⟩ := thx
    by_cases hlt : k < ln ∧ k < 8
    · have hk1 : (k : Int) < (ln : Int) := by omega
      have hk2 : (k : Int) < 8 := by omega
      obtain ⟨cv, hx⟩ : ∃ r, ls[k]? = some r := ⟨_, List.getElem?_eq_getElem (by rw [HLN.out]; exact hlt.1)⟩
      obtain ⟨ad, aj, ch, hA, hab, haj, hbj, hca, x0, x1, x2, x3⟩ := (HL.out wj HB.out).at hx
      subst hA
      have HLW : Hid (∀ W, Below wj.heap.size wj W → ∀ p : Addr, p.block = aj.block → W.cell? p = wj.cell? p) := hid (fun W hW p hp => hW.cell (by rw [hp, hbj]; exact hab))
      have HCU := hid (fun W => cut12_any ch hca.rc hca.rm W)
      have HFC := hid (cavFew_at hca)
      have haj2 : ad.add (k * 4) = aj := haj
      obtain ⟨kd, qA, qn, qc, tl, au⟩ := ch
      simp only at x0 x1 x2 x3 HCU
      have HNW := hid (fun W (hW : Below wj.heap.size wj W) => pNarrow12_any (HTT.out W (HB.out.trans (hW.mono HB.out.size))) (HAJ.out.below hW) (FewTok.ok HRT.out.ok) (HFC.out.kept (w' := W) (fun b _ hl => hW.block b hl) hW.size) (by show (cv.roles.take 6).length ≤ 6; rw [List.length_take]; omega))
      simp only [fewH] at HNW
      obtain ⟨F, hF⟩ : ∃ F, narE X (fewC cv) = F := ⟨_, rfl⟩
      have HF := hid hF
      rw [hF] at HNW
      have HXS := hid (fun W (hW : Below wj.heap.size wj W) => (HXJ.out.below hW).all)
      simp only at HXS
      have HS13 : Hid (∀ W, Below wj.heap.size wj W → W.cell? ⟨GX, 0, none⟩ = some (.int .i64 d4) ∧ W.cell? ⟨GX, 1, none⟩ = some (.int .i64 e4) ∧ W.cell? ⟨GX, 2, none⟩ = some (.int .i64 m4) ∧ W.cell? ⟨GX, 3, none⟩ = some (.string who4) ∧ W.cell? ⟨GX, 4, none⟩ = some (.slice rA4 rn4 rc4) ∧ W.cell? ⟨GX, 5, none⟩ = some (.int .i64 til4) ∧ W.cell? ⟨GX, 6, none⟩ = some (.slice sA4 sn4 sc4) ∧ W.cell? ⟨GX, 7, none⟩ = some (.slice cA4 cn4 cc4) ∧ W.cell? ⟨GX, 8, none⟩ = some (.slice tA4 tn4 tc4) ∧ W.cell? aj = some (.int .i64 kd) ∧ W.cell? ⟨aj.block, aj.off + 1, none⟩ = some (.slice qA qn qc) ∧ W.cell? ⟨aj.block, aj.off + 2, none⟩ = some (.int .i64 tl) ∧ W.cell? ⟨aj.block, aj.off + 3, none⟩ = some (.string au)) := hid (fun W hW => by
        obtain ⟨y0, y1, y2, y3, y4, y5, y6, y7, y8⟩ := HXS.out W hW
        exact ⟨y0, y1, y2, y3, y4, y5, y6, y7, y8, (HLW.out W hW aj rfl).trans x0, (HLW.out W hW ⟨aj.block, aj.off + 1, none⟩ rfl).trans x1, (HLW.out W hW ⟨aj.block, aj.off + 2, none⟩ rfl).trans x2, (HLW.out W hW ⟨aj.block, aj.off + 3, none⟩ rfl).trans x3⟩)
      obtain ⟨c0, c1, c2, c3, c4, c5, c6, c7, c8⟩ := HXJ.out.all
      simp only at c0 c1 c2 c3 c4 c5 c6 c7 c8
      clear hx hab hbj hca haj hF HLW HXS
      go_upto_region 11 with fail
      go_region_held3 (fun W => W.cell? ⟨GX, 0, none⟩ = some (.int .i64 d4) ∧ W.cell? ⟨GX, 1, none⟩ = some (.int .i64 e4) ∧ W.cell? ⟨GX, 2, none⟩ = some (.int .i64 m4) ∧ W.cell? ⟨GX, 3, none⟩ = some (.string who4) ∧ W.cell? ⟨GX, 4, none⟩ = some (.slice rA4 rn4 rc4) ∧ W.cell? ⟨GX, 5, none⟩ = some (.int .i64 til4) ∧ W.cell? ⟨GX, 6, none⟩ = some (.slice sA4 sn4 sc4) ∧ W.cell? ⟨GX, 7, none⟩ = some (.slice cA4 cn4 cc4) ∧ W.cell? ⟨GX, 8, none⟩ = some (.slice tA4 tn4 tc4) ∧ W.cell? aj = some (.int .i64 kd) ∧ W.cell? ⟨aj.block, aj.off + 1, none⟩ = some (.slice qA qn qc) ∧ W.cell? ⟨aj.block, aj.off + 2, none⟩ = some (.int .i64 tl) ∧ W.cell? ⟨aj.block, aj.off + 3, none⟩ = some (.string au))
        ((refine HS13.out _ ?_; repeat (first | (rw [← HW9.out]; exact BY8.out) | with_reducible exact BQ8.out | with_reducible exact BQ7.out | with_reducible exact Below.refl _ _ | with_reducible refine Below.drew ?_ | with_reducible refine Below.alloc ?_ (by first | exact Nat.le_refl _ | exact BQ8.out.size | exact BQ7.out.size) _)))
        ((first
          | (go_at_call 14; ((refine (HCU.out _).mono ?_); rintro er w7 ⟨rfl, b7⟩; have BQ7 : Hid (Below wj.heap.size wj w7) := hid ((Below.refl wj.heap.size wj).drew.trans b7); clear b7))
          | (go_at_call 14; ((refine (HCU.out _).mono ?_); rintro er w7 ⟨rfl, b7⟩; have BQ7 : Hid (Below wj.heap.size wj w7) := hid (((Below.refl wj.heap.size wj).alloc (Nat.le_refl _) _).drew.trans (b7.mono ((Below.refl wj.heap.size wj).alloc (Nat.le_refl _) _).size)); have HY7 : Hid (ThAt w7 wj.heap.size TH.zero) := hid ((b7.block wj.heap.size (ThAt.new wj TH.zero).lt).trans (ThAt.new wj TH.zero)); clear b7))
          | (go_at_call 13; ((refine (HNW.out _ (by with_reducible exact BQ7.out)).mono ?_); rintro er w8 ⟨⟨d5, e5, m5, who5, rA5, rn5, rc5, til5, sA5, sn5, sc5, cA5, cn5, cc5, tA5, tn5, tc5⟩, rfl, nt8⟩; unfold TH.cells; have HY7L := HY7.out.lt; have YA := HY7.out.below nt8.below; clear HY7; have NT8 := hid nt8; have BQ8 : Hid (Below wj.heap.size wj w8) := hid (BQ7.out.trans (nt8.below.mono BQ7.out.size)); have PUT := YA.put ⟨d5, e5, m5, who5, rA5, rn5, rc5, til5, sA5, sn5, sc5, cA5, cn5, cc5, tA5, tn5, tc5⟩; simp only at PUT; obtain ⟨W9, hW9⟩ : ∃ x, x = (((((((((w8.setCell ⟨wj.heap.size, 0, none⟩ (.int .i64 d5)).setCell ⟨wj.heap.size, 1, none⟩ (.int .i64 e5)).setCell ⟨wj.heap.size, 2, none⟩ (.int .i64 m5)).setCell ⟨wj.heap.size, 3, none⟩ (.string who5)).setCell ⟨wj.heap.size, 4, none⟩ (.slice rA5 rn5 rc5)).setCell ⟨wj.heap.size, 5, none⟩ (.int .i64 til5)).setCell ⟨wj.heap.size, 6, none⟩ (.slice sA5 sn5 sc5)).setCell ⟨wj.heap.size, 7, none⟩ (.slice cA5 cn5 cc5)).setCell ⟨wj.heap.size, 8, none⟩ (.slice tA5 tn5 tc5)) := ⟨_, rfl⟩; rw [← hW9] at PUT; have HW9 := hid hW9; have HY9 := hid PUT.1; have BY8 := hid (below_x (BQ8.out) _ PUT.2 (BQ8.out).size (Nat.le_refl _)); have HAY := hid (hay_p nt8.at_ PUT.2 HY7L (Nat.lt_of_lt_of_le HXJ.out.lt BQ7.out.size)); clear PUT hW9 nt8 HY7L; obtain ⟨y0, y1, y2, y3, y4, y5, y6, y7, y8⟩ := YA.all; have z0 := YA.f 0; have z1 := YA.f 1; have z2 := YA.f 2; have z3 := YA.f 3; have z4 := YA.f 4; have z5 := YA.f 5; have z6 := YA.f 6; have z7 := YA.f 7; have z8 := YA.f 8; clear YA))
          | (go_at_call 13; ((refine (HNW.out _ (by with_reducible exact BQ7.out)).mono ?_); rintro er w8 ⟨⟨d5, e5, m5, who5, rA5, rn5, rc5, til5, sA5, sn5, sc5, cA5, cn5, cc5, tA5, tn5, tc5⟩, rfl, nt8⟩; unfold TH.cells; have NT8 := hid nt8; have BQ8 : Hid (Below wj.heap.size wj w8) := hid (BQ7.out.trans (nt8.below.mono BQ7.out.size)); obtain ⟨W9, hW9⟩ : ∃ x, x = w8.alloc (.cells #[.int .i64 d5, .int .i64 e5, .int .i64 m5, .string who5, .slice rA5 rn5 rc5, .int .i64 til5, .slice sA5 sn5 sc5, .slice cA5 cn5 cc5, .slice tA5 tn5 tc5] 27) := ⟨_, rfl⟩; have HW9 := hid hW9; have HY9 : Hid (ThAt W9 w8.heap.size ⟨d5, e5, m5, who5, rA5, rn5, rc5, til5, sA5, sn5, sc5, cA5, cn5, cc5, tA5, tn5, tc5⟩) := hid (by rw [hW9]; exact ThAt.new w8 ⟨d5, e5, m5, who5, rA5, rn5, rc5, til5, sA5, sn5, sc5, cA5, cn5, cc5, tA5, tn5, tc5⟩); have hb89 : Below w8.heap.size w8 W9 := (by rw [hW9]; exact (Below.refl _ _).alloc (Nat.le_refl _) _); have HAY := hid (hay_b nt8.at_ hb89 (Nat.lt_of_lt_of_le HXJ.out.lt BQ7.out.size)); have BY8 := hid (BQ8.out.trans (hb89.mono BQ8.out.size)); clear hb89 hW9 nt8))
          | (go_at_call 13; ((refine (HNW.out _ (by with_reducible exact BQ7.out.alloc BQ7.out.size _)).mono ?_); rintro er w8 ⟨⟨d5, e5, m5, who5, rA5, rn5, rc5, til5, sA5, sn5, sc5, cA5, cn5, cc5, tA5, tn5, tc5⟩, rfl, nt8⟩; unfold TH.cells; have NT8 := hid nt8; have YA := (ThAt.new w7 TH.zero).below nt8.below; have BQ8 : Hid (Below wj.heap.size wj w8) := hid ((BQ7.out.alloc BQ7.out.size _).trans (nt8.below.mono (BQ7.out.alloc BQ7.out.size _).size)); have PUT := YA.put ⟨d5, e5, m5, who5, rA5, rn5, rc5, til5, sA5, sn5, sc5, cA5, cn5, cc5, tA5, tn5, tc5⟩; simp only at PUT; obtain ⟨W9, hW9⟩ : ∃ x, x = (((((((((w8.setCell ⟨w7.heap.size, 0, none⟩ (.int .i64 d5)).setCell ⟨w7.heap.size, 1, none⟩ (.int .i64 e5)).setCell ⟨w7.heap.size, 2, none⟩ (.int .i64 m5)).setCell ⟨w7.heap.size, 3, none⟩ (.string who5)).setCell ⟨w7.heap.size, 4, none⟩ (.slice rA5 rn5 rc5)).setCell ⟨w7.heap.size, 5, none⟩ (.int .i64 til5)).setCell ⟨w7.heap.size, 6, none⟩ (.slice sA5 sn5 sc5)).setCell ⟨w7.heap.size, 7, none⟩ (.slice cA5 cn5 cc5)).setCell ⟨w7.heap.size, 8, none⟩ (.slice tA5 tn5 tc5)) := ⟨_, rfl⟩; rw [← hW9] at PUT; have HW9 := hid hW9; have HY9 := hid PUT.1; have BY8 := hid (below_x (BQ8.out) _ PUT.2 (BQ8.out).size BQ7.out.size); have HAY := hid (hay_p nt8.at_ PUT.2 (ThAt.new w7 TH.zero).lt (Nat.lt_of_lt_of_le HXJ.out.lt (Nat.le_trans BQ7.out.size (Nat.le_of_lt (ThAt.new w7 TH.zero).lt)))); clear PUT hW9 nt8; obtain ⟨y0, y1, y2, y3, y4, y5, y6, y7, y8⟩ := YA.all; have z0 := YA.f 0; have z1 := YA.f 1; have z2 := YA.f 2; have z3 := YA.f 3; have z4 := YA.f 4; have z5 := YA.f 5; have z6 := YA.f 6; have z7 := YA.f 7; have z8 := YA.f 8; clear YA))))
      all_goals
        clear HL HLN HB1 HW1 HB2 HB24 HS13 HNW HCU c0 c1 c2 c3 c4 c5 c6 c7 c8
        have HX9 := hid (HXJ.out.below BY8.out)
        have HA9 := hid (HAJ.out.below BY8.out)
        have HB9 := hid (HB.out.trans (BY8.out.mono HB.out.size))
        rw [← HW9.out]
        clear HXJ HAJ BY8 HW9 HB
        by_cases hF0 : F = 0
        · have hF9 : narE X (fewC cv) = 0 := HF.out.trans hF0
          subst hF0
          have hN9 := (narE_zero.1 hF9).2.1
          rw [HC.out] at hN9
          rw [show narR X (fewC cv) = narrowT X (fewC cv) from if_pos hF9] at HAY
          have HR10 := hid (HRT.out.narrow (narE_zero.1 hF9).2.2 (narE_zero.1 hF9).2.1)
          obtain ⟨Y, hY⟩ : ∃ Y, narrowT X (fewC cv) = Y := ⟨_, rfl⟩
          have HC10 : Hid (Y.cavs.length = N + 1) := hid (by rw [← hY]; show (X.cavs ++ [_]).length = _; rw [List.length_append, HC.out]; rfl)
          rw [hY] at HAY HR10
          clear hY hF9 HF HRT
          have hcn : cn5 = N + 1 := HAY.out.cl.symm.trans HC10.out
          subst hcn
          obtain ⟨y0, y1, y2, y3, y4, y5, y6, y7, y8⟩ := HY9.out.all
          simp only at y0 y1 y2 y3 y4 y5 y6 y7 y8
          have z0 := HX9.out.f 0
          have z1 := HX9.out.f 1
          have z2 := HX9.out.f 2
          have z3 := HX9.out.f 3
          have z4 := HX9.out.f 4
          have z5 := HX9.out.f 5
          have z6 := HX9.out.f 6
          have z7 := HX9.out.f 7
          have z8 := HX9.out.f 8
          obtain ⟨x0, x1, x2, x3, x4, x5, x6, x7, x8⟩ := HX9.out.all
          simp only at x0 x1 x2 x3 x4 x5 x6 x7 x8
          have PUT := HX9.out.put ⟨d5, e5, m5, who5, rA5, rn5, rc5, til5, sA5, sn5, sc5, cA5, (N + 1), cc5, tA5, tn5, tc5⟩
          simp only at PUT
          obtain ⟨W10, hW10⟩ : ∃ x, x = (((((((((W9.setCell ⟨GX, 0, none⟩ (.int .i64 d5)).setCell ⟨GX, 1, none⟩ (.int .i64 e5)).setCell ⟨GX, 2, none⟩ (.int .i64 m5)).setCell ⟨GX, 3, none⟩ (.string who5)).setCell ⟨GX, 4, none⟩ (.slice rA5 rn5 rc5)).setCell ⟨GX, 5, none⟩ (.int .i64 til5)).setCell ⟨GX, 6, none⟩ (.slice sA5 sn5 sc5)).setCell ⟨GX, 7, none⟩ (.slice cA5 (N + 1) cc5)).setCell ⟨GX, 8, none⟩ (.slice tA5 tn5 tc5)) := ⟨_, rfl⟩
          rw [← hW10] at PUT
          have HX10 := hid PUT.1
          have HB10 := hid (below_x HB9.out _ PUT.2 HB9.out.size hg0)
          have HA10 := hid (HAY.out.kept (kept_gro PUT.2 (fun h => h rfl)) PUT.2.size)
          have HW10 := hid hW10
          clear PUT hW10 HX9 HA9 HB9 HAY HY9
          have HV10 := hid (pVerify12_any (HTT.out W10 HB10.out) HA10.out (FewTok.ok HR10.out.ok) A K n2 c HKL.out hn2m hn2c hcm (HKK.out W10 HB10.out))
          rw [HR10.out.ver] at HV10
          simp only at HV10
          go_upto_region 14 with fail
          rw [← HW10.out]
          clear y0 y1 y2 y3 y4 y5 y6 y7 y8 z0 z1 z2 z3 z4 z5 z6 z7 z8 x0 x1 x2 x3 x4 x5 x6 x7 x8 HW10
          obtain ⟨x0, x1, x2, x3, x4, x5, x6, x7, x8⟩ := HX10.out.all
          simp only at x0 x1 x2 x3 x4 x5 x6 x7 x8
          have hN5 : (N : Int) ≤ 5 := by omega
          go_wp2_with fail
          refine HV10.out.mono ?_
          rintro er w11 ⟨rfl, b11⟩
          have HX11 := hid (HX10.out.below b11)
          have HA11 := hid (HA10.out.below b11)
          have HB11 := hid (HB10.out.trans (b11.mono HB10.out.size))
          clear b11 HX10 HA10 HB10 HV10 x0 x1 x2 x3 x4 x5 x6 x7 x8
          obtain ⟨x0, x1, x2, x3, x4, x5, x6, x7, x8⟩ := HX11.out.all
          simp only at x0 x1 x2 x3 x4 x5 x6 x7 x8
          go_wp2_with fail
          go_roundw
          case rel => exact ⟨k + 1, N + 1, _, Y, by go_num, by go_num, by omega, by omega, by omega, HC10, HR10, HX11, HA11, HB11⟩
          case measure => simp [intOf]; omega
        · have hcn : N = cn4 := HC.out.symm.trans HA9.out.cl
          subst hcn
          clear HY9 HAY HF
          obtain ⟨x0, x1, x2, x3, x4, x5, x6, x7, x8⟩ := HX9.out.all
          simp only at x0 x1 x2 x3 x4 x5 x6 x7 x8
          have hN7 : (N : Int) ≤ 6 := by omega
          have HV9 := hid (pVerify12_any (HTT.out W9 HB9.out) HA9.out (FewTok.ok HRT.out.ok) A K n2 c HKL.out hn2m hn2c hcm (HKK.out W9 HB9.out))
          rw [HRT.out.ver] at HV9
          simp only at HV9
          go_wp2_with fail
          refine HV9.out.mono ?_
          rintro er w11 ⟨rfl, b11⟩
          have HX11 := hid (HX9.out.below b11)
          have HA11 := hid (HA9.out.below b11)
          have HB11 := hid (HB9.out.trans (b11.mono HB9.out.size))
          clear b11 HX9 HA9 HB9 HV9 x0 x1 x2 x3 x4 x5 x6 x7 x8
          obtain ⟨x0, x1, x2, x3, x4, x5, x6, x7, x8⟩ := HX11.out.all
          simp only at x0 x1 x2 x3 x4 x5 x6 x7 x8
          go_wp2_with fail
          go_roundw
          case rel => exact ⟨k + 1, N, _, X, by go_num, by go_num, by omega, by omega, by omega, HC, HRT, HX11, HA11, HB11⟩
          case measure => simp [intOf]; omega
    · clear HL HLN HKK HKL HFW HFT HB1 HB2 HB24 HXJ HAJ HC HRT
      by_cases hkl : k < ln
      · have hk1 : (k : Int) < (ln : Int) := by omega
        have hk2 : ¬ (k : Int) < 8 := by omega
        go_wp2_with fail
        refine (HLV.out _ HB.out).mono ?_
        rintro er w9 ⟨rfl, b9⟩
        have HB9 := hid (HB.out.trans (b9.mono HB.out.size))
        clear b9
        go_wp2_with fail
        go_ret
        exact ⟨rfl, HB9.out⟩
      · have hk1 : ¬ (k : Int) < (ln : Int) := by omega
        go_wp2_with fail
        refine (HLV.out _ HB.out).mono ?_
        rintro er w9 ⟨rfl, b9⟩
        have HB9 := hid (HB.out.trans (b9.mono HB.out.size))
        clear b9
        go_wp2_with fail
        go_ret
        exact ⟨rfl, HB9.out⟩
end Go.Proofs.YtaadmgbmaekicaaDoor.Sh
