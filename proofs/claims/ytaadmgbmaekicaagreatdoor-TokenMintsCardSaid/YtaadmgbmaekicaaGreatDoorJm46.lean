/-
  The walks of TokenVerifies and TokenMints (the contract of lives is their premise). Written by mk_tklawm.py.
-/
import Derived.Test.YtaadmgbmaekicaaGreatDoorJm43
set_option linter.unusedVariables false
set_option linter.unusedSimpArgs false
namespace Go.Proofs.YtaadmgbmaekicaaGreatDoor.Sh
open Go Go.RowKit

set_option linter.unusedSimpArgs false
set_option linter.unusedVariables false
theorem below_x {w w' : World} {B x : Nat} (h : Below B w w') (w2 : World) (hg : w'.grownBy w2 (some x)) (hB : B ≤ w'.heap.size) (hx : B ≤ x) : Below B w w2 := h.grown hg hB (fun b e => by injection e with e; omega)
set_option maxHeartbeats 16000000 in
set_option maxRecDepth 100000 in
theorem tokenMints_walk (hlv : Lives12) {w : World} (hT : Tab w) (A : Option Addr) (key : List UInt8) (n c : Nat) (hn : key.length = n) (hnc : n ≤ c) (hcm : c ≤ 9223372036854775807) (hb : Byt w w.heap.size A key) {th : TH} {t : Tok} (a : TokAt w (fun b => b < w.heap.size) th t) :
    Calls Tryz.prog 3 #[.slice A n c, .agg #[.int .i64 th.d, .int .i64 th.e, .int .i64 th.n, .string th.who, .slice th.rA th.rn th.rc, .int .i64 th.til, .slice th.sA th.sn th.sc, .slice th.cA th.cn th.cc, .slice th.tA th.tn th.tc]] w fun e w' => e = .returned (.bool true) ∧ Below w.heap.size w w' := by
  have HTT := hid (fun W (hW : Below w.heap.size w W) => hT.below hT.pos hW)
  have HLV := hid (fun W (hW : Below w.heap.size w W) => hlv W (hT.below hT.pos hW))
  have HK0 := hid (fun W (hW : Below w.heap.size w W) => (hb.below hW).more hW.size)
  obtain ⟨K, hK⟩ : ∃ K, key.take 100 = K := ⟨_, rfl⟩
  obtain ⟨n2, hn2⟩ : ∃ x, min n 100 = x := ⟨_, rfl⟩
  have HKL : Hid (K.length = n2) := hid (by rw [← hK, List.length_take, hn, Nat.min_comm]; exact hn2)
  have HKK : Hid (∀ W, Below w.heap.size w W → Byt W W.heap.size A K) := hid (fun W hW => by
    rw [← hK]
    intro hpos
    rw [List.length_take] at hpos
    obtain ⟨ad, q1, q2, q3⟩ := HK0.out W hW (by omega)
    exact ⟨ad, q1, q2, fun j x hx => q3 j x (by rw [List.getElem?_take] at hx; split at hx; exact hx; cases hx)⟩)
  have hn2c : n2 ≤ c := by omega
  have hn2m : n2 ≤ 100 := by omega
  have HFW := hid (few12_any A key n c hn hnc hcm)
  rw [hn2] at HFW
  have HFT := hid (FewTok.few t)
  obtain ⟨d, e, m, who, rA, rn, rc, til, sA, sn, sc, cA, cn, cc, tA, tn, tc⟩ := th
  simp only
  obtain ⟨w1, hw1⟩ : ∃ y, y = w.alloc (.cells #[.int .i64 d, .int .i64 e, .int .i64 m, .string who, .slice rA rn rc, .int .i64 til, .slice sA sn sc, .slice cA cn cc, .slice tA tn tc] 27) := ⟨_, rfl⟩
  have HB1 : Hid (Below w.heap.size w w1) := hid (by rw [hw1]; exact (Below.refl _ _).alloc (Nat.le_refl _) _)
  have HX1 : Hid (ThAt w1 w.heap.size ⟨d, e, m, who, rA, rn, rc, til, sA, sn, sc, cA, cn, cc, tA, tn, tc⟩) := hid (by rw [hw1]; exact ThAt.new w ⟨d, e, m, who, rA, rn, rc, til, sA, sn, sc, cA, cn, cc, tA, tn, tc⟩)
  have hs1 : w1.heap.size = w.heap.size + 1 := by rw [hw1]; simp
  have HW1 := hid hw1
  have HF1 := hid (refFew12_any (a.below HB1.out))
  simp only at HF1
  obtain ⟨c0, c1, c2, c3, c4, c5, c6, c7, c8⟩ := HX1.out.all
  simp only at c0 c1 c2 c3 c4 c5 c6 c7 c8
  clear a hw1 hn hb hK hn2 hlv HK0 hT
  go_enter Tryz.func3, Tryz.ntmps3
  go_upto_region 1 with fail
  rw [← HW1.out]
  go_wp2_with fail
  refine (HFW.out w1).mono ?_
  rintro er wq ⟨rfl, hw⟩
  have hw2 : w1 = wq := hw
  subst hw2
  clear hw
  go_wp2_with fail
  refine HF1.out.mono ?_
  rintro er w2 ⟨⟨d2, e2, m2, who2, rA2, rn2, rc2, til2, sA2, sn2, sc2, cA2, cn2, cc2, tA2, tn2, tc2⟩, rfl, a2, b2⟩
  unfold TH.cells
  simp only
  have HX2 := hid (HX1.out.below b2)
  have HB2 := hid (HB1.out.trans (b2.mono HB1.out.size))
  clear c0 c1 c2 c3 c4 c5 c6 c7 c8
  obtain ⟨c0, c1, c2, c3, c4, c5, c6, c7, c8⟩ := HX2.out.all
  have g0 := HX2.out.f 0
  have g1 := HX2.out.f 1
  have g2 := HX2.out.f 2
  have g3 := HX2.out.f 3
  have g4 := HX2.out.f 4
  have g5 := HX2.out.f 5
  have g6 := HX2.out.f 6
  have g7 := HX2.out.f 7
  have g8 := HX2.out.f 8
  simp only at c0 c1 c2 c3 c4 c5 c6 c7 c8
  obtain ⟨hput, hgro⟩ := HX2.out.put ⟨d2, e2, m2, who2, rA2, rn2, rc2, til2, sA2, sn2, sc2, cA2, cn2, cc2, tA2, tn2, tc2⟩
  simp only at hput hgro
  obtain ⟨w3, hw3⟩ : ∃ y, y = (((((((((w2.setCell ⟨w.heap.size, 0, none⟩ (.int .i64 d2)).setCell ⟨w.heap.size, 1, none⟩ (.int .i64 e2)).setCell ⟨w.heap.size, 2, none⟩ (.int .i64 m2)).setCell ⟨w.heap.size, 3, none⟩ (.string who2)).setCell ⟨w.heap.size, 4, none⟩ (.slice rA2 rn2 rc2)).setCell ⟨w.heap.size, 5, none⟩ (.int .i64 til2)).setCell ⟨w.heap.size, 6, none⟩ (.slice sA2 sn2 sc2)).setCell ⟨w.heap.size, 7, none⟩ (.slice cA2 cn2 cc2)).setCell ⟨w.heap.size, 8, none⟩ (.slice tA2 tn2 tc2)) := ⟨_, rfl⟩
  rw [← hw3] at hput hgro
  have HX3 := hid hput
  have HB3 : Hid (Below w.heap.size w w3) := hid (below_x HB2.out w3 hgro HB2.out.size (Nat.le_refl _))
  have HA3 := hid (a2.grew (X := fun b => b = w.heap.size) (Grew.of_gro hgro rfl) (fun b hb he => by omega))
  have HW3 := hid hw3
  clear hw3 hput hgro a2 b2
  go_upto_region 3 with fail
  rw [← HW3.out]
  clear c0 c1 c2 c3 c4 c5 c6 c7 c8 g0 g1 g2 g3 g4 g5 g6 g7 g8 HX1 HX2 HB1 HB2 HF1 HW1 HW3
  obtain ⟨c0, c1, c2, c3, c4, c5, c6, c7, c8⟩ := HX3.out.all
  simp only at c0 c1 c2 c3 c4 c5 c6 c7 c8
  have HP3 := hid (pMint12_any (HTT.out w3 HB3.out) HA3.out HFT.out A K n2 c HKL.out hn2m hn2c hcm (HKK.out w3 HB3.out))
  have HFM := hid (HFT.out.mint K)
  simp only at HP3
  obtain ⟨M, hM⟩ : ∃ M, mintR K (fewT t) = M := ⟨_, rfl⟩
  obtain ⟨E, hE⟩ : ∃ E, mintE (fewT t) = E := ⟨_, rfl⟩
  rw [hM] at HFM
  rw [hM, hE] at HP3
  go_wp2_with fail
  refine HP3.out.mono ?_
  rintro er w4 ⟨⟨d4, e4, m4, who4, rA4, rn4, rc4, til4, sA4, sn4, sc4, cA4, cn4, cc4, tA4, tn4, tc4⟩, rfl, nt⟩
  unfold TH.cells
  simp only
  obtain ⟨w5, hw5⟩ : ∃ y, y = w4.alloc (.cells #[.int .i64 d4, .int .i64 e4, .int .i64 m4, .string who4, .slice rA4 rn4 rc4, .int .i64 til4, .slice sA4 sn4 sc4, .slice cA4 cn4 cc4, .slice tA4 tn4 tc4] 27) := ⟨_, rfl⟩
  have hb45 : Below w4.heap.size w4 w5 := by rw [hw5]; exact (Below.refl _ _).alloc (Nat.le_refl _) _
  have HB35 : Hid (Below w3.heap.size w3 w5) := hid (nt.below.trans (hb45.mono nt.below.size))
  have HY5 : Hid (ThAt w5 w4.heap.size ⟨d4, e4, m4, who4, rA4, rn4, rc4, til4, sA4, sn4, sc4, cA4, cn4, cc4, tA4, tn4, tc4⟩) := hid (by rw [hw5]; exact ThAt.new w4 ⟨d4, e4, m4, who4, rA4, rn4, rc4, til4, sA4, sn4, sc4, cA4, cn4, cc4, tA4, tn4, tc4⟩)
  have HM5 := hid (nt.at_.below hb45)
  have HX5 := hid (HX3.out.below HB35.out)
  have HA5 := hid (HA3.out.below HB35.out)
  have HB5 := hid (HB3.out.trans (HB35.out.mono HB3.out.size))
  have HW5 := hid hw5
  have HR5 := hid (refMint_any HA5.out (by have := HA5.out.rl; have := HFT.out.r; simp only at *; omega) A K n2 c HKL.out (by omega) (HKK.out w5 HB5.out))
  simp only at HR5
  rw [hM, hE] at HR5
  clear hM hE nt hw5 hb45 c0 c1 c2 c3 c4 c5 c6 c7 c8
  go_upto_region 4 with fail
  rw [← HW5.out]
  obtain ⟨c0, c1, c2, c3, c4, c5, c6, c7, c8⟩ := HX5.out.all
  simp only at c0 c1 c2 c3 c4 c5 c6 c7 c8
  go_wp2_with fail
  refine HR5.out.mono ?_
  rintro er w6 ⟨⟨d6, e6, m6, who6, rA6, rn6, rc6, til6, sA6, sn6, sc6, cA6, cn6, cc6, tA6, tn6, tc6⟩, rfl, a6, b6⟩
  unfold TH.cells
  simp only
  obtain ⟨w7, hw7⟩ : ∃ y, y = w6.alloc (.cells #[.int .i64 d6, .int .i64 e6, .int .i64 m6, .string who6, .slice rA6 rn6 rc6, .int .i64 til6, .slice sA6 sn6 sc6, .slice cA6 cn6 cc6, .slice tA6 tn6 tc6] 27) := ⟨_, rfl⟩
  have hb67 : Below w6.heap.size w6 w7 := by rw [hw7]; exact (Below.refl _ _).alloc (Nat.le_refl _) _
  have HB57 : Hid (Below w5.heap.size w5 w7) := hid (b6.trans (hb67.mono b6.size))
  have HZ7 : Hid (ThAt w7 w6.heap.size ⟨d6, e6, m6, who6, rA6, rn6, rc6, til6, sA6, sn6, sc6, cA6, cn6, cc6, tA6, tn6, tc6⟩) := hid (by rw [hw7]; exact ThAt.new w6 ⟨d6, e6, m6, who6, rA6, rn6, rc6, til6, sA6, sn6, sc6, cA6, cn6, cc6, tA6, tn6, tc6⟩)
  have HY7 := hid (HY5.out.below HB57.out)
  have HX7 := hid (HX5.out.below HB57.out)
  have HA7 := hid (HA5.out.below HB57.out)
  have HB7 := hid (HB5.out.trans (HB57.out.mono HB5.out.size))
  have HW7 := hid hw7
  have HS7 := hid (sameTok_eq (HM5.out.below HB57.out) (a6.below hb67) (by have := HFM.out.r; omega) (by have := HFM.out.s; omega) (by have := HFM.out.g; omega) (fun c hc => by have := HFM.out.c c hc; omega))
  simp only at HS7
  clear a6 b6 hw7 hb67 c0 c1 c2 c3 c4 c5 c6 c7 c8
  go_upto_region 5 with fail
  rw [← HW7.out]
  obtain ⟨c0, c1, c2, c3, c4, c5, c6, c7, c8⟩ := HY7.out.all
  obtain ⟨z0, z1, z2, z3, z4, z5, z6, z7, z8⟩ := HZ7.out.all
  simp only at c0 c1 c2 c3 c4 c5 c6 c7 c8 z0 z1 z2 z3 z4 z5 z6 z7 z8
  go_wp2_with fail
  refine HS7.out.mono ?_
  rintro er w8 ⟨rfl, b8⟩
  have HX8 := hid (fun W (hW : Below w8.heap.size w8 W) => ((HX7.out.below b8).below hW).all)
  have HB8 := hid (HB7.out.trans (b8.mono HB7.out.size))
  have HA8 := hid (HA7.out.below b8)
  simp only at HX8
  obtain ⟨bo, hbo⟩ : ∃ b, @decide (OkTok (fewT t)) (Classical.propDecidable _) = b := ⟨_, rfl⟩
  have HP := hid (fun W (hW : Below w8.heap.size w8 W) => pMay12_any (HA8.out.below hW) HFT.out)
  have HR := hid (fun W (hW : Below w8.heap.size w8 W) => refMay12_any (HA8.out.below hW) (by have := (HA8.out.below hW).rl; have := HFT.out.r; simp only at *; omega) (fun c hc => by have := HFT.out.c c hc; omega))
  rw [hbo] at HP HR
  simp only at HP HR
  clear hbo b8 c0 c1 c2 c3 c4 c5 c6 c7 c8 z0 z1 z2 z3 z4 z5 z6 z7 z8 HX3 HX5 HX7 HY5 HY7 HZ7
  go_wp2_with fail
  cases bo
  all_goals
    go_region_held3 (fun W => W.cell? ⟨w.heap.size, 0, none⟩ = some (.int .i64 d2) ∧ W.cell? ⟨w.heap.size, 1, none⟩ = some (.int .i64 e2) ∧ W.cell? ⟨w.heap.size, 2, none⟩ = some (.int .i64 m2) ∧ W.cell? ⟨w.heap.size, 3, none⟩ = some (.string who2) ∧ W.cell? ⟨w.heap.size, 4, none⟩ = some (.slice rA2 rn2 rc2) ∧ W.cell? ⟨w.heap.size, 5, none⟩ = some (.int .i64 til2) ∧ W.cell? ⟨w.heap.size, 6, none⟩ = some (.slice sA2 sn2 sc2) ∧ W.cell? ⟨w.heap.size, 7, none⟩ = some (.slice cA2 cn2 cc2) ∧ W.cell? ⟨w.heap.size, 8, none⟩ = some (.slice tA2 tn2 tc2))
      (first | exact HX8.out _ (Below.refl w8.heap.size w8).drew | exact HX8.out _ BQ9.out | exact HX8.out _ BQ10.out | exact HX8.out _ BQ11.out)
      ((first
        | (go_at_call 10; ((refine (HP.out _ (Below.refl w8.heap.size w8).drew).mono ?_); rintro er w9 ⟨rfl, b9⟩; have BQ9 : Hid (Below w8.heap.size w8 w9) := hid ((Below.refl w8.heap.size w8).drew.trans b9); clear b9))
        | (go_at_call 11; ((refine (HR.out _ BQ9.out).mono ?_); rintro er w10 ⟨rfl, b10⟩; have BQ10 : Hid (Below w8.heap.size w8 w10) := hid (BQ9.out.trans (b10.mono BQ9.out.size)); clear b10))
        | (go_at_call 12; ((refine (HLV.out _ (HB8.out.trans (BQ10.out.mono HB8.out.size))).mono ?_); rintro er w11 ⟨rfl, b11⟩; have BQ11 : Hid (Below w8.heap.size w8 w11) := hid (BQ10.out.trans (b11.mono BQ10.out.size)); clear b11))))
    all_goals
      go_wp2_with fail
      go_ret
      exact ⟨rfl, HB8.out.trans (BQ11.out.mono HB8.out.size)⟩
end Go.Proofs.YtaadmgbmaekicaaGreatDoor.Sh
