/-
  The walks of TokenVerifies and TokenMints (the contract of lives is their premise). Written by mk_tklawm.py.
-/
import Derived.Test.YtaadmgbmaekicaaDoorJk42
set_option linter.unusedVariables false
set_option linter.unusedSimpArgs false
namespace Go.Proofs.YtaadmgbmaekicaaDoor.Sh
open Go Go.RowKit

set_option linter.unusedSimpArgs false
set_option linter.unusedVariables false
theorem below_x {w w' : World} {B x : Nat} (h : Below B w w') (w2 : World) (hg : w'.grownBy w2 (some x)) (hB : B ≤ w'.heap.size) (hx : B ≤ x) : Below B w w2 := h.grown hg hB (fun b e => by injection e with e; omega)
set_option maxHeartbeats 16000000 in
set_option maxRecDepth 100000 in
theorem tokenVerifies_walk (hlv : Lives12) {w : World} (hT : Tab w) (A : Option Addr) (key : List UInt8) (n c : Nat) (hn : key.length = n) (hnc : n ≤ c) (hcm : c ≤ 9223372036854775807) (hb : Byt w w.heap.size A key) {th : TH} {t : Tok} (a : TokAt w (fun b => b < w.heap.size) th t) :
    Calls Tryd.prog 3 #[.slice A n c, .agg #[.int .i64 th.d, .int .i64 th.e, .int .i64 th.n, .string th.who, .slice th.rA th.rn th.rc, .int .i64 th.til, .slice th.sA th.sn th.sc, .slice th.cA th.cn th.cc, .slice th.tA th.tn th.tc]] w fun e w' => e = .returned (.bool true) ∧ Below w.heap.size w w' := by
  have HTT := hid (fun W (hW : Below w.heap.size w W) => hT.below hT.pos hW)
  have HLV := hid (fun W (hW : Below w.heap.size w W) => hlv W (hT.below hT.pos hW))
  have HK0 := hid (fun W (hW : Below w.heap.size w W) => (hb.below hW).more hW.size)
  obtain ⟨K, hK⟩ : ∃ K, key.take 100 = K := ⟨_, rfl⟩
  obtain ⟨n2, hn2⟩ : ∃ x, min n 100 = x := ⟨_, rfl⟩
  have HKL : Hid (K.length = n2) := hid (by rw [← hK, List.length_take, hn, Nat.min_comm]; exact hn2)
  have HKK : Hid (∀ W, Below w.heap.size w W → Byt W W.heap.size A K) := hid (fun W hW => by
    rw [← hK]
    intro hpos
    rw [List.length_take] at hpos
    obtain ⟨ad, q1, q2, q3⟩ := HK0.out W hW (by omega)
    exact ⟨ad, q1, q2, fun j x hx => q3 j x (by rw [List.getElem?_take] at hx; split at hx; exact hx; cases hx)⟩)
  have hn2c : n2 ≤ c := by omega
  have hn2m : n2 ≤ 100 := by omega
  have HFW := hid (few12_any A key n c hn hnc hcm)
  rw [hn2] at HFW
  have HFT := hid (FewTok.few t)
  obtain ⟨d, e, m, who, rA, rn, rc, til, sA, sn, sc, cA, cn, cc, tA, tn, tc⟩ := th
  simp only
  obtain ⟨w1, hw1⟩ : ∃ y, y = w.alloc (.cells #[.int .i64 d, .int .i64 e, .int .i64 m, .string who, .slice rA rn rc, .int .i64 til, .slice sA sn sc, .slice cA cn cc, .slice tA tn tc] 27) := ⟨_, rfl⟩
  have HB1 : Hid (Below w.heap.size w w1) := hid (by rw [hw1]; exact (Below.refl _ _).alloc (Nat.le_refl _) _)
  have HX1 : Hid (ThAt w1 w.heap.size ⟨d, e, m, who, rA, rn, rc, til, sA, sn, sc, cA, cn, cc, tA, tn, tc⟩) := hid (by rw [hw1]; exact ThAt.new w ⟨d, e, m, who, rA, rn, rc, til, sA, sn, sc, cA, cn, cc, tA, tn, tc⟩)
  have hs1 : w1.heap.size = w.heap.size + 1 := by rw [hw1]; simp
  have HW1 := hid hw1
  have HF1 := hid (refFew12_any (a.below HB1.out))
  simp only at HF1
  obtain ⟨c0, c1, c2, c3, c4, c5, c6, c7, c8⟩ := HX1.out.all
  simp only at c0 c1 c2 c3 c4 c5 c6 c7 c8
  clear a hw1 hn hb hK hn2 hlv HK0 hT
  go_enter Tryd.func3, Tryd.ntmps3
  go_upto_region 1 with fail
  rw [← HW1.out]
  go_wp2_with fail
  refine (HFW.out w1).mono ?_
  rintro er wq ⟨rfl, hw⟩
  have hw2 : w1 = wq := hw
  subst hw2
  clear hw
  go_wp2_with fail
  refine HF1.out.mono ?_
  rintro er w2 ⟨⟨d2, e2, m2, who2, rA2, rn2, rc2, til2, sA2, sn2, sc2, cA2, cn2, cc2, tA2, tn2, tc2⟩, rfl, a2, b2⟩
  unfold TH.cells
  simp only
  have HX2 := hid (HX1.out.below b2)
  have HB2 := hid (HB1.out.trans (b2.mono HB1.out.size))
  clear c0 c1 c2 c3 c4 c5 c6 c7 c8
  obtain ⟨c0, c1, c2, c3, c4, c5, c6, c7, c8⟩ := HX2.out.all
  have g0 := HX2.out.f 0
  have g1 := HX2.out.f 1
  have g2 := HX2.out.f 2
  have g3 := HX2.out.f 3
  have g4 := HX2.out.f 4
  have g5 := HX2.out.f 5
  have g6 := HX2.out.f 6
  have g7 := HX2.out.f 7
  have g8 := HX2.out.f 8
  simp only at c0 c1 c2 c3 c4 c5 c6 c7 c8
  obtain ⟨hput, hgro⟩ := HX2.out.put ⟨d2, e2, m2, who2, rA2, rn2, rc2, til2, sA2, sn2, sc2, cA2, cn2, cc2, tA2, tn2, tc2⟩
  simp only at hput hgro
  obtain ⟨w3, hw3⟩ : ∃ y, y = (((((((((w2.setCell ⟨w.heap.size, 0, none⟩ (.int .i64 d2)).setCell ⟨w.heap.size, 1, none⟩ (.int .i64 e2)).setCell ⟨w.heap.size, 2, none⟩ (.int .i64 m2)).setCell ⟨w.heap.size, 3, none⟩ (.string who2)).setCell ⟨w.heap.size, 4, none⟩ (.slice rA2 rn2 rc2)).setCell ⟨w.heap.size, 5, none⟩ (.int .i64 til2)).setCell ⟨w.heap.size, 6, none⟩ (.slice sA2 sn2 sc2)).setCell ⟨w.heap.size, 7, none⟩ (.slice cA2 cn2 cc2)).setCell ⟨w.heap.size, 8, none⟩ (.slice tA2 tn2 tc2)) := ⟨_, rfl⟩
  rw [← hw3] at hput hgro
  have HX3 := hid hput
  have HB3 : Hid (Below w.heap.size w w3) := hid (below_x HB2.out w3 hgro HB2.out.size (Nat.le_refl _))
  have HA3 := hid (a2.grew (X := fun b => b = w.heap.size) (Grew.of_gro hgro rfl) (fun b hb he => by omega))
  have HW3 := hid hw3
  clear hw3 hput hgro a2 b2
  go_upto_region 3 with fail
  rw [← HW3.out]
  clear c0 c1 c2 c3 c4 c5 c6 c7 c8 g0 g1 g2 g3 g4 g5 g6 g7 g8 HX1 HX2 HB1 HB2 HF1 HW1 HW3
  obtain ⟨V, hV⟩ : ∃ V, verE K (fewT t) = V := ⟨_, rfl⟩
  have HP := hid (fun W (hW : Below w3.heap.size w3 W) => pVerify12_any (HTT.out W (HB3.out.trans (hW.mono HB3.out.size))) (HA3.out.below hW) HFT.out A K n2 c HKL.out hn2m hn2c hcm (HKK.out W (HB3.out.trans (hW.mono HB3.out.size))))
  have HR := hid (fun W (hW : Below w3.heap.size w3 W) => refVerify_any (HA3.out.below hW) (by have := (HA3.out.below hW).rl; have := HFT.out.r; simp only at *; omega) (fun c hc => by have := HFT.out.c c hc; omega) A K n2 c HKL.out (by omega) (HKK.out W (HB3.out.trans (hW.mono HB3.out.size))))
  rw [hV] at HP HR
  simp only at HP HR
  have HXS := hid (fun W (hW : Below w3.heap.size w3 W) => (HX3.out.below hW).all)
  simp only at HXS
  clear hV
  go_region_held3 (fun W => W.cell? ⟨w.heap.size, 0, none⟩ = some (.int .i64 d2) ∧ W.cell? ⟨w.heap.size, 1, none⟩ = some (.int .i64 e2) ∧ W.cell? ⟨w.heap.size, 2, none⟩ = some (.int .i64 m2) ∧ W.cell? ⟨w.heap.size, 3, none⟩ = some (.string who2) ∧ W.cell? ⟨w.heap.size, 4, none⟩ = some (.slice rA2 rn2 rc2) ∧ W.cell? ⟨w.heap.size, 5, none⟩ = some (.int .i64 til2) ∧ W.cell? ⟨w.heap.size, 6, none⟩ = some (.slice sA2 sn2 sc2) ∧ W.cell? ⟨w.heap.size, 7, none⟩ = some (.slice cA2 cn2 cc2) ∧ W.cell? ⟨w.heap.size, 8, none⟩ = some (.slice tA2 tn2 tc2))
    (first | exact HXS.out _ (Below.refl w3.heap.size w3).drew | exact HXS.out _ BQ7.out | exact HXS.out _ BQ8.out | exact HXS.out _ BQ9.out)
    ((first
      | (go_at_call 9; ((refine (HP.out _ (Below.refl w3.heap.size w3).drew).mono ?_); rintro er w7 ⟨rfl, b7⟩; have BQ7 : Hid (Below w3.heap.size w3 w7) := hid ((Below.refl w3.heap.size w3).drew.trans b7); clear b7))
      | (go_at_call 10; ((refine (HR.out _ BQ7.out).mono ?_); rintro er w8 ⟨rfl, b8⟩; have BQ8 : Hid (Below w3.heap.size w3 w8) := hid (BQ7.out.trans (b8.mono BQ7.out.size)); clear b8))
      | (go_at_call 11; ((refine (HLV.out _ (HB3.out.trans (BQ8.out.mono HB3.out.size))).mono ?_); rintro er w9 ⟨rfl, b9⟩; have BQ9 : Hid (Below w3.heap.size w3 w9) := hid (BQ8.out.trans (b9.mono BQ8.out.size)); clear b9))))
  all_goals
    go_wp2_with fail
    go_ret
    exact ⟨rfl, HB3.out.trans (BQ9.out.mono HB3.out.size)⟩
end Go.Proofs.YtaadmgbmaekicaaDoor.Sh
