/-
  The walk of TokenOwns. Written by mk_tklawo.py.
-/
import Derived.Test.YtaadmgbmaekicaaDoorJk45
import Derived.Test.YtaadmgbmaekicaaDoorJk44
import Derived.Test.YtaadmgbmaekicaaDoorJk48
set_option linter.unusedVariables false
set_option linter.unusedSimpArgs false
namespace Go.Proofs.YtaadmgbmaekicaaDoor.Sh
open Go Go.RowKit

set_option linter.unusedSimpArgs false
set_option linter.unusedVariables false
/-- A new token's data lies in blocks made by the call. -/
theorem NewTok.at2 {w w' : World} {th : TH} {t : Tok} (h : NewTok w w' th t) : TokAt w' (fun b => w.heap.size ≤ b ∧ b < w'.heap.size) th t := h.at_.imp (fun b hb hl => ⟨hb, hl⟩)
theorem NewTok.few {w w' : World} {th : TH} {t : Tok} {hs : List CH} (h : NewTok w w' th t) (hf : FewTok t) (hw : TokWr w' w.heap.size w'.heap.size th hs) : th.rn ≤ 1000 ∧ th.sn ≤ 1000 ∧ th.tn ≤ 1000 ∧ th.cn ≤ 1000 :=
  ⟨by have := h.at_.rl; have := hf.r; omega, by have := h.at_.sl; have := hf.s; omega, by have := h.at_.tl; have := hf.g; omega, by have := h.at_.cl; have := hf.n; omega⟩
theorem few_cr {w w' : World} {th : TH} {t : Tok} {hs : List CH} (h : NewTok w w' th t) (hf : FewTok t) (hw : TokWr w' w.heap.size w'.heap.size th hs) : ∀ (i : Nat) (x : CH), hs[i]? = some x → x.rn ≤ 1000 := fun i x hx => by
  obtain ⟨ks, k1, k2, k3⟩ := h.at_.ce
  have hi := (List.getElem?_eq_some_iff.1 hx).1
  have hlen := hw.len
  have hcl := h.at_.cl
  obtain ⟨g, cs, e, _, _, hrow, _, hcell⟩ := hw.c (by omega)
  obtain ⟨y, hy⟩ : ∃ y, ks[i]? = some y := ⟨_, List.getElem?_eq_getElem (by omega)⟩
  obtain ⟨c, hc⟩ : ∃ c, t.cavs[i]? = some c := ⟨_, List.getElem?_eq_getElem (by omega)⟩
  obtain ⟨ad, e2, _, hb, hcc⟩ := k2 (by omega)
  rw [e] at e2
  obtain rfl := Option.some.inj e2
  have q1 := hcc (i * 4 + 1) (.slice y.rA y.rn y.rc) ((ev_get encC hy (i := 1) (by decide)).trans rfl)
  have q2 := hcell i x hx 1 (.slice x.rA x.rn x.rc) rfl
  rw [addr_rowE, cell_of_row _ _ _ _ _ (0, 0) hrow, q2] at q1
  have q3 : x.rn = y.rn := by injection q1 with q1; injection q1
  have q4 := (k3 i y c hy hc).rl
  have q5 := hf.c c (List.mem_of_getElem? hc)
  omega
set_option maxHeartbeats 64000000 in
set_option maxRecDepth 100000 in
theorem tokenOwns_walk (hlv : Lives12) {w : World} (hT : Tab w) (A : Option Addr) (key : List UInt8) (n c : Nat) (hn : key.length = n) (hnc : n ≤ c) (hcm : c ≤ 9223372036854775807) (hb : Byt w w.heap.size A key) {th : TH} {t : Tok} (a : TokAt w (fun b => b < w.heap.size) th t) {ch : CH} {cv : Cav} (b : CavAt w (fun b => b < w.heap.size) ch cv) :
    Calls Tryd.prog 6 #[.slice A n c, .agg #[.int .i64 th.d, .int .i64 th.e, .int .i64 th.n, .string th.who, .slice th.rA th.rn th.rc, .int .i64 th.til, .slice th.sA th.sn th.sc, .slice th.cA th.cn th.cc, .slice th.tA th.tn th.tc], .agg #[.int .i64 ch.kind, .slice ch.rA ch.rn ch.rc, .int .i64 ch.til, .string ch.aud]] w fun e w' => e = .returned (.bool true) ∧ Below w.heap.size w w' := by
  have HTT := hid (fun W (hW : Below w.heap.size w W) => hT.below hT.pos hW)
  have HLV := hid (fun W (hW : Below w.heap.size w W) => hlv W (hT.below hT.pos hW))
  have HK0 := hid (fun W (hW : Below w.heap.size w W) => (hb.below hW).more hW.size)
  obtain ⟨K, hK⟩ : ∃ K, key.take 100 = K := ⟨_, rfl⟩
  obtain ⟨n2, hn2⟩ : ∃ x, min n 100 = x := ⟨_, rfl⟩
  have HKL : Hid (K.length = n2) := hid (by rw [← hK, List.length_take, hn, Nat.min_comm]; exact hn2)
  have HKK : Hid (∀ W, Below w.heap.size w W → Byt W W.heap.size A K) := hid (fun W hW => by
    rw [← hK]
    intro hpos
    rw [List.length_take] at hpos
    obtain ⟨ad, q1, q2, q3⟩ := HK0.out W hW (by omega)
    exact ⟨ad, q1, q2, fun j x hx => q3 j x (by rw [List.getElem?_take] at hx; split at hx; exact hx; cases hx)⟩)
  have hn2c : n2 ≤ c := by omega
  have hn2m : n2 ≤ 100 := by omega
  have HFW := hid (few12_any A key n c hn hnc hcm)
  rw [hn2] at HFW
  have HFT := hid (FewTok.few t)
  have HCU := hid (fun W => cut12_any ch b.rc b.rm W)
  have HCV := hid (fun W (hW : Below w.heap.size w W) => (cavFew_at b).kept (w' := W) (fun k _ hl => hW.block k hl) hW.size)
  have HC6 : Hid ((fewC cv).roles.length ≤ 6) := hid (by show (cv.roles.take 6).length ≤ 6; rw [List.length_take]; omega)
  obtain ⟨C, hC⟩ : ∃ C, fewC cv = C := ⟨_, rfl⟩
  rw [hC] at HCV HC6
  obtain ⟨d, e, m, who, rA, rn, rc, til, sA, sn, sc, cA, cn, cc, tA, tn, tc⟩ := th
  obtain ⟨xk, xA, xn, xc, xt, xa⟩ := ch
  simp only [fewH] at HCU HCV ⊢
  obtain ⟨x6, hx6⟩ : ∃ x, min xn 6 = x := ⟨_, rfl⟩
  rw [hx6] at HCU HCV
  obtain ⟨w1, hw1⟩ : ∃ y, y = (w.alloc (.cells #[.int .i64 d, .int .i64 e, .int .i64 m, .string who, .slice rA rn rc, .int .i64 til, .slice sA sn sc, .slice cA cn cc, .slice tA tn tc] 27)).alloc (.cells #[.int .i64 xk, .slice xA xn xc, .int .i64 xt, .string xa] 38) := ⟨_, rfl⟩
  have HB1 : Hid (Below w.heap.size w w1) := hid (by rw [hw1]; exact below_alloc2 w _ _)
  have HX1 : Hid (ThAt w1 w.heap.size ⟨d, e, m, who, rA, rn, rc, til, sA, sn, sc, cA, cn, cc, tA, tn, tc⟩) := hid (by rw [hw1]; exact (ThAt.new w ⟨d, e, m, who, rA, rn, rc, til, sA, sn, sc, cA, cn, cc, tA, tn, tc⟩).below ((Below.refl _ _).alloc (Nat.le_refl _) _))
  have HV1 : Hid (ChAt w1 (w.heap.size + 1) ⟨xk, xA, xn, xc, xt, xa⟩) := hid (by
    rw [hw1]
    have q := ChAt.new (w.alloc (.cells #[.int .i64 d, .int .i64 e, .int .i64 m, .string who, .slice rA rn rc, .int .i64 til, .slice sA sn sc, .slice cA cn cc, .slice tA tn tc] 27)) ⟨xk, xA, xn, xc, xt, xa⟩
    rw [World.size_alloc] at q
    exact q)
  have HS1 : Hid (w1.heap.size = w.heap.size + 2) := hid (by rw [hw1]; simp)
  have HW1 := hid hw1
  have HF1 := hid (refFew12_any (a.below HB1.out))
  simp only at HF1
  obtain ⟨TT, hTT⟩ : ∃ TT, fewT t = TT := ⟨_, rfl⟩
  rw [hTT] at HFT HF1
  obtain ⟨c0, c1, c2, c3, c4, c5, c6, c7, c8⟩ := HX1.out.all
  simp only at c0 c1 c2 c3 c4 c5 c6 c7 c8
  clear a b hw1 hn hb hK hn2 hlv HK0 hT hC hx6 hTT
  go_enter Tryd.func6, Tryd.ntmps6
  go_upto_region 1 with fail
  rw [← HW1.out]
  go_wp2_with fail
  refine (HFW.out w1).mono ?_
  rintro er wq ⟨rfl, hw⟩
  have hw2 : w1 = wq := hw
  subst hw2
  clear hw
  go_wp2_with fail
  refine HF1.out.mono ?_
  rintro er w2 ⟨⟨d2, e2, m2, who2, rA2, rn2, rc2, til2, sA2, sn2, sc2, cA2, cn2, cc2, tA2, tn2, tc2⟩, rfl, a2, b2⟩
  unfold TH.cells
  simp only
  have HX2 := hid (HX1.out.below b2)
  have HV2 := hid (HV1.out.below b2)
  have HB2 := hid (HB1.out.trans (b2.mono HB1.out.size))
  have HS2 : Hid (w.heap.size + 2 ≤ w2.heap.size) := hid (by have := b2.size; have := HS1.out; omega)
  clear c0 c1 c2 c3 c4 c5 c6 c7 c8
  obtain ⟨c0, c1, c2, c3, c4, c5, c6, c7, c8⟩ := HX2.out.all
  have g0 := HX2.out.f 0
  have g1 := HX2.out.f 1
  have g2 := HX2.out.f 2
  have g3 := HX2.out.f 3
  have g4 := HX2.out.f 4
  have g5 := HX2.out.f 5
  have g6 := HX2.out.f 6
  have g7 := HX2.out.f 7
  have g8 := HX2.out.f 8
  simp only at c0 c1 c2 c3 c4 c5 c6 c7 c8
  obtain ⟨hput, hgro⟩ := HX2.out.put ⟨d2, e2, m2, who2, rA2, rn2, rc2, til2, sA2, sn2, sc2, cA2, cn2, cc2, tA2, tn2, tc2⟩
  simp only at hput hgro
  obtain ⟨w3, hw3⟩ : ∃ y, y = (((((((((w2.setCell ⟨w.heap.size, 0, none⟩ (.int .i64 d2)).setCell ⟨w.heap.size, 1, none⟩ (.int .i64 e2)).setCell ⟨w.heap.size, 2, none⟩ (.int .i64 m2)).setCell ⟨w.heap.size, 3, none⟩ (.string who2)).setCell ⟨w.heap.size, 4, none⟩ (.slice rA2 rn2 rc2)).setCell ⟨w.heap.size, 5, none⟩ (.int .i64 til2)).setCell ⟨w.heap.size, 6, none⟩ (.slice sA2 sn2 sc2)).setCell ⟨w.heap.size, 7, none⟩ (.slice cA2 cn2 cc2)).setCell ⟨w.heap.size, 8, none⟩ (.slice tA2 tn2 tc2)) := ⟨_, rfl⟩
  rw [← hw3] at hput hgro
  have HX3 := hid hput
  have HV3 := hid (HV2.out.other hgro (by omega))
  have HB3 : Hid (Below w.heap.size w w3) := hid (below_x HB2.out w3 hgro HB2.out.size (Nat.le_refl _))
  have HA3 := hid (a2.grew (X := fun b => b = w.heap.size) (Grew.of_gro hgro rfl) (fun b hb he => by have := HS1.out; omega))
  have HS3 : Hid (w.heap.size + 2 ≤ w3.heap.size) := hid (by have := hgro.size; have := HS2.out; omega)
  have HW3 := hid hw3
  clear hw3 hput hgro a2 b2
  go_upto_region 3 with fail
  rw [← HW3.out]
  clear c0 c1 c2 c3 c4 c5 c6 c7 c8 g0 g1 g2 g3 g4 g5 g6 g7 g8 HX1 HX2 HB1 HB2 HF1 HW1 HW3 HV1 HV2
  obtain ⟨x0, x1, x2, x3⟩ := HV3.out.all
  simp only at x0 x1 x2 x3
  go_wp2_with fail
  refine (HCU.out w3).mono ?_
  rintro er w4 ⟨rfl, b4⟩
  have HX4 := hid (HX3.out.below b4)
  have HV4 := hid (HV3.out.below b4)
  have HA4 := hid (HA3.out.below b4)
  have HB4 := hid (HB3.out.trans (b4.mono HB3.out.size))
  have HS4 : Hid (w.heap.size + 2 ≤ w4.heap.size) := hid (by have := b4.size; have := HS3.out; omega)
  clear x0 x1 x2 x3 b4
  obtain ⟨x0, x1, x2, x3⟩ := HV4.out.all
  simp only at x0 x1 x2 x3
  have y0 := HV4.out.f 0
  have y1 := HV4.out.f 1
  have y2 := HV4.out.f 2
  have y3 := HV4.out.f 3
  obtain ⟨w5, hw5⟩ : ∃ y, y = ((((w4.setCell ⟨w.heap.size + 1, 0, none⟩ (.int .i64 xk)).setCell ⟨w.heap.size + 1, 1, none⟩ (.slice xA x6 xc)).setCell ⟨w.heap.size + 1, 2, none⟩ (.int .i64 xt)).setCell ⟨w.heap.size + 1, 3, none⟩ (.string xa)) := ⟨_, rfl⟩
  have HV5 : Hid (ChAt w5 (w.heap.size + 1) ⟨xk, xA, x6, xc, xt, xa⟩) := hid (by rw [hw5]; exact four_set (show w4.heap[w.heap.size + 1]? = some (.cells #[.int .i64 xk, .slice xA xn xc, .int .i64 xt, .string xa] 38 (0, 0)) from HV4.out) _ _ _ _)
  have HG5 : Hid (Grew w4 w5 (fun b => b = w.heap.size + 1)) := hid (by rw [hw5]; exact (((Grew.of_gro (X := fun b => b = w.heap.size + 1) (gro_set1 _ _ _ _) rfl).trans (Grew.of_gro (X := fun b => b = w.heap.size + 1) (gro_set1 _ _ _ _) rfl)).trans (Grew.of_gro (X := fun b => b = w.heap.size + 1) (gro_set1 _ _ _ _) rfl)).trans (Grew.of_gro (X := fun b => b = w.heap.size + 1) (gro_set1 _ _ _ _) rfl))
  have HX5 : Hid (ThAt w5 w.heap.size ⟨d2, e2, m2, who2, rA2, rn2, rc2, til2, sA2, sn2, sc2, cA2, cn2, cc2, tA2, tn2, tc2⟩) := hid ((HG5.out.block _ HX4.out.lt (by omega)).trans HX4.out)
  have HB5 : Hid (Below w.heap.size w w5) := hid (HG5.out.then_below HB4.out HB4.out.size (fun b hb => by omega))
  have HA5 := hid (HA4.out.grew HG5.out (fun b hb he => by have := HS1.out; omega))
  have HS5 : Hid (w.heap.size + 2 ≤ w5.heap.size) := hid (by have := HG5.out.size; have := HS4.out; omega)
  have HW5 := hid hw5
  clear hw5
  go_upto_region 4 with fail
  rw [← HW5.out]
  clear x0 x1 x2 x3 y0 y1 y2 y3 HX3 HX4 HV3 HV4 HA3 HA4 HB3 HB4 HG5 HW5 HS1 HS2 HS3 HS4
  have HP5 := hid (fun W (hW : Below w5.heap.size w5 W) => pMint12_any (HTT.out W (HB5.out.trans (hW.mono HB5.out.size))) (HA5.out.below hW) HFT.out A K n2 c HKL.out hn2m hn2c hcm (HKK.out W (HB5.out.trans (hW.mono HB5.out.size))))
  obtain ⟨M, hM⟩ : ∃ M, mintR K TT = M := ⟨_, rfl⟩
  obtain ⟨E, hE⟩ : ∃ E, mintE TT = E := ⟨_, rfl⟩
  have HFM : Hid (FewTok M) := hid (by rw [← hM]; exact HFT.out.mint K)
  have HE01 : Hid (E = 0 ∨ E = 25) := hid (by rw [← hE]; exact mintE_cases TT)
  simp only at HP5
  rw [hM, hE] at HP5
  have HMM := hid hM
  have HEE' := hid hE
  have HP5' := hid (HP5.out w5 (Below.refl _ _))
  clear hM hE
  obtain ⟨c0, c1, c2, c3, c4, c5, c6, c7, c8⟩ := HX5.out.all
  simp only at c0 c1 c2 c3 c4 c5 c6 c7 c8
  go_wp2_with fail
  refine HP5'.out.mono ?_
  rintro er w6 ⟨⟨d_a, e_a, m_a, who_a, rA_a, rn_a, rc_a, til_a, sA_a, sn_a, sc_a, cA_a, cn_a, cc_a, tA_a, tn_a, tc_a⟩, rfl, na⟩
  unfold TH.cells
  simp only
  have HNA := hid na
  obtain ⟨w7, hw7⟩ : ∃ y, y = w6.alloc (.cells #[.int .i64 d_a, .int .i64 e_a, .int .i64 m_a, .string who_a, .slice rA_a rn_a rc_a, .int .i64 til_a, .slice sA_a sn_a sc_a, .slice cA_a cn_a cc_a, .slice tA_a tn_a tc_a] 27) := ⟨_, rfl⟩
  have hb7 : Below w6.heap.size w6 w7 := by rw [hw7]; exact (Below.refl _ _).alloc (Nat.le_refl _) _
  have HI7 : Hid (Below w5.heap.size w5 w7) := hid (na.below.trans (hb7.mono na.below.size))
  have HYA : Hid (ThAt w7 w6.heap.size ⟨d_a, e_a, m_a, who_a, rA_a, rn_a, rc_a, til_a, sA_a, sn_a, sc_a, cA_a, cn_a, cc_a, tA_a, tn_a, tc_a⟩) := hid (by rw [hw7]; exact ThAt.new w6 ⟨d_a, e_a, m_a, who_a, rA_a, rn_a, rc_a, til_a, sA_a, sn_a, sc_a, cA_a, cn_a, cc_a, tA_a, tn_a, tc_a⟩)
  have HS67 : Hid (w5.heap.size ≤ w6.heap.size ∧ w7.heap.size = w6.heap.size + 1) := hid ⟨na.below.size, by rw [hw7]; simp⟩
  have HB67 := hid hb7
  have HW7 := hid hw7
  clear na hw7 hb7 c0 c1 c2 c3 c4 c5 c6 c7 c8
  go_upto_region 5 with fail
  rw [← HW7.out]
  obtain ⟨ga, hga, HYA⟩ := named12 (P := fun g => Hid (ThAt w7 g ⟨d_a, e_a, m_a, who_a, rA_a, rn_a, rc_a, til_a, sA_a, sn_a, sc_a, cA_a, cn_a, cc_a, tA_a, tn_a, tc_a⟩)) HYA
  have HGA : Hid (ga = w6.heap.size) := hid hga
  rw [← hga]
  clear hga
  rcases HE01.out with hE0 | hE0
  rotate_left 1
  · subst hE0
    have HLV7 := hid (HLV.out w7 (HB5.out.trans (HI7.out.mono HB5.out.size)))
    go_wp2_with fail
    refine HLV7.out.mono ?_
    rintro er w8 ⟨rfl, b8⟩
    have HB8 := hid ((HB5.out.trans (HI7.out.mono HB5.out.size)).trans (b8.mono (HB5.out.trans (HI7.out.mono HB5.out.size)).size))
    go_wp2_with fail
    go_ret
    exact ⟨rfl, HB8.out⟩
  · subst hE0
    have HP7 := hid (HP5.out w7 HI7.out)
    obtain ⟨c0, c1, c2, c3, c4, c5, c6, c7, c8⟩ := (HX5.out.below HI7.out).all
    simp only at c0 c1 c2 c3 c4 c5 c6 c7 c8
    go_wp2_with fail
    refine HP7.out.mono ?_
    rintro er w8 ⟨⟨d_b, e_b, m_b, who_b, rA_b, rn_b, rc_b, til_b, sA_b, sn_b, sc_b, cA_b, cn_b, cc_b, tA_b, tn_b, tc_b⟩, rfl, nb⟩
    unfold TH.cells
    simp only
    have HNB := hid nb
    obtain ⟨w9, hw9⟩ : ∃ y, y = w8.alloc (.cells #[.int .i64 d_b, .int .i64 e_b, .int .i64 m_b, .string who_b, .slice rA_b rn_b rc_b, .int .i64 til_b, .slice sA_b sn_b sc_b, .slice cA_b cn_b cc_b, .slice tA_b tn_b tc_b] 27) := ⟨_, rfl⟩
    have hb9 : Below w8.heap.size w8 w9 := by rw [hw9]; exact (Below.refl _ _).alloc (Nat.le_refl _) _
    have HI9 : Hid (Below w7.heap.size w7 w9) := hid (nb.below.trans (hb9.mono nb.below.size))
    have HYB : Hid (ThAt w9 w8.heap.size ⟨d_b, e_b, m_b, who_b, rA_b, rn_b, rc_b, til_b, sA_b, sn_b, sc_b, cA_b, cn_b, cc_b, tA_b, tn_b, tc_b⟩) := hid (by rw [hw9]; exact ThAt.new w8 ⟨d_b, e_b, m_b, who_b, rA_b, rn_b, rc_b, til_b, sA_b, sn_b, sc_b, cA_b, cn_b, cc_b, tA_b, tn_b, tc_b⟩)
    have HS89 : Hid (w7.heap.size ≤ w8.heap.size ∧ w9.heap.size = w8.heap.size + 1) := hid ⟨nb.below.size, by rw [hw9]; simp⟩
    have HB89 := hid hb9
    have HW9 := hid hw9
    clear nb hw9 hb9 c0 c1 c2 c3 c4 c5 c6 c7 c8
    go_upto_region 8 with fail
    rw [← HW9.out]
    obtain ⟨gb, hgb, HYB⟩ := named12 (P := fun g => Hid (ThAt w9 g ⟨d_b, e_b, m_b, who_b, rA_b, rn_b, rc_b, til_b, sA_b, sn_b, sc_b, cA_b, cn_b, cc_b, tA_b, tn_b, tc_b⟩)) HYB
    have HGB : Hid (gb = w8.heap.size) := hid hgb
    rw [← hgb]
    clear hgb
    have HI59 : Hid (Below w5.heap.size w5 w9) := hid (HI7.out.trans (HI9.out.mono HI7.out.size))
    have HN := hid (fun (W : World) (Q : Nat → Prop) (zh : TH) (hW : Below w.heap.size w W) (z : TokAt W Q zh M) => pNarrow12_any (HTT.out W hW) z HFM.out (HCV.out W hW) HC6.out)
    obtain ⟨N, hN⟩ : ∃ N, narR M C = N := ⟨_, rfl⟩
    obtain ⟨F, hF⟩ : ∃ F, narE M C = F := ⟨_, rfl⟩
    have HFN : Hid (FewTok N) := hid (by rw [← hN]; exact FewTok.narrow)
    rw [hN, hF] at HN
    clear hN hF
    have HB9 : Hid (Below w.heap.size w w9) := hid (HB5.out.trans (HI59.out.mono HB5.out.size))
    have HA9 : Hid (TokAt w9 (fun b => w5.heap.size ≤ b ∧ b < w6.heap.size) ⟨d_a, e_a, m_a, who_a, rA_a, rn_a, rc_a, til_a, sA_a, sn_a, sc_a, cA_a, cn_a, cc_a, tA_a, tn_a, tc_a⟩ M) := hid ((HNA.out.at2.below HB67.out).below HI9.out)
    have HU9 := hid (HN.out _ _ _ HB9.out HA9.out)
    obtain ⟨c0, c1, c2, c3, c4, c5, c6, c7, c8⟩ := (HYA.out.below HI9.out).all
    obtain ⟨x0, x1, x2, x3⟩ := (HV5.out.below HI59.out).all
    simp only at c0 c1 c2 c3 c4 c5 c6 c7 c8 x0 x1 x2 x3 HU9
    go_wp2_with fail
    refine HU9.out.mono ?_
    rintro er w10 ⟨⟨d_u, e_u, m_u, who_u, rA_u, rn_u, rc_u, til_u, sA_u, sn_u, sc_u, cA_u, cn_u, cc_u, tA_u, tn_u, tc_u⟩, rfl, nu⟩
    unfold TH.cells
    simp only
    have HNU := hid nu
    obtain ⟨w11, hw11⟩ : ∃ y, y = w10.alloc (.cells #[.int .i64 d_u, .int .i64 e_u, .int .i64 m_u, .string who_u, .slice rA_u rn_u rc_u, .int .i64 til_u, .slice sA_u sn_u sc_u, .slice cA_u cn_u cc_u, .slice tA_u tn_u tc_u] 27) := ⟨_, rfl⟩
    have hb11 : Below w10.heap.size w10 w11 := by rw [hw11]; exact (Below.refl _ _).alloc (Nat.le_refl _) _
    have HI11 : Hid (Below w9.heap.size w9 w11) := hid (nu.below.trans (hb11.mono nu.below.size))
    have HYU : Hid (ThAt w11 w10.heap.size ⟨d_u, e_u, m_u, who_u, rA_u, rn_u, rc_u, til_u, sA_u, sn_u, sc_u, cA_u, cn_u, cc_u, tA_u, tn_u, tc_u⟩) := hid (by rw [hw11]; exact ThAt.new w10 ⟨d_u, e_u, m_u, who_u, rA_u, rn_u, rc_u, til_u, sA_u, sn_u, sc_u, cA_u, cn_u, cc_u, tA_u, tn_u, tc_u⟩)
    have HS1011 : Hid (w9.heap.size ≤ w10.heap.size ∧ w11.heap.size = w10.heap.size + 1) := hid ⟨nu.below.size, by rw [hw11]; simp⟩
    have HB1011 := hid hb11
    have HW11 := hid hw11
    clear nu hw11 hb11 c0 c1 c2 c3 c4 c5 c6 c7 c8 x0 x1 x2 x3
    go_upto_region 9 with fail
    rw [← HW11.out]
    obtain ⟨gu, hgu, HYU⟩ := named12 (P := fun g => Hid (ThAt w11 g ⟨d_u, e_u, m_u, who_u, rA_u, rn_u, rc_u, til_u, sA_u, sn_u, sc_u, cA_u, cn_u, cc_u, tA_u, tn_u, tc_u⟩)) HYU
    have HGU : Hid (gu = w10.heap.size) := hid hgu
    rw [← hgu]
    clear hgu
    have HB11 : Hid (Below w.heap.size w w11) := hid (HB9.out.trans (HI11.out.mono HB9.out.size))
    have HBB11 : Hid (TokAt w11 (fun b => w7.heap.size ≤ b ∧ b < w8.heap.size) ⟨d_b, e_b, m_b, who_b, rA_b, rn_b, rc_b, til_b, sA_b, sn_b, sc_b, cA_b, cn_b, cc_b, tA_b, tn_b, tc_b⟩ M) := hid ((HNB.out.at2.below HB89.out).below HI11.out)
    have HVN := hid (HN.out _ _ _ HB11.out HBB11.out)
    obtain ⟨c0, c1, c2, c3, c4, c5, c6, c7, c8⟩ := (HYB.out.below HI11.out).all
    obtain ⟨x0, x1, x2, x3⟩ := ((HV5.out.below HI59.out).below HI11.out).all
    simp only at c0 c1 c2 c3 c4 c5 c6 c7 c8 x0 x1 x2 x3 HVN
    go_wp2_with fail
    refine HVN.out.mono ?_
    rintro er w12 ⟨⟨d_v, e_v, m_v, who_v, rA_v, rn_v, rc_v, til_v, sA_v, sn_v, sc_v, cA_v, cn_v, cc_v, tA_v, tn_v, tc_v⟩, rfl, nv⟩
    unfold TH.cells
    simp only
    have HNV := hid nv
    obtain ⟨w13, hw13⟩ : ∃ y, y = w12.alloc (.cells #[.int .i64 d_v, .int .i64 e_v, .int .i64 m_v, .string who_v, .slice rA_v rn_v rc_v, .int .i64 til_v, .slice sA_v sn_v sc_v, .slice cA_v cn_v cc_v, .slice tA_v tn_v tc_v] 27) := ⟨_, rfl⟩
    have hb13 : Below w12.heap.size w12 w13 := by rw [hw13]; exact (Below.refl _ _).alloc (Nat.le_refl _) _
    have HI13 : Hid (Below w11.heap.size w11 w13) := hid (nv.below.trans (hb13.mono nv.below.size))
    have HYV : Hid (ThAt w13 w12.heap.size ⟨d_v, e_v, m_v, who_v, rA_v, rn_v, rc_v, til_v, sA_v, sn_v, sc_v, cA_v, cn_v, cc_v, tA_v, tn_v, tc_v⟩) := hid (by rw [hw13]; exact ThAt.new w12 ⟨d_v, e_v, m_v, who_v, rA_v, rn_v, rc_v, til_v, sA_v, sn_v, sc_v, cA_v, cn_v, cc_v, tA_v, tn_v, tc_v⟩)
    have HS1213 : Hid (w11.heap.size ≤ w12.heap.size ∧ w13.heap.size = w12.heap.size + 1) := hid ⟨nv.below.size, by rw [hw13]; simp⟩
    have HB1213 := hid hb13
    have HW13 := hid hw13
    clear nv hw13 hb13 c0 c1 c2 c3 c4 c5 c6 c7 c8 x0 x1 x2 x3
    go_upto_region 10 with fail
    rw [← HW13.out]
    obtain ⟨gv, hgv, HYV⟩ := named12 (P := fun g => Hid (ThAt w13 g ⟨d_v, e_v, m_v, who_v, rA_v, rn_v, rc_v, til_v, sA_v, sn_v, sc_v, cA_v, cn_v, cc_v, tA_v, tn_v, tc_v⟩)) HYV
    have HGV : Hid (gv = w12.heap.size) := hid hgv
    rw [← hgv]
    clear hgv
    have HI713 : Hid (Below w7.heap.size w7 w13) := hid ((HI9.out.trans (HI11.out.mono HI9.out.size)).trans (HI13.out.mono (HI9.out.trans (HI11.out.mono HI9.out.size)).size))
    have HI913 : Hid (Below w9.heap.size w9 w13) := hid (HI11.out.trans (HI13.out.mono HI11.out.size))
    have HI513 : Hid (Below w5.heap.size w5 w13) := hid (HI7.out.trans (HI713.out.mono HI7.out.size))
    have HB13 : Hid (Below w.heap.size w w13) := hid (HB11.out.trans (HI13.out.mono HB11.out.size))
    obtain ⟨hsA, hwA⟩ := HNA.out.wr
    have HCRA : Hid (∀ (i : Nat) (x : CH), hsA[i]? = some x → x.rn ≤ 1000) := hid (few_cr HNA.out HFM.out hwA)
    obtain ⟨q1, q2, q3, q4⟩ := HNA.out.few HFM.out hwA
    have HSP := hid (pspoil_any ((hwA.below HB67.out).below HI713.out) (by have := HI713.out.size; have := HS67.out; omega) q1 q2 q3 q4 HCRA.out)
    obtain ⟨c0, c1, c2, c3, c4, c5, c6, c7, c8⟩ := (HYA.out.below HI713.out).all
    simp only at c0 c1 c2 c3 c4 c5 c6 c7 c8 HSP
    clear hwA q1 q2 q3 q4
    go_wp2_with fail
    refine HSP.out.mono ?_
    rintro er w14 ⟨rfl, hg14⟩
    have HG14 := hid hg14
    have HS14 : Hid (w13.heap.size ≤ w14.heap.size) := hid hg14.size
    have hSZ : w5.heap.size ≤ w6.heap.size ∧ w7.heap.size = w6.heap.size + 1 ∧ w7.heap.size ≤ w8.heap.size ∧ w9.heap.size = w8.heap.size + 1 ∧ w9.heap.size ≤ w10.heap.size ∧ w11.heap.size = w10.heap.size + 1 ∧ w11.heap.size ≤ w12.heap.size ∧ w13.heap.size = w12.heap.size + 1 ∧ w13.heap.size ≤ w14.heap.size ∧ w.heap.size + 2 ≤ w5.heap.size := ⟨HS67.out.1, HS67.out.2, HS89.out.1, HS89.out.2, HS1011.out.1, HS1011.out.2, HS1213.out.1, HS1213.out.2, hg14.size, HS5.out⟩
    have HSZ := hid hSZ
    have HBB13 : Hid (TokAt w13 (fun b => w7.heap.size ≤ b ∧ b < w8.heap.size) ⟨d_b, e_b, m_b, who_b, rA_b, rn_b, rc_b, til_b, sA_b, sn_b, sc_b, cA_b, cn_b, cc_b, tA_b, tn_b, tc_b⟩ M) := hid (HBB11.out.below HI13.out)
    have HYB13 : Hid (ThAt w13 gb ⟨d_b, e_b, m_b, who_b, rA_b, rn_b, rc_b, til_b, sA_b, sn_b, sc_b, cA_b, cn_b, cc_b, tA_b, tn_b, tc_b⟩) := hid ((HYB.out.below HI11.out).below HI13.out)
    have HYU13 : Hid (ThAt w13 gu ⟨d_u, e_u, m_u, who_u, rA_u, rn_u, rc_u, til_u, sA_u, sn_u, sc_u, cA_u, cn_u, cc_u, tA_u, tn_u, tc_u⟩) := hid (HYU.out.below HI13.out)
    have HUU13 : Hid (TokAt w13 (fun b => w9.heap.size ≤ b ∧ b < w10.heap.size) ⟨d_u, e_u, m_u, who_u, rA_u, rn_u, rc_u, til_u, sA_u, sn_u, sc_u, cA_u, cn_u, cc_u, tA_u, tn_u, tc_u⟩ N) := hid ((HNU.out.at2.below HB1011.out).below HI13.out)
    have HVV13 : Hid (TokAt w13 (fun b => w11.heap.size ≤ b ∧ b < w12.heap.size) ⟨d_v, e_v, m_v, who_v, rA_v, rn_v, rc_v, til_v, sA_v, sn_v, sc_v, cA_v, cn_v, cc_v, tA_v, tn_v, tc_v⟩ N) := hid (HNV.out.at2.below HB1213.out)
    have HX13 : Hid (ThAt w13 w.heap.size ⟨d2, e2, m2, who2, rA2, rn2, rc2, til2, sA2, sn2, sc2, cA2, cn2, cc2, tA2, tn2, tc2⟩) := hid (HX5.out.below HI513.out)
    have HC13 : Hid (ChAt w13 (w.heap.size + 1) ⟨xk, xA, x6, xc, xt, xa⟩) := hid (HV5.out.below HI513.out)
    have HT13 : Hid (TokAt w13 (fun b => b < w5.heap.size) ⟨d2, e2, m2, who2, rA2, rn2, rc2, til2, sA2, sn2, sc2, cA2, cn2, cc2, tA2, tn2, tc2⟩ TT) := hid ((HA5.out.imp (R := fun b => b < w5.heap.size) (fun b _ hl => hl)).below HI513.out)
    obtain ⟨hsU, hwU⟩ := HNU.out.wr
    have HWU13 : Hid (TokWr w13 w9.heap.size w10.heap.size ⟨d_u, e_u, m_u, who_u, rA_u, rn_u, rc_u, til_u, sA_u, sn_u, sc_u, cA_u, cn_u, cc_u, tA_u, tn_u, tc_u⟩ hsU) := hid ((hwU.below HB1011.out).below HI13.out)
    have HCRU := hid (few_cr HNU.out HFN.out hwU)
    have HQU := hid (HNU.out.few HFN.out hwU)
    clear hg14 hSZ c0 c1 c2 c3 c4 c5 c6 c7 c8 hwU HSP HYA HYB HYU HNU HNV HNB HNA HBB11 HA9 HA5 HI7 HI9 HI11 HI13 HI59 HI713 HI913 HB67 HB89 HB1011 HB1213 HW7 HW9 HW11 HW13 HV5 HX5 HU9 HVN HP7 HP5' HB9 HB11 HS14 HS1213 HS1011 HS89 HS67 HS5 HCRA
    have HGO : Hid (∀ (W : World) (X : Nat → Prop), Grew w14 W X → Grew w13 W (fun b => (w5.heap.size ≤ b ∧ b < w6.heap.size) ∨ X b)) := hid (fun W X h => (HG14.out.mono (fun b _ h => .inl h)).trans (h.mono (fun b _ h => .inr h)))
    have HBB14 := hid (HBB13.out.grew (HGO.out w14 (fun _ => False) (Grew.refl _ _)) (fun b hb h => by have := HSZ.out; rcases h with h | h <;> first | omega | exact h))
    have HYB14 : Hid (ThAt w14 gb ⟨d_b, e_b, m_b, who_b, rA_b, rn_b, rc_b, til_b, sA_b, sn_b, sc_b, cA_b, cn_b, cc_b, tA_b, tn_b, tc_b⟩) := hid ((HG14.out.block _ HYB13.out.lt (fun h => by have := HSZ.out; have := HGB.out; omega)).trans HYB13.out)
    have HB14 : Hid (Below w.heap.size w w14) := hid (HG14.out.then_below HB13.out HB13.out.size (fun b hb => by have := HSZ.out; omega))
    have HRO := hid (pRoles12_any HBB14.out HFM.out)
    have HRL6 : Hid ((rolesT M).length ≤ 6) := hid (Nat.le_trans (List.length_filter_le _ _) HFM.out.r)
    obtain ⟨c0, c1, c2, c3, c4, c5, c6, c7, c8⟩ := HYB14.out.all
    simp only at c0 c1 c2 c3 c4 c5 c6 c7 c8 HRO
    go_wp2_with fail
    refine HRO.out.mono ?_
    rintro er w15 ⟨AL, nL, cL, rfl, hL1, hL2, hL3, -, hL5, b15⟩
    have hnL : nL ≤ 6 := by have := HRL6.out; omega
    have HO15 := hid hL5
    have HG15 : Hid (Grew w14 w15 (fun b => w14.heap.size ≤ b)) := hid (Grew.of_below b15)
    have HS15 : Hid (w14.heap.size ≤ w15.heap.size) := hid b15.size
    clear hL3 hL5 b15 c0 c1 c2 c3 c4 c5 c6 c7 c8 HYB14 HBB14 HRO HB14
    go_wp2_with fail
    go_loopw [16] (fun v wr => ∃ i : Nat, v = .int .i64 (i : Int) ∧ i ≤ nL ∧ Hid (OpN wr 42 2 w14.heap.size w15.heap.size AL nL) ∧ Hid (Grew w14 wr (fun b => w14.heap.size ≤ b))) (fun v _ => nL - (intOf v).toNat)
    case atStart => exact ⟨0, rfl, Nat.zero_le _, HO15, HG15⟩
    case round =>
      clear HO15 HG15
      obtain ⟨wj, hwj⟩ : ∃ x, x = wr := ⟨_, rfl⟩
      subst hwj
      obtain ⟨i, rfl, hi, HO, HG⟩ := hrel
      have hi0 : (0 : Int) ≤ (i : Int) := Int.natCast_nonneg _
      by_cases hlt : i < nL
      · have hi1 : (i : Int) < (nL : Int) := by omega
        obtain ⟨gr, hA, hgB, hgU, cs, hrow, hsz⟩ := HO.out (by omega)
        subst hA
        have ai := addr_rowE gr (i * 2)
        have f0 := frozen_of_row wj gr (i * 2) _ _ hrow
        have f1 := frozen_of_row wj gr (i * 2 + 1) _ _ hrow
        obtain ⟨y0, hy0⟩ : ∃ y, wj.cell? ⟨gr, i * 2, none⟩ = some y := ⟨_, (cell_of_row wj gr (i * 2) _ _ (0, 0) hrow).trans (Array.getElem?_eq_getElem (by omega))⟩
        obtain ⟨y1, hy1⟩ : ∃ y, wj.cell? ⟨gr, i * 2 + 1, none⟩ = some y := ⟨_, (cell_of_row wj gr (i * 2 + 1) _ _ (0, 0) hrow).trans (Array.getElem?_eq_getElem (by omega))⟩
        obtain ⟨wz, hwz⟩ : ∃ y, y = ((wj.setCell ⟨gr, i * 2, none⟩ (.string ⟨#[]⟩)).setCell ⟨gr, i * 2 + 1, none⟩ (.string ⟨#[]⟩)) := ⟨_, rfl⟩
        have HOZ : Hid (OpN wz 42 2 w14.heap.size w15.heap.size (some ⟨gr, 0, none⟩) nL) := hid (by rw [hwz]; exact (HO.out.set gr (i * 2) (.string ⟨#[]⟩)).set gr (i * 2 + 1) (.string ⟨#[]⟩))
        have HGZ : Hid (Grew w14 wz (fun b => w14.heap.size ≤ b)) := hid (by rw [hwz]; exact (HG.out.trans (Grew.of_gro (gro_set1 _ _ _ _) hgB)).trans (Grew.of_gro (gro_set1 _ _ _ _) hgB))
        have HWZ := hid hwz
        clear hwz hrow hsz hgB hgU
        go_wp2_with fail
        rw [← HWZ.out]
        go_roundw
        case rel => exact ⟨i + 1, by go_num, by omega, HOZ, HGZ⟩
        case measure => simp [intOf]; omega
      · have hi1 : ¬ (i : Int) < (nL : Int) := by omega
        have HL := hid (HGO.out wj _ HG.out)
        have HSJ : Hid (w14.heap.size ≤ wj.heap.size) := hid HG.out.size
        have HBJ : Hid (Below w.heap.size w wj) := hid (HL.out.then_below HB13.out HB13.out.size (fun b hb => by have := HSZ.out; rcases hb with hb | hb <;> omega))
        have hok : ∀ b, (w9.heap.size ≤ b ∧ b < w14.heap.size) → ¬ ((w5.heap.size ≤ b ∧ b < w6.heap.size) ∨ w14.heap.size ≤ b) := fun b hb h => by have := HSZ.out; rcases h with h | h <;> omega
        have HOK := hid hok
        have HUJ := hid (HUU13.out.grew HL.out (fun b hb => HOK.out b (by have := HSZ.out; omega)))
        have HVJ := hid (HVV13.out.grew HL.out (fun b hb => HOK.out b (by have := HSZ.out; omega)))
        have HYUJ : Hid (ThAt wj gu ⟨d_u, e_u, m_u, who_u, rA_u, rn_u, rc_u, til_u, sA_u, sn_u, sc_u, cA_u, cn_u, cc_u, tA_u, tn_u, tc_u⟩) := hid ((HL.out.block _ HYU13.out.lt (HOK.out _ (by have := HSZ.out; have := HGU.out; omega))).trans HYU13.out)
        have HYVJ : Hid (ThAt wj gv ⟨d_v, e_v, m_v, who_v, rA_v, rn_v, rc_v, til_v, sA_v, sn_v, sc_v, cA_v, cn_v, cc_v, tA_v, tn_v, tc_v⟩) := hid ((HL.out.block _ HYV.out.lt (HOK.out _ (by have := HSZ.out; have := HGV.out; omega))).trans HYV.out)
        have HWUJ := hid (HWU13.out.grew HL.out (fun b h1 h2 => HOK.out b (by have := HSZ.out; omega)))
        have HSM := hid (sameTok_eq HUJ.out HVJ.out (by have := HFN.out.r; omega) (by have := HFN.out.s; omega) (by have := HFN.out.g; omega) (fun c hc => by have := HFN.out.c c hc; omega))
        obtain ⟨c0, c1, c2, c3, c4, c5, c6, c7, c8⟩ := HYUJ.out.all
        obtain ⟨z0, z1, z2, z3, z4, z5, z6, z7, z8⟩ := HYVJ.out.all
        simp only at c0 c1 c2 c3 c4 c5 c6 c7 c8 z0 z1 z2 z3 z4 z5 z6 z7 z8 HSM
        clear hok
        go_wp2_with fail
        refine HSM.out.mono ?_
        rintro er w16 ⟨rfl, b16⟩
        have HB16 := hid b16
        have HSP2 := hid (pspoil_any (HWUJ.out.below b16) (by have := b16.size; have := HSJ.out; have := HSZ.out; omega) HQU.out.1 HQU.out.2.1 HQU.out.2.2.1 HQU.out.2.2.2 HCRU.out)
        clear b16 c0 c1 c2 c3 c4 c5 c6 c7 c8 z0 z1 z2 z3 z4 z5 z6 z7 z8
        obtain ⟨c0, c1, c2, c3, c4, c5, c6, c7, c8⟩ := (HYUJ.out.below HB16.out).all
        simp only at c0 c1 c2 c3 c4 c5 c6 c7 c8 HSP2
        go_wp2_with fail
        refine HSP2.out.mono ?_
        rintro er w17 ⟨rfl, hg17⟩
        have HXX : Hid (Grew w13 w17 (fun b => (w5.heap.size ≤ b ∧ b < w6.heap.size) ∨ (w9.heap.size ≤ b ∧ b < w10.heap.size) ∨ w14.heap.size ≤ b)) := hid (((HL.out.mono (fun b _ h => by rcases h with h | h; exact .inl h; exact .inr (.inr h))).trans (Grew.of_below HB16.out)).trans (hg17.mono (fun b _ h => .inr (.inl h))))
        have HS17 : Hid (w14.heap.size ≤ w17.heap.size) := hid (by have := HSJ.out; have := HB16.out.size; have := hg17.size; omega)
        have HB17 : Hid (Below w.heap.size w w17) := hid (HXX.out.then_below HB13.out HB13.out.size (fun b hb => by have := HSZ.out; rcases hb with hb | hb | hb <;> omega))
        have HBB17 : Hid (TokAt w17 (fun b => w7.heap.size ≤ b ∧ b < w8.heap.size) ⟨d_b, e_b, m_b, who_b, rA_b, rn_b, rc_b, til_b, sA_b, sn_b, sc_b, cA_b, cn_b, cc_b, tA_b, tn_b, tc_b⟩ M) := hid (HBB13.out.grew HXX.out (fun b hb h => by have := HSZ.out; rcases h with h | h | h <;> omega))
        have HVV17 : Hid (TokAt w17 (fun b => w11.heap.size ≤ b ∧ b < w12.heap.size) ⟨d_v, e_v, m_v, who_v, rA_v, rn_v, rc_v, til_v, sA_v, sn_v, sc_v, cA_v, cn_v, cc_v, tA_v, tn_v, tc_v⟩ N) := hid (HVV13.out.grew HXX.out (fun b hb h => by have := HSZ.out; rcases h with h | h | h <;> omega))
        have HTT17 : Hid (TokAt w17 (fun b => b < w5.heap.size) ⟨d2, e2, m2, who2, rA2, rn2, rc2, til2, sA2, sn2, sc2, cA2, cn2, cc2, tA2, tn2, tc2⟩ TT) := hid (HT13.out.grew HXX.out (fun b hb h => by have := HSZ.out; rcases h with h | h | h <;> omega))
        have HYB17 : Hid (ThAt w17 gb ⟨d_b, e_b, m_b, who_b, rA_b, rn_b, rc_b, til_b, sA_b, sn_b, sc_b, cA_b, cn_b, cc_b, tA_b, tn_b, tc_b⟩) := hid ((HXX.out.block _ HYB13.out.lt (fun h => by have := HSZ.out; have := HGB.out; rcases h with h | h | h <;> omega)).trans HYB13.out)
        have HYV17 : Hid (ThAt w17 gv ⟨d_v, e_v, m_v, who_v, rA_v, rn_v, rc_v, til_v, sA_v, sn_v, sc_v, cA_v, cn_v, cc_v, tA_v, tn_v, tc_v⟩) := hid ((HXX.out.block _ HYV.out.lt (fun h => by have := HSZ.out; have := HGV.out; rcases h with h | h | h <;> omega)).trans HYV.out)
        have HX17 : Hid (ThAt w17 w.heap.size ⟨d2, e2, m2, who2, rA2, rn2, rc2, til2, sA2, sn2, sc2, cA2, cn2, cc2, tA2, tn2, tc2⟩) := hid ((HXX.out.block _ HX13.out.lt (fun h => by have := HSZ.out; rcases h with h | h | h <;> omega)).trans HX13.out)
        have HC17 : Hid (ChAt w17 (w.heap.size + 1) ⟨xk, xA, x6, xc, xt, xa⟩) := hid ((HXX.out.block _ HC13.out.lt (fun h => by have := HSZ.out; rcases h with h | h | h <;> omega)).trans HC13.out)
        have HWN := hid (HN.out _ _ _ HB17.out HBB17.out)
        clear hg17 c0 c1 c2 c3 c4 c5 c6 c7 c8
        obtain ⟨c0, c1, c2, c3, c4, c5, c6, c7, c8⟩ := HYB17.out.all
        obtain ⟨x0, x1, x2, x3⟩ := HC17.out.all
        simp only at c0 c1 c2 c3 c4 c5 c6 c7 c8 x0 x1 x2 x3 HWN
        go_wp2_with fail
        refine HWN.out.mono ?_
        rintro er w18 ⟨⟨d_w, e_w, m_w, who_w, rA_w, rn_w, rc_w, til_w, sA_w, sn_w, sc_w, cA_w, cn_w, cc_w, tA_w, tn_w, tc_w⟩, rfl, nw⟩
        unfold TH.cells
        simp only
        have HNW := hid nw
        obtain ⟨w19, hw19⟩ : ∃ y, y = w18.alloc (.cells #[.int .i64 d_w, .int .i64 e_w, .int .i64 m_w, .string who_w, .slice rA_w rn_w rc_w, .int .i64 til_w, .slice sA_w sn_w sc_w, .slice cA_w cn_w cc_w, .slice tA_w tn_w tc_w] 27) := ⟨_, rfl⟩
        have hb19 : Below w18.heap.size w18 w19 := by rw [hw19]; exact (Below.refl _ _).alloc (Nat.le_refl _) _
        have HI19 : Hid (Below w17.heap.size w17 w19) := hid (nw.below.trans (hb19.mono nw.below.size))
        have HYW : Hid (ThAt w19 w18.heap.size ⟨d_w, e_w, m_w, who_w, rA_w, rn_w, rc_w, til_w, sA_w, sn_w, sc_w, cA_w, cn_w, cc_w, tA_w, tn_w, tc_w⟩) := hid (by rw [hw19]; exact ThAt.new w18 ⟨d_w, e_w, m_w, who_w, rA_w, rn_w, rc_w, til_w, sA_w, sn_w, sc_w, cA_w, cn_w, cc_w, tA_w, tn_w, tc_w⟩)
        have HWW19 := hid (nw.at_.below hb19)
        have HW19 := hid hw19
        clear nw hw19 hb19 c0 c1 c2 c3 c4 c5 c6 c7 c8 x0 x1 x2 x3
        go_upto_region 19 with fail
        rw [← HW19.out]
        obtain ⟨gw, hgw, HYW⟩ := named12 (P := fun g => Hid (ThAt w19 g ⟨d_w, e_w, m_w, who_w, rA_w, rn_w, rc_w, til_w, sA_w, sn_w, sc_w, cA_w, cn_w, cc_w, tA_w, tn_w, tc_w⟩)) HYW
        rw [← hgw]
        clear hgw
        have HSM2 := hid (sameTok_eq (HVV17.out.below HI19.out) HWW19.out (by have := HFN.out.r; omega) (by have := HFN.out.s; omega) (by have := HFN.out.g; omega) (fun c hc => by have := HFN.out.c c hc; omega))
        obtain ⟨c0, c1, c2, c3, c4, c5, c6, c7, c8⟩ := (HYV17.out.below HI19.out).all
        obtain ⟨z0, z1, z2, z3, z4, z5, z6, z7, z8⟩ := HYW.out.all
        simp only at c0 c1 c2 c3 c4 c5 c6 c7 c8 z0 z1 z2 z3 z4 z5 z6 z7 z8 HSM2
        go_wp2_with fail
        refine HSM2.out.mono ?_
        rintro er w20 ⟨rfl, b20⟩
        have HI20 : Hid (Below w17.heap.size w17 w20) := hid (HI19.out.trans (b20.mono HI19.out.size))
        have HB20 := hid (HB17.out.trans (HI20.out.mono HB17.out.size))
        have HMT := hid (pMint12_any (HTT.out w20 HB20.out) (HTT17.out.below HI20.out) HFT.out A K n2 c HKL.out hn2m hn2c hcm (HKK.out w20 HB20.out))
        rw [HMM.out, HEE'.out] at HMT
        clear b20 c0 c1 c2 c3 c4 c5 c6 c7 c8 z0 z1 z2 z3 z4 z5 z6 z7 z8
        obtain ⟨c0, c1, c2, c3, c4, c5, c6, c7, c8⟩ := (HX17.out.below HI20.out).all
        simp only at c0 c1 c2 c3 c4 c5 c6 c7 c8 HMT
        go_wp2_with fail
        refine HMT.out.mono ?_
        rintro er w21 ⟨⟨d_g, e_g, m_g, who_g, rA_g, rn_g, rc_g, til_g, sA_g, sn_g, sc_g, cA_g, cn_g, cc_g, tA_g, tn_g, tc_g⟩, rfl, ng⟩
        unfold TH.cells
        simp only
        obtain ⟨w22, hw22⟩ : ∃ y, y = w21.alloc (.cells #[.int .i64 d_g, .int .i64 e_g, .int .i64 m_g, .string who_g, .slice rA_g rn_g rc_g, .int .i64 til_g, .slice sA_g sn_g sc_g, .slice cA_g cn_g cc_g, .slice tA_g tn_g tc_g] 27) := ⟨_, rfl⟩
        have hb22 : Below w21.heap.size w21 w22 := by rw [hw22]; exact (Below.refl _ _).alloc (Nat.le_refl _) _
        have HI22 : Hid (Below w17.heap.size w17 w22) := hid (HI20.out.trans ((ng.below.trans (hb22.mono ng.below.size)).mono HI20.out.size))
        have HYG : Hid (ThAt w22 w21.heap.size ⟨d_g, e_g, m_g, who_g, rA_g, rn_g, rc_g, til_g, sA_g, sn_g, sc_g, cA_g, cn_g, cc_g, tA_g, tn_g, tc_g⟩) := hid (by rw [hw22]; exact ThAt.new w21 ⟨d_g, e_g, m_g, who_g, rA_g, rn_g, rc_g, til_g, sA_g, sn_g, sc_g, cA_g, cn_g, cc_g, tA_g, tn_g, tc_g⟩)
        have HGG22 := hid (ng.at_.below hb22)
        have HW22 := hid hw22
        clear ng hw22 hb22 c0 c1 c2 c3 c4 c5 c6 c7 c8
        go_upto_region 21 with fail
        rw [← HW22.out]
        obtain ⟨gg, hgg, HYG⟩ := named12 (P := fun g => Hid (ThAt w22 g ⟨d_g, e_g, m_g, who_g, rA_g, rn_g, rc_g, til_g, sA_g, sn_g, sc_g, cA_g, cn_g, cc_g, tA_g, tn_g, tc_g⟩)) HYG
        rw [← hgg]
        clear hgg
        have HSM3 := hid (sameTok_eq HGG22.out (HBB17.out.below HI22.out) (by have := HFM.out.r; omega) (by have := HFM.out.s; omega) (by have := HFM.out.g; omega) (fun c hc => by have := HFM.out.c c hc; omega))
        obtain ⟨c0, c1, c2, c3, c4, c5, c6, c7, c8⟩ := HYG.out.all
        obtain ⟨z0, z1, z2, z3, z4, z5, z6, z7, z8⟩ := (HYB17.out.below HI22.out).all
        simp only at c0 c1 c2 c3 c4 c5 c6 c7 c8 z0 z1 z2 z3 z4 z5 z6 z7 z8 HSM3
        go_wp2_with fail
        refine HSM3.out.mono ?_
        rintro er w23 ⟨rfl, b23⟩
        have HB23 := hid ((HB17.out.trans (HI22.out.mono HB17.out.size)).trans (b23.mono (HB17.out.trans (HI22.out.mono HB17.out.size)).size))
        have HLV23 := hid (HLV.out w23 HB23.out)
        clear b23 c0 c1 c2 c3 c4 c5 c6 c7 c8 z0 z1 z2 z3 z4 z5 z6 z7 z8
        go_wp2_with fail
        refine HLV23.out.mono ?_
        rintro er w24 ⟨rfl, b24⟩
        have HB24 := hid (HB23.out.trans (b24.mono HB23.out.size))
        go_wp2_with fail
        go_ret
        exact ⟨rfl, HB24.out⟩
end Go.Proofs.YtaadmgbmaekicaaDoor.Sh
