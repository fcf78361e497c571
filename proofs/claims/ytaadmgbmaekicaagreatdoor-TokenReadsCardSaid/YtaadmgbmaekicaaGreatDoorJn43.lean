/-
  The program's own Narrow of a token, by contract. Written by mk_tkpgk.py.
-/
import Derived.Test.YtaadmgbmaekicaaGreatDoorJn41
import Derived.Test.YtaadmgbmaekicaaGreatDoorJn42
import Derived.Test.YtaadmgbmaekicaaGreatDoorJn37
import Derived.Test.YtaadmgbmaekicaaGreatDoorJn39
set_option linter.unusedVariables false
set_option linter.unusedSimpArgs false
namespace Go.Proofs.YtaadmgbmaekicaaGreatDoor.Sh
open Go Go.RowKit

set_option linter.unusedSimpArgs false
set_option linter.unusedVariables false
theorem ThAt.at2 {w0 w : World} (o o' : Obj) : ThAt ((((w0.alloc o).alloc o').alloc (.cells TH.zero.cells.toArray 27))) (w0.heap.size + 1 + 1) TH.zero := by
  have q := ThAt.new ((w0.alloc o).alloc o') TH.zero
  rw [World.size_alloc, World.size_alloc] at q
  exact q
theorem els_one {w : World} (x : CH) : Els encC (w.alloc (.cells #[.int .i64 x.kind, .slice x.rA x.rn x.rc, .int .i64 x.til, .string x.aud] 51)) (w.alloc (.cells #[.int .i64 x.kind, .slice x.rA x.rn x.rc, .int .i64 x.til, .string x.aud] 51)).heap.size (some ⟨w.heap.size, 0, none⟩) [x] :=
  RowE.els (tl := []) (T := 51) (heap_alloc_new w _)
open Classical in
set_option maxHeartbeats 32000000 in
set_option maxRecDepth 100000 in
theorem pNarrow12_any {w : World} (hT : Tab w) {Q R : Nat → Prop} {th : TH} {t : Tok} (a : TokAt w Q th t) (hf : FewTok t) {ch : CH} {cv : Cav} (b : CavAt w R ch cv) (hc : cv.roles.length ≤ 6) :
    Calls Tryz.prog 37 #[.agg #[.int .i64 th.d, .int .i64 th.e, .int .i64 th.n, .string th.who, .slice th.rA th.rn th.rc, .int .i64 th.til, .slice th.sA th.sn th.sc, .slice th.cA th.cn th.cc, .slice th.tA th.tn th.tc], .agg #[.int .i64 ch.kind, .slice ch.rA ch.rn ch.rc, .int .i64 ch.til, .string ch.aud]] w fun e w' => ∃ th', e = .returned (.tuple #[.agg th'.cells.toArray, .int .i64 (narE t cv)]) ∧ NewTok w w' th' (narR t cv) := by
  have HA := hid (fun W (hW : Below w.heap.size w W) => a.below hW)
  have HV := hid (fun W (hW : Below w.heap.size w W) => b.kept (w' := W) (fun c _ hl => hW.block c hl) hW.size)
  have HTT := hid (fun W (hW : Below w.heap.size w W) => hT.below hT.pos hW)
  have HM := hid (fun W (hW : Below w.heap.size w W) => pMay12_any (a.below hW) hf)
  have HMC := hid (fun W (hW : Below w.heap.size w W) => pmayCaveat_any (b.kept (w' := W) (fun c _ hl => hW.block c hl) hW.size) (by have := b.rl; omega))
  have HCL := hid a.cl
  obtain ⟨hs0, hl0, he0, hat0⟩ := a.ce
  have HCL0' := hid (hl0.trans a.cl)
  have HE0 := hid he0
  have HAT0 := hid hat0
  have HL0 := hid hl0
  clear hl0 he0 hat0
  have hc8 : th.cn ≤ 8 := by have := a.cl; have := hf.n; omega
  obtain ⟨d, e, m, who, rA, rn, rc, til, sA, sn, sc, cA, cn, cc, tA, tn, tc⟩ := th
  obtain ⟨xk, xA, xn, xc, xt, xa⟩ := ch
  simp only at HA HV HM HMC HCL hc8 HCL0' HE0 ⊢
  obtain ⟨w1, hw1⟩ : ∃ y, y = ((w.alloc (.cells #[.int .i64 d, .int .i64 e, .int .i64 m, .string who, .slice rA rn rc, .int .i64 til, .slice sA sn sc, .slice cA cn cc, .slice tA tn tc] 27)).alloc (.cells #[.int .i64 xk, .slice xA xn xc, .int .i64 xt, .string xa] 51)).alloc (.cells #[.int .i64 0, .int .i64 0, .int .i64 0, .string ⟨#[]⟩, .slice none 0 0, .int .i64 0, .slice none 0 0, .slice none 0 0, .slice none 0 0] 27) := ⟨_, rfl⟩
  have HB1 : Hid (Below w.heap.size w w1) := hid (by rw [hw1]; exact (below_alloc2 w _ _).alloc (by simp; omega) _)
  have HX1 : Hid (ThAt w1 w.heap.size ⟨d, e, m, who, rA, rn, rc, til, sA, sn, sc, cA, cn, cc, tA, tn, tc⟩) := hid (by
    rw [hw1]
    exact (ThAt.new w ⟨d, e, m, who, rA, rn, rc, til, sA, sn, sc, cA, cn, cc, tA, tn, tc⟩).below (below_alloc2 _ _ _))
  have HV1 : Hid (ChAt w1 (w.heap.size + 1) ⟨xk, xA, xn, xc, xt, xa⟩) := hid (by
    rw [hw1]
    have q := (ChAt.new (w.alloc (.cells #[.int .i64 d, .int .i64 e, .int .i64 m, .string who, .slice rA rn rc, .int .i64 til, .slice sA sn sc, .slice cA cn cc, .slice tA tn tc] 27)) ⟨xk, xA, xn, xc, xt, xa⟩).below ((Below.refl _ _).alloc (Nat.le_refl _) (.cells #[.int .i64 0, .int .i64 0, .int .i64 0, .string ⟨#[]⟩, .slice none 0 0, .int .i64 0, .slice none 0 0, .slice none 0 0, .slice none 0 0] 27))
    rw [World.size_alloc] at q
    exact q)
  have HZ1 : Hid (ThAt w1 (w.heap.size + 1 + 1) TH.zero) := hid (by rw [hw1]; exact ThAt.at2 (w := w) _ _)
  have HW1 := hid hw1
  have HM1 := hid (HM.out w1 HB1.out)
  obtain ⟨c0, c1, c2, c3, c4, c5, c6, c7, c8⟩ := HX1.out.all
  obtain ⟨x0, x1, x2, x3⟩ := HV1.out.all
  simp only at c0 c1 c2 c3 c4 c5 c6 c7 c8 x0 x1 x2 x3
  clear a b hw1 hT HM
  go_enter Tryz.func37, Tryz.ntmps37
  go_upto_region 1 with fail
  rw [← HW1.out]
  by_cases hok : OkTok t
  · rw [decide_eq_true hok] at HM1
    have HOK := hid hok
    clear hok
    go_wp2_with fail
    refine HM1.out.mono ?_
    rintro er w2 ⟨rfl, b2⟩
    have HX2 := hid (HX1.out.below b2)
    have HV2 := hid (HV1.out.below b2)
    have HZ2 := hid (HZ1.out.below b2)
    have HB2 := hid (HB1.out.trans (b2.mono HB1.out.size))
    have HMC2 := hid (HMC.out w2 HB2.out)
    clear b2 c0 c1 c2 c3 c4 c5 c6 c7 c8 x0 x1 x2 x3
    obtain ⟨c0, c1, c2, c3, c4, c5, c6, c7, c8⟩ := HX2.out.all
    obtain ⟨x0, x1, x2, x3⟩ := HV2.out.all
    simp only at c0 c1 c2 c3 c4 c5 c6 c7 c8 x0 x1 x2 x3
    by_cases h6 : cn = 6
    · have h6i : ((cn : Int) == 6) = true := by rw [h6]; rfl
      have h6j : (cn : Int) = 6 := by omega
      have HEE : Hid (narE t cv = 12) := hid (by unfold narE; rw [if_neg (fun h => h HOK.out), if_pos (by rw [HCL.out]; exact h6)])
      have HRR : Hid (narR t cv = Tok.zero) := hid (by unfold narR; rw [HEE.out]; exact if_neg (by omega))
      obtain ⟨z0, z1, z2, z3, z4, z5, z6, z7, z8⟩ := HZ2.out.all
      simp only [TH.zero, E0] at z0 z1 z2 z3 z4 z5 z6 z7 z8
      have g0 := HZ2.out.f 0
      have g1 := HZ2.out.f 1
      have g2 := HZ2.out.f 2
      have g3 := HZ2.out.f 3
      have g4 := HZ2.out.f 4
      have g5 := HZ2.out.f 5
      have g6 := HZ2.out.f 6
      have g7 := HZ2.out.f 7
      have g8 := HZ2.out.f 8
      obtain ⟨hput, hgro⟩ := HZ2.out.put TH.zero
      obtain ⟨wz, hwz⟩ : ∃ y, y = (((((((((w2.setCell ⟨w.heap.size + 1 + 1, 0, none⟩ (.int .i64 0)).setCell ⟨w.heap.size + 1 + 1, 1, none⟩ (.int .i64 0)).setCell ⟨w.heap.size + 1 + 1, 2, none⟩ (.int .i64 0)).setCell ⟨w.heap.size + 1 + 1, 3, none⟩ (.string ⟨#[]⟩)).setCell ⟨w.heap.size + 1 + 1, 4, none⟩ (.slice none 0 0)).setCell ⟨w.heap.size + 1 + 1, 5, none⟩ (.int .i64 0)).setCell ⟨w.heap.size + 1 + 1, 6, none⟩ (.slice none 0 0)).setCell ⟨w.heap.size + 1 + 1, 7, none⟩ (.slice none 0 0)).setCell ⟨w.heap.size + 1 + 1, 8, none⟩ (.slice none 0 0)) := ⟨_, rfl⟩
      simp only [TH.zero, E0] at hput hgro
      rw [← hwz] at hput hgro
      have HPZ := hid hput
      have HBZ : Hid (Below w.heap.size w wz) := hid (below_x' HB2.out wz hgro HB2.out.size (by omega))
      have HWZ := hid hwz
      clear hput hgro hwz
      go_wp2_with fail
      rw [← HWZ.out]
      refine bodyPost_ret (results_cell_tmp (h := Tryz.results37) _ _ (w.heap.size + 1 + 1) 0 (TH.cells TH.zero) _ rfl (range_row HPZ.out) Tryz.underlying27 rfl info_token) rfl ?_
      rw [HEE.out, HRR.out]
      exact ⟨TH.zero, rfl, NewTok.zero HBZ.out⟩
    · have h6i : ((cn : Int) == 6) = false := beq_eq_false_iff_ne.2 (by omega)
      have h6j : ¬ (cn : Int) = 6 := by omega
      by_cases hcv : OkCav cv
      · rw [decide_eq_true hcv] at HMC2
        have HCO := hid hcv
        have HEE : Hid (narE t cv = 0) := hid (narE_zero.2 ⟨HOK.out, by rw [HCL.out]; exact h6, hcv⟩)
        have HRR : Hid (narR t cv = narrowT t cv) := hid (by unfold narR; rw [HEE.out]; exact if_pos rfl)
        clear hcv
        go_wp2_with fail
        refine HMC2.out.mono ?_
        rintro er w3 ⟨rfl, b3⟩
        have HX3 := hid (HX2.out.below b3)
        have HV3 := hid (HV2.out.below b3)
        have HZ3 := hid (HZ2.out.below b3)
        have HB3 := hid (HB2.out.trans (b3.mono HB2.out.size))
        clear b3 c0 c1 c2 c3 c4 c5 c6 c7 c8 x0 x1 x2 x3
        obtain ⟨c0, c1, c2, c3, c4, c5, c6, c7, c8⟩ := HX3.out.all
        obtain ⟨x0, x1, x2, x3⟩ := HV3.out.all
        simp only at c0 c1 c2 c3 c4 c5 c6 c7 c8 x0 x1 x2 x3
        have HCL0 : Hid (hs0.length = cn) := hid HCL0'.out
        obtain ⟨w4, hw4⟩ : ∃ y, y = w3.alloc (.cells #[.int .i64 xk, .slice xA xn xc, .int .i64 xt, .string xa] 51) := ⟨_, rfl⟩
        obtain ⟨w5, hw5⟩ : ∃ y, y = w4.alloc (.cells #[.slice cA cn cc, .slice (some ⟨w3.heap.size, 0, none⟩) 1 1] 25) := ⟨_, rfl⟩
        have hb4 : Below w3.heap.size w3 w4 := by rw [hw4]; exact (Below.refl _ _).alloc (Nat.le_refl _) _
        have hb5 : Below w4.heap.size w4 w5 := by rw [hw5]; exact (Below.refl _ _).alloc (Nat.le_refl _) _
        have HB35 : Hid (Below w3.heap.size w3 w5) := hid (hb4.trans (hb5.mono hb4.size))
        have HE1 : Els encC w5 w5.heap.size (some ⟨w3.heap.size, 0, none⟩) [⟨xk, xA, xn, xc, xt, xa⟩] := by
          have q : Els encC w4 w4.heap.size (some ⟨w3.heap.size, 0, none⟩) [⟨xk, xA, xn, xc, xt, xa⟩] := by rw [hw4]; exact els_one ⟨xk, xA, xn, xc, xt, xa⟩
          exact (q.below hb5).more hb5.size
        have HLL : Hid (LlsE encC w5 w5.heap.size (some ⟨w4.heap.size, 0, none⟩) [hs0, [(⟨xk, xA, xn, xc, xt, xa⟩ : CH)]]) := hid (fun _ => by
          have hr : w5.heap[w4.heap.size]? = some (.cells #[.slice cA cn cc, .slice (some ⟨w3.heap.size, 0, none⟩) 1 1] 25 (0, 0)) := by rw [hw5]; exact heap_alloc_new w4 _
          refine ⟨_, rfl, (Array.getElem?_eq_some_iff.1 hr).1, fun j l hj => ?_⟩
          have hj2 : j < 2 := by have := (List.getElem?_eq_some_iff.1 hj).1; simpa using this
          have h9 : j = 0 ∨ j = 1 := by omega
          rcases h9 with rfl | rfl
          · simp only [List.getElem?_cons_zero, Option.some.injEq] at hj
            subst hj
            exact ⟨cA, cc, by rw [addr_rowE, cell_of_row _ _ 0 _ _ (0, 0) hr, HCL0.out]; rfl, (HE0.out.els.below (HB3.out.trans (HB35.out.mono HB3.out.size))).more (HB3.out.trans (HB35.out.mono HB3.out.size)).size⟩
          · simp only [List.getElem?_cons_succ, List.getElem?_cons_zero, Option.some.injEq] at hj
            subst hj
            exact ⟨some ⟨w3.heap.size, 0, none⟩, 1, by rw [addr_rowE, cell_of_row _ _ 1 _ _ (0, 0) hr]; rfl, HE1⟩)
        have HC5 := hid (concatC_any (some ⟨w4.heap.size, 0, none⟩) [hs0, [(⟨xk, xA, xn, xc, xt, xa⟩ : CH)]] 2 2 rfl (by omega) (by unfold sumCH; simp; have := HCL0.out; omega) w5 HLL.out)
        have HFL : Hid ([hs0, [(⟨xk, xA, xn, xc, xt, xa⟩ : CH)]].flatten = hs0 ++ [⟨xk, xA, xn, xc, xt, xa⟩]) := hid (by simp)
        have HFN : Hid ((hs0 ++ [(⟨xk, xA, xn, xc, xt, xa⟩ : CH)]).length = cn + 1) := hid (by rw [List.length_append, HCL0.out]; rfl)
        rw [HFL.out, HFN.out, show w4.heap.size = w3.heap.size + 1 by rw [hw4]; simp] at HC5
        have HX5 := hid (HX3.out.below HB35.out)
        have HV5 := hid (HV3.out.below HB35.out)
        have HZ5 := hid (HZ3.out.below HB35.out)
        have HB5 := hid (HB3.out.trans (HB35.out.mono HB3.out.size))
        have HW4 := hid hw4
        have HW5 := hid hw5
        clear hw4 hw5 hb4 hb5 HE1
        go_wp2_with fail
        rw [← HW4.out, ← HW5.out]
        refine HC5.out.mono ?_
        rintro er w6 ⟨A6, m6, rfl, o6, b6⟩
        have HX6 := hid (HX5.out.below b6)
        have HV6 := hid (HV5.out.below b6)
        have HZ6 := hid (HZ5.out.below b6)
        have HB6 := hid (HB5.out.trans (b6.mono HB5.out.size))
        have HR6 := hid (RowN.of_own o6 HFN.out)
        have HS5 : Hid (w.heap.size + 3 ≤ w5.heap.size) := hid (by have := HZ5.out.lt; omega)
        obtain ⟨w7, hw7⟩ : ∃ y, y = w6.setCell ⟨w.heap.size, 7, none⟩ (.slice A6 (cn + 1) m6) := ⟨_, rfl⟩
        have HG7 : Hid (w6.grownBy w7 (some w.heap.size)) := hid (by rw [hw7]; exact gro_set1 _ _ _ _)
        have HX7 : Hid (ThAt w7 w.heap.size ⟨d, e, m, who, rA, rn, rc, til, sA, sn, sc, A6, cn + 1, m6, tA, tn, tc⟩) := hid (by rw [hw7]; exact HX6.out.cavs A6 (cn + 1) m6)
        have HV7 : Hid (ChAt w7 (w.heap.size + 1) ⟨xk, xA, xn, xc, xt, xa⟩) := hid ((HG7.out.block _ HV6.out.lt (fun e => by injection e with e; omega)).trans HV6.out)
        have HZ7 := hid (HZ6.out.other HG7.out (by omega))
        have HR7 := hid (HR6.out.grew (Grew.of_gro HG7.out (X := fun b => b = w.heap.size) rfl) (fun b hb _ he => by have := HS5.out; omega))
        have HB7 : Hid (Below w.heap.size w w7) := hid (below_x' HB6.out w7 HG7.out HB6.out.size (Nat.le_refl _))
        have HW7 := hid hw7
        clear o6 b6 hw7 c0 c1 c2 c3 c4 c5 c6 c7 c8 x0 x1 x2 x3
        obtain ⟨c0, c1, c2, c3, c4, c5, c6, c7, c8⟩ := HX6.out.all
        obtain ⟨x0, x1, x2, x3⟩ := HV6.out.all
        simp only at c0 c1 c2 c3 c4 c5 c6 c7 c8 x0 x1 x2 x3
        have q7 := HX6.out.f 7
        go_upto_region 8 with fail
        have hcast : ((cn + 1 : Nat) : Int) = (cn : Int) + 1 := by omega
        rw [← HW7.out]
        clear c0 c1 c2 c3 c4 c5 c6 c7 c8 x0 x1 x2 x3 q7
        have HXS := hid (fun W (hW : Below w7.heap.size w7 W) => (⟨(HX7.out.below hW).all.2.2.2.2.2.2.2.2, (HX7.out.below hW).f 8, (HV7.out.below hW).all⟩ :
          W.cell? ⟨w.heap.size, 8, none⟩ = some (.slice tA tn tc) ∧ W.frozen? ⟨w.heap.size, 8, none⟩ = false ∧ W.cell? ⟨w.heap.size + 1, 0, none⟩ = some (.int .i64 xk) ∧ W.cell? ⟨w.heap.size + 1, 1, none⟩ = some (.slice xA xn xc) ∧ W.cell? ⟨w.heap.size + 1, 2, none⟩ = some (.int .i64 xt) ∧ W.cell? ⟨w.heap.size + 1, 3, none⟩ = some (.string xa)))
        have HPC := hid (fun W (hW : Below w7.heap.size w7 W) => pcaveat_any (HV.out W (HB7.out.trans (hW.mono HB7.out.size))) HCO.out)
        simp only at HPC
        have HTL := hid (HA.out w7 HB7.out).tl
        have HTC := hid (And.intro (HA.out w7 HB7.out).tc (HA.out w7 HB7.out).tm)
        have HTY := hid (fun W (hW : Below w7.heap.size w7 W) => ((HA.out w7 HB7.out).te.byt.below hW).more hW.size)
        have HT32 : Hid (tn = 32) := hid (by have := HOK.out.tl; have := HTL.out; simp only at this; omega)
        have HTB := hid (fun W (hW : Below w7.heap.size w7 W) => HTT.out W (HB7.out.trans (hW.mono HB7.out.size)))
        have HCB := hid (cavB_le HCO.out)
        have HD7 := hid (Below.refl w7.heap.size w7).drew
        simp only at HTL HTC HTY
        obtain ⟨k1, k2, k3, k4, k5, k6⟩ := HXS.out w7 (Below.refl _ _)
        go_region_law
          ((first
          | (refine step_callG (by rfl) (f := 49) (by rfl) _ (by simp [Act.eval]) (HPC.out _ HD7.out) (enters_of Tryz.func49 (by kernel_rfl) rfl) ?_; rintro er w8 hP; (obtain ⟨A8, c8', N8, rfl, hl8, hN8, hc8', o8, b8⟩ := hP.all); have HL8 := hid hl8; have HN8 := hid (And.intro hN8 hc8'); have HO8 := hid o8; have BQ8 := hid (HD7.out.trans b8); (obtain ⟨j1, j2, j3, j4, j5, j6⟩ := HXS.out _ BQ8.out); have BA8 : Hid (Below w7.heap.size w7 (w8.alloc (.cells #[.slice A8 N8 c8'] 22))) := hid (BQ8.out.alloc BQ8.out.size _); (obtain ⟨i1, i2, i3, i4, i5, i6⟩ := HXS.out _ BA8.out); clear hP hl8 hN8 hc8' o8 b8; refine ⟨_, rfl, ?_⟩)
          | (refine step_callG (by rfl) (f := 20) (by rfl) _ (by simp [Act.eval]) (ptag1_any tA A8 t.tag (cavB cv) tn tc N8 c8' HTL.out HTC.out.1 HTC.out.2 (by have := HT32.out; omega) HL8.out HN8.out.1 HN8.out.2 (by have := HCB.out; have := HL8.out; omega) w8 _ rfl (HTB.out _ BQ8.out) (HTY.out _ BQ8.out) HO8.out.byt) (enters_of Tryz.func20 (by kernel_rfl) rfl) ?_; rintro er w9 ⟨B8, n8, rfl, h81, h82, o9, b9⟩; have HN9 := hid (And.intro h81 h82); have HO9 := hid o9; have BQ9 := hid (BQ8.out.trans (b9.mono BQ8.out.size)); (obtain ⟨l1, l2, l3, l4, l5, l6⟩ := HXS.out _ BQ9.out); clear h81 h82 o9 b9; refine ⟨_, rfl, ?_⟩)))
        all_goals
          obtain ⟨wa, hwa⟩ : ∃ y, y = w9.setCell ⟨w.heap.size, 8, none⟩ (.slice B8 32 n8) := ⟨_, rfl⟩
          have HGA : Hid (w9.grownBy wa (some w.heap.size)) := hid (by rw [hwa]; exact gro_set1 _ _ _ _)
          have HXA : Hid (ThAt wa w.heap.size ⟨d, e, m, who, rA, rn, rc, til, sA, sn, sc, A6, cn + 1, m6, B8, 32, n8⟩) := hid (by rw [hwa]; exact (HX7.out.below BQ9.out).tag B8 32 n8)
          have HZA := hid ((HZ7.out.below BQ9.out).other HGA.out (by omega))
          have HRA := hid ((HR7.out.below BQ9.out).grew (Grew.of_gro HGA.out (X := fun b => b = w.heap.size) rfl) (fun b hb _ he => by have := HS5.out; omega))
          have HOA := hid (HO9.out.other HGA.out (by have := BQ8.out.size; have := HB7.out.size; have := HZ7.out.lt; omega))
          have HBA : Hid (Below w.heap.size w wa) := hid (below_x' (HB7.out.trans (BQ9.out.mono HB7.out.size)) wa HGA.out (HB7.out.trans (BQ9.out.mono HB7.out.size)).size (Nat.le_refl _))
          have HCQ : Hid (CavsQ wa (fun _ => True) A6 (t.cavs ++ [cv])) := hid ⟨hs0 ++ [⟨xk, xA, xn, xc, xt, xa⟩], by rw [List.length_append, List.length_append, HL0.out]; rfl, HRA.out.elsQ (fun _ _ _ => trivial), fun i h c hi hc => by
            by_cases hlt : i < hs0.length
            · rw [List.getElem?_append_left hlt] at hi
              rw [List.getElem?_append_left (by rw [← HL0.out]; exact hlt)] at hc
              exact ((HAT0.out i h c hi hc).kept (fun b _ hb => HBA.out.block b hb) HBA.out.size).imp (fun _ _ _ => trivial)
            · rw [List.getElem?_append_right (by omega)] at hi
              rw [List.getElem?_append_right (by rw [← HL0.out]; omega), ← HL0.out] at hc
              have e1 := (List.getElem?_eq_some_iff.1 hi).1
              simp only [List.length_singleton] at e1
              rw [show i - hs0.length = 0 by omega] at hi hc
              simp only [List.getElem?_cons_zero, Option.some.injEq] at hi hc
              subst hi
              subst hc
              exact (HV.out wa HBA.out).imp (fun _ _ _ => trivial)⟩
          have HAA : Hid (TokAt wa (fun _ => True) ⟨d, e, m, who, rA, rn, rc, til, sA, sn, sc, A6, cn + 1, m6, B8, 32, n8⟩ (narrowT t cv)) := hid (by
            have a := HA.out wa HBA.out
            exact ⟨a.d, a.e, a.n, a.who, a.til, a.rl, a.rc, a.rm, a.re.imp (fun _ _ _ => trivial), a.sl, a.sc, a.sm, a.se.imp (fun _ _ _ => trivial), by show (t.cavs ++ [cv]).length = cn + 1; rw [List.length_append, HCL.out]; rfl, HRA.out.le, HRA.out.max, HCQ.out, by simp [narrowT, hmac, sha_len], HN9.out.1, HN9.out.2, BytQ.own HOA.out (fun _ _ => trivial)⟩)
          have HCA := hid (pcopied_any HAA.out (FewTok.ok (HOK.out.narrow HCO.out (by rw [HCL.out]; exact h6))))
          have HWA := hid hwa
          try rw [← hwa]
          clear hwa k1 k2 k3 k4 k5 k6 j1 j2 j3 j4 j5 j6 i1 i2 i3 i4 i5 i6 l1 l2 l3 l4 l5 l6
          obtain ⟨c0, c1, c2, c3, c4, c5, c6, c7, c8⟩ := HXA.out.all
          simp only at c0 c1 c2 c3 c4 c5 c6 c7 c8 HCA
          go_wp2_with fail
          refine HCA.out.mono ?_
          rintro er wb ⟨k, rfl, nt⟩
          have HNT := hid nt
          have HZB := hid (HZA.out.below nt.below)
          unfold TH.cells
          clear nt c0 c1 c2 c3 c4 c5 c6 c7 c8
          obtain ⟨z0, z1, z2, z3, z4, z5, z6, z7, z8⟩ := HZB.out.all
          simp only [TH.zero, E0] at z0 z1 z2 z3 z4 z5 z6 z7 z8
          have g0 := HZB.out.f 0
          have g1 := HZB.out.f 1
          have g2 := HZB.out.f 2
          have g3 := HZB.out.f 3
          have g4 := HZB.out.f 4
          have g5 := HZB.out.f 5
          have g6 := HZB.out.f 6
          have g7 := HZB.out.f 7
          have g8 := HZB.out.f 8
          obtain ⟨hput, hgro⟩ := HZB.out.put k
          obtain ⟨wz, hwz⟩ : ∃ y, y = (((((((((wb.setCell ⟨w.heap.size + 1 + 1, 0, none⟩ (.int .i64 k.d)).setCell ⟨w.heap.size + 1 + 1, 1, none⟩ (.int .i64 k.e)).setCell ⟨w.heap.size + 1 + 1, 2, none⟩ (.int .i64 k.n)).setCell ⟨w.heap.size + 1 + 1, 3, none⟩ (.string k.who)).setCell ⟨w.heap.size + 1 + 1, 4, none⟩ (.slice k.rA k.rn k.rc)).setCell ⟨w.heap.size + 1 + 1, 5, none⟩ (.int .i64 k.til)).setCell ⟨w.heap.size + 1 + 1, 6, none⟩ (.slice k.sA k.sn k.sc)).setCell ⟨w.heap.size + 1 + 1, 7, none⟩ (.slice k.cA k.cn k.cc)).setCell ⟨w.heap.size + 1 + 1, 8, none⟩ (.slice k.tA k.tn k.tc)) := ⟨_, rfl⟩
          rw [← hwz] at hput hgro
          have HPZ := hid hput
          have HGZ : Hid (Grew wb wz (fun b => b = w.heap.size + 1 + 1)) := hid (Grew.of_gro hgro rfl)
          have HWZ := hid hwz
          have HS8 : Hid (w.heap.size + 3 ≤ wa.heap.size) := hid (by have := HZA.out.lt; omega)
          clear hput hgro hwz
          go_wp2_with fail
          rw [← HWZ.out]
          refine bodyPost_ret (results_cell_tmp (h := Tryz.results37) _ _ (w.heap.size + 1 + 1) 0 (TH.cells k) _ rfl (range_row HPZ.out) Tryz.underlying27 rfl info_token) rfl ?_
          rw [HEE.out, HRR.out]
          exact ⟨k, rfl, HNT.out.then HBA.out HGZ.out (fun c hc h => by have := HS8.out; omega) (fun c h => by omega)⟩
      · rw [decide_eq_false hcv] at HMC2
        go_wp2_with fail
        refine HMC2.out.mono ?_
        rintro er w3 ⟨rfl, b3⟩
        have HZ3 := hid (HZ2.out.below b3)
        have HB3 := hid (HB2.out.trans (b3.mono HB2.out.size))
        clear b3 c0 c1 c2 c3 c4 c5 c6 c7 c8 x0 x1 x2 x3
        have HEE : Hid (narE t cv = 1) := hid (by unfold narE; rw [if_neg (fun h => h HOK.out), if_neg (by rw [HCL.out]; exact h6), if_pos hcv])
        have HRR : Hid (narR t cv = Tok.zero) := hid (by unfold narR; rw [HEE.out]; exact if_neg (by omega))
        obtain ⟨z0, z1, z2, z3, z4, z5, z6, z7, z8⟩ := HZ3.out.all
        simp only [TH.zero, E0] at z0 z1 z2 z3 z4 z5 z6 z7 z8
        have g0 := HZ3.out.f 0
        have g1 := HZ3.out.f 1
        have g2 := HZ3.out.f 2
        have g3 := HZ3.out.f 3
        have g4 := HZ3.out.f 4
        have g5 := HZ3.out.f 5
        have g6 := HZ3.out.f 6
        have g7 := HZ3.out.f 7
        have g8 := HZ3.out.f 8
        obtain ⟨hput, hgro⟩ := HZ3.out.put TH.zero
        obtain ⟨wz, hwz⟩ : ∃ y, y = (((((((((w3.setCell ⟨w.heap.size + 1 + 1, 0, none⟩ (.int .i64 0)).setCell ⟨w.heap.size + 1 + 1, 1, none⟩ (.int .i64 0)).setCell ⟨w.heap.size + 1 + 1, 2, none⟩ (.int .i64 0)).setCell ⟨w.heap.size + 1 + 1, 3, none⟩ (.string ⟨#[]⟩)).setCell ⟨w.heap.size + 1 + 1, 4, none⟩ (.slice none 0 0)).setCell ⟨w.heap.size + 1 + 1, 5, none⟩ (.int .i64 0)).setCell ⟨w.heap.size + 1 + 1, 6, none⟩ (.slice none 0 0)).setCell ⟨w.heap.size + 1 + 1, 7, none⟩ (.slice none 0 0)).setCell ⟨w.heap.size + 1 + 1, 8, none⟩ (.slice none 0 0)) := ⟨_, rfl⟩
        simp only [TH.zero, E0] at hput hgro
        rw [← hwz] at hput hgro
        have HPZ := hid hput
        have HBZ : Hid (Below w.heap.size w wz) := hid (below_x' HB3.out wz hgro HB3.out.size (by omega))
        have HWZ := hid hwz
        clear hput hgro hwz
        go_wp2_with fail
        rw [← HWZ.out]
        refine bodyPost_ret (results_cell_tmp (h := Tryz.results37) _ _ (w.heap.size + 1 + 1) 0 (TH.cells TH.zero) _ rfl (range_row HPZ.out) Tryz.underlying27 rfl info_token) rfl ?_
        rw [HEE.out, HRR.out]
        exact ⟨TH.zero, rfl, NewTok.zero HBZ.out⟩
  · rw [decide_eq_false hok] at HM1
    go_wp2_with fail
    refine HM1.out.mono ?_
    rintro er w2 ⟨rfl, b2⟩
    have HZ2 := hid (HZ1.out.below b2)
    have HB2 := hid (HB1.out.trans (b2.mono HB1.out.size))
    clear b2 c0 c1 c2 c3 c4 c5 c6 c7 c8 x0 x1 x2 x3
    have HEE : Hid (narE t cv = 25) := hid (by unfold narE; rw [if_pos hok])
    have HRR : Hid (narR t cv = Tok.zero) := hid (by unfold narR; rw [HEE.out]; exact if_neg (by omega))
    obtain ⟨z0, z1, z2, z3, z4, z5, z6, z7, z8⟩ := HZ2.out.all
    simp only [TH.zero, E0] at z0 z1 z2 z3 z4 z5 z6 z7 z8
    have g0 := HZ2.out.f 0
    have g1 := HZ2.out.f 1
    have g2 := HZ2.out.f 2
    have g3 := HZ2.out.f 3
    have g4 := HZ2.out.f 4
    have g5 := HZ2.out.f 5
    have g6 := HZ2.out.f 6
    have g7 := HZ2.out.f 7
    have g8 := HZ2.out.f 8
    obtain ⟨hput, hgro⟩ := HZ2.out.put TH.zero
    obtain ⟨wz, hwz⟩ : ∃ y, y = (((((((((w2.setCell ⟨w.heap.size + 1 + 1, 0, none⟩ (.int .i64 0)).setCell ⟨w.heap.size + 1 + 1, 1, none⟩ (.int .i64 0)).setCell ⟨w.heap.size + 1 + 1, 2, none⟩ (.int .i64 0)).setCell ⟨w.heap.size + 1 + 1, 3, none⟩ (.string ⟨#[]⟩)).setCell ⟨w.heap.size + 1 + 1, 4, none⟩ (.slice none 0 0)).setCell ⟨w.heap.size + 1 + 1, 5, none⟩ (.int .i64 0)).setCell ⟨w.heap.size + 1 + 1, 6, none⟩ (.slice none 0 0)).setCell ⟨w.heap.size + 1 + 1, 7, none⟩ (.slice none 0 0)).setCell ⟨w.heap.size + 1 + 1, 8, none⟩ (.slice none 0 0)) := ⟨_, rfl⟩
    simp only [TH.zero, E0] at hput hgro
    rw [← hwz] at hput hgro
    have HPZ := hid hput
    have HBZ : Hid (Below w.heap.size w wz) := hid (below_x' HB2.out wz hgro HB2.out.size (by omega))
    have HWZ := hid hwz
    clear hput hgro hwz
    go_wp2_with fail
    rw [← HWZ.out]
    refine bodyPost_ret (results_cell_tmp (h := Tryz.results37) _ _ (w.heap.size + 1 + 1) 0 (TH.cells TH.zero) _ rfl (range_row HPZ.out) Tryz.underlying27 rfl info_token) rfl ?_
    rw [HEE.out, HRR.out]
    exact ⟨TH.zero, rfl, NewTok.zero HBZ.out⟩
end Go.Proofs.YtaadmgbmaekicaaGreatDoor.Sh
/-
  The program's own tokens by contract.
-/
namespace Go.Proofs.YtaadmgbmaekicaaGreatDoor.Sh
open Go Go.RowKit

def Lives12 : Prop := ∀ w : World, Tab w → Calls Tryz.prog 12 #[] w fun e w' => e = .returned (.bool true) ∧ Below w.heap.size w w'
end Go.Proofs.YtaadmgbmaekicaaGreatDoor.Sh
