/-
  The walk of CredRound.
-/
import Derived.Test.YtkggagnaiiemlaaDoorCrLawP
namespace Go.Proofs.YtkggagnaiiemlaaDoor.Sh
open Go Go.RowKit

theorem readC_zero {l : List UInt8} {p q : Nat} {e r : Int} {x : Crd} (h : readC l p e = (x, q, r)) (hr : r ≠ 0) : x = .zero := by
  unfold readC fin at h
  simp only [Prod.mk.injEq] at h
  rw [← h.1, if_neg]
  rw [h.2]
  exact hr

set_option maxHeartbeats 16000000 in
theorem credRound_walk (c : Crd) (A : Option Addr) (l : List UInt8) (n k : Nat) (hn : l.length = n) (hk : n ≤ k) (hk2 : k ≤ 9223372036854775807) (w : World) (hb : Byt w w.heap.size A l) :
    Calls Tryd.prog 6 #[.agg c.cells.toArray, .slice A n k] w fun e w' => e = .returned (.bool true) ∧ Below w.heap.size w w' := by
  obtain ⟨w0, hw0⟩ : ∃ w0, w0 = w.alloc (.cells c.cells.toArray 27) := ⟨_, rfl⟩
  have r0 : CrAt w0 w.heap.size c := by rw [hw0]; exact CrAt.new w c
  have b0 : Below w.heap.size w w0 := by rw [hw0]; exact below_cr w c
  have y0' := hb.below b0
  by_cases h20 : 200 < n
  · have hN : (l.take 200).length = 200 := by rw [List.length_take]; omega
    have y0 := y0'.head (hi := 200)
    have h20' : (200 : Int) < (n : Int) := by omega
    have h20k : 200 ≤ k := by omega
    have HN := hid hN
    obtain ⟨⟨d2, q2, nm2, kd2, wh2, ao2, an2, bo2, bn2⟩, p, e, hx⟩ : ∃ x p e, readC (l.take 200) 0 0 = (x, p, e) := ⟨_, _, _, rfl⟩
    have HRX := hid hx
    clear hx hn hN hb y0'
    have PQ := hid (putC_any none [] c 0 0 rfl (by omega) w0 Byt.nil)
    cases hm : mayC c with
    | false =>
      have HM := hid hm
      clear hm
      obtain ⟨d, q, nm, kd, wh, ao, an, bo, bn⟩ := c
      unfold Crd.cells at hw0 PQ ⊢
      simp only at hw0 PQ ⊢
      obtain ⟨c0, c1, c2, c3, c4, c5, c6, c7, c8⟩ := r0.all
      rw [hw0] at c0 c1 c2 c3 c4 c5 c6 c7 c8
      go_enter Tryd.func6, Tryd.ntmps6
      go_wp2_with fail
      rw [← hw0] at c0 c1 c2 c3 c4 c5 c6 c7 c8 ⊢
      clear hw0
      refine PQ.out.mono ?_
      rintro er w4 hP
      obtain ⟨rfl, bb⟩ := hP.no HM.out
      have y4 := y0.below (bb.mono b0.size)
      have b4 := b0.trans (bb.mono b0.size)
      clear hP bb r0 b0 y0 c0 c1 c2 c3 c4 c5 c6 c7 c8 PQ
      go_wp2_with fail
      refine (cu_new (c := k) HN.out (by omega) w4 (y4.more b4.size)).mono ?_
      rintro er w5 ⟨g2, A3, k3, rfl, X5, hg2, bb⟩
      have y5 := y4.below (bb.mono b4.size)
      have b5 := b4.trans (bb.mono b4.size)
      have hgw : w.heap.size ≤ g2 := Nat.le_trans b4.size hg2
      clear bb y4 b4 hg2
      have CR := readC_any X5
      unfold ReadEnd at CR
      rw [HRX.out] at CR
      unfold Crd.cells at CR
      simp only at CR
      have HCR := hid CR
      clear CR X5
      go_wp2_with fail
      refine HCR.out.mono ?_
      rintro er w6 ⟨rfl, X6, G6⟩
      have y6 := y5.grown b5.size G6 (fun g e => by injection e with e; omega)
      have b6 := b5.grown G6 b5.size (fun g e => by injection e with e; omega)
      clear y5 b5 G6 HCR
      have X7 := X6.below (below_cr w6 ⟨d2, q2, nm2, kd2, wh2, ao2, an2, bo2, bn2⟩) X6.lt
      have y7 := y6.below ((below_cr w6 ⟨d2, q2, nm2, kd2, wh2, ao2, an2, bo2, bn2⟩).mono b6.size)
      have b7 := b6.trans ((below_cr w6 ⟨d2, q2, nm2, kd2, wh2, ao2, an2, bo2, bn2⟩).mono b6.size)
      have r7 := CrAt.new w6 ⟨d2, q2, nm2, kd2, wh2, ao2, an2, bo2, bn2⟩
      obtain ⟨g7, hg7⟩ : ∃ g7, g7 = w6.heap.size := ⟨_, rfl⟩
      obtain ⟨w7, hw7⟩ : ∃ w7, w7 = w6.alloc (.cells (Crd.cells ⟨d2, q2, nm2, kd2, wh2, ao2, an2, bo2, bn2⟩).toArray 27) := ⟨_, rfl⟩
      rw [← hg7] at r7
      rw [← hw7] at X7 y7 b7 r7
      unfold Crd.cells at hw7
      simp only at hw7
      clear X6 y6 b6
      go_wp2_with fail
      rw [← hw7, ← hg7]
      clear hw7 hg7
      refine (err_any g2 A3 _ k3 p e w7 X7.row).mono ?_
      rintro er w8 ⟨rfl, rfl⟩
      obtain ⟨c0, c1, c2, c3, c4, c5, c6, c7, c8⟩ := r7.all
      by_cases he : e = 0
      · subst he
        obtain ⟨hmay, htake, hpl, hpe⟩ := readC_back HRX.out
        have HM2 := hid hmay
        have HTK := hid htake
        have HPE := hid hpe
        rw [HN.out] at hpl
        have hpl' : ¬ (200 : Int) < (p : Int) := by omega
        have hp0 : (0 : Int) ≤ (p : Int) := Int.natCast_nonneg _
        have hpk : p ≤ k := by omega
        clear hmay htake hpe
        have PP := hid (putC_any none [] ⟨d2, q2, nm2, kd2, wh2, ao2, an2, bo2, bn2⟩ 0 0 rfl (by omega) w7 Byt.nil)
        unfold Crd.cells at PP
        simp only at PP
        go_wp2_with fail
        refine PP.out.mono ?_
        rintro er w8 hP
        obtain ⟨A4, N4, k4, rfl, hl4, -, -, -, z8, bb⟩ := hP.yes HM2.out
        rw [List.nil_append] at hl4 z8
        obtain rfl : N4 = p := by rw [← hl4, HPE.out]
        have X8 := X7.below bb X7.lt
        have y8 := y7.below (bb.mono b7.size)
        have b8 := b7.trans (bb.mono b7.size)
        have z9 := z8
        rw [← HTK.out] at z9
        have hl9 := HTK.out ▸ hl4
        have SM := hid (same_eq A4 A (List.take N4 (l.take 200)) N4 k4 k hl9 (by omega) w8 z9 ((y8.more b8.size).head (hi := N4)))
        have HPC := hid (place_any g2 A3 _ k3 N4 0 w8 X8.row)
        clear hP bb y7 b7 X7 X8 y8 z8 z9 hl4 hl9 c0 c1 c2 c3 c4 c5 c6 c7 c8 r7 PP
        go_wp2_with fail
        refine HPC.out.mono ?_
        rintro er w9 ⟨rfl, rfl⟩
        go_wp2_with fail
        refine HPC.out.mono ?_
        rintro er w9 ⟨rfl, rfl⟩
        go_wp2_with fail
        refine SM.out.mono ?_
        rintro er w9 ⟨rfl, hq⟩
        have b9 : Below w.heap.size w w9 := by obtain ⟨q, rfl⟩ := hq; exact below_drewN b8 q
        clear hq b8 SM HPC
        go_wp2_with fail
        refine (lives_any w9).mono ?_
        rintro er w10 ⟨rfl, bb⟩
        go_wp2
        go_ret
        exact ⟨rfl, b9.trans (bb.mono b9.size)⟩
      · have hz := readC_zero HRX.out he
        simp only [Crd.zero, Crd.mk.injEq] at hz
        obtain ⟨rfl, rfl, rfl, rfl, rfl, rfl, rfl, rfl, rfl⟩ := hz
        unfold E0 at c2 c4 c5 c6 c7 c8
        have he' : (e == 0) = false := beq_eq_false_iff_ne.2 he
        go_wp2_with fail
        refine (lives_any _).mono ?_
        rintro er w10 ⟨rfl, bb⟩
        go_wp2
        go_ret
        exact ⟨rfl, b7.trans (bb.mono b7.size)⟩
    | true =>
      have HM := hid hm
      have hlen := putC_len hm
      have hrp := readC_put hm []
      rw [List.append_nil] at hrp
      have HRP := hid hrp
      clear hm hrp
      obtain ⟨P0, hP0⟩ : ∃ P0, P0 = putC c := ⟨_, rfl⟩
      obtain ⟨d, q, nm, kd, wh, ao, an, bo, bn⟩ := c
      unfold Crd.cells at hw0 PQ ⊢
      simp only at hw0 PQ ⊢
      obtain ⟨c0, c1, c2, c3, c4, c5, c6, c7, c8⟩ := r0.all
      rw [hw0] at c0 c1 c2 c3 c4 c5 c6 c7 c8
      go_enter Tryd.func6, Tryd.ntmps6
      go_wp2_with fail
      rw [← hw0] at c0 c1 c2 c3 c4 c5 c6 c7 c8 ⊢
      clear hw0
      refine PQ.out.mono ?_
      rintro er w1 hP
      obtain ⟨A1, N1, k1, rfl, hl1, -, hk1, hkm1, y1, bb⟩ := hP.yes HM.out
      rw [List.nil_append, ← hP0] at hl1 y1
      rw [← hP0] at hlen HRP
      have r1 := r0.kept bb
      have y0a := y0.below (bb.mono b0.size)
      have b1 := b0.trans (bb.mono b0.size)
      clear hP bb r0 b0 y0 c0 c1 c2 c3 c4 c5 c6 c7 c8 PQ hP0
      go_wp2_with fail
      refine (cu_new (c := k1) hl1 (by omega) w1 y1).mono ?_
      rintro er w2 ⟨g1, A2, k2, rfl, X2, hg1, bb⟩
      have r2 := r1.kept bb
      have y2 := y0a.below (bb.mono b1.size)
      have b2 := b1.trans (bb.mono b1.size)
      have hr1 := r1.lt
      clear bb y1 y0a b1 r1
      have CR := readC_any (X2.below (Below.refl w2.heap.size w2).drew X2.lt)
      unfold ReadEnd at CR
      rw [HRP.out] at CR
      unfold Crd.cells at CR
      simp only at CR
      have HCR := hid CR
      have HK := hid (fun W (hW : w2.grownBy W (some g1)) => ((r2.grown hW (by intro e; injection e with e; omega)).all : W.cell? ⟨w.heap.size, 0, none⟩ = some (.int .i64 d) ∧ W.cell? ⟨w.heap.size, 1, none⟩ = some (.int .i64 q) ∧ W.cell? ⟨w.heap.size, 2, none⟩ = some (.string nm) ∧ W.cell? ⟨w.heap.size, 3, none⟩ = some (.int .i64 kd) ∧ W.cell? ⟨w.heap.size, 4, none⟩ = some (.string wh) ∧ W.cell? ⟨w.heap.size, 5, none⟩ = some (.string ao) ∧ W.cell? ⟨w.heap.size, 6, none⟩ = some (.string an) ∧ W.cell? ⟨w.heap.size, 7, none⟩ = some (.string bo) ∧ W.cell? ⟨w.heap.size, 8, none⟩ = some (.string bn)))
      have HG0 : Hid (w2.grownBy w2.drew (some g1)) := hid (gro_below (gro_refl w2 _) (Below.refl w2.heap.size w2).drew)
      have HE0 : Hid (endOf N1 P0.length 0 = 0) := hid (by unfold endOf; rw [if_neg]; omega)
      have HY2 := hid y2
      have HB2 := hid b2
      have HGE := hid (Nat.le_trans b2.size (Nat.le_refl _))
      have hgw1 : w.heap.size ≤ g1 := by omega
      clear CR X2 r2 y2 b2 hl1
      go_wp2_with fail
      go_region_held3 (fun W => W.cell? ⟨w.heap.size, 0, none⟩ = some (.int .i64 d) ∧ W.cell? ⟨w.heap.size, 1, none⟩ = some (.int .i64 q) ∧ W.cell? ⟨w.heap.size, 2, none⟩ = some (.string nm) ∧ W.cell? ⟨w.heap.size, 3, none⟩ = some (.int .i64 kd) ∧ W.cell? ⟨w.heap.size, 4, none⟩ = some (.string wh) ∧ W.cell? ⟨w.heap.size, 5, none⟩ = some (.string ao) ∧ W.cell? ⟨w.heap.size, 6, none⟩ = some (.string an) ∧ W.cell? ⟨w.heap.size, 7, none⟩ = some (.string bo) ∧ W.cell? ⟨w.heap.size, 8, none⟩ = some (.string bn)) (first | exact HK.out _ HG4.out | exact HK.out _ HG3.out | exact HK.out _ HG0.out | go_keep) (first
        | (go_at_call 22; (refine HCR.out.mono ?_); rintro er w3 ⟨rfl, X3, G3⟩; have HG3 := hid (gro_trans HG0.out G3); have HX3 := hid X3; clear X3 G3)
        | (go_at_call 26; (refine (end_any _ _ _ _ _ _ _ HX3.out.row).mono ?_); rintro er w4 ⟨rfl, hq⟩; rw [HE0.out]; have HG4 := hid (show w2.grownBy w4 (some g1) by obtain ⟨q, rfl⟩ := hq; exact gro_trans HG3.out (grown_drewN _ _ _)); clear hq)
        | fail)
      all_goals
        have y4 := HY2.out.grown HB2.out.size HG4.out (fun g e => by injection e with e; omega)
        have b4 := HB2.out.grown HG4.out HB2.out.size (fun g e => by injection e with e; omega)
        clear HY2 HB2 HG3 HX3 HG4 HCR HK HG0 HE0 HGE
        go_wp2_with fail
        refine (cu_new (c := k) HN.out (by omega) w4 (y4.more b4.size)).mono ?_
        rintro er w5 ⟨g2, A3, k3, rfl, X5, hg2, bb⟩
        have y5 := y4.below (bb.mono b4.size)
        have b5 := b4.trans (bb.mono b4.size)
        have hgw : w.heap.size ≤ g2 := Nat.le_trans b4.size hg2
        clear bb y4 b4 hg2
        have CR := readC_any X5
        unfold ReadEnd at CR
        rw [HRX.out] at CR
        unfold Crd.cells at CR
        simp only at CR
        have HCR := hid CR
        clear CR X5
        go_wp2_with fail
        refine HCR.out.mono ?_
        rintro er w6 ⟨rfl, X6, G6⟩
        have y6 := y5.grown b5.size G6 (fun g e => by injection e with e; omega)
        have b6 := b5.grown G6 b5.size (fun g e => by injection e with e; omega)
        clear y5 b5 G6 HCR
        have X7 := X6.below (below_cr w6 ⟨d2, q2, nm2, kd2, wh2, ao2, an2, bo2, bn2⟩) X6.lt
        have y7 := y6.below ((below_cr w6 ⟨d2, q2, nm2, kd2, wh2, ao2, an2, bo2, bn2⟩).mono b6.size)
        have b7 := b6.trans ((below_cr w6 ⟨d2, q2, nm2, kd2, wh2, ao2, an2, bo2, bn2⟩).mono b6.size)
        have r7 := CrAt.new w6 ⟨d2, q2, nm2, kd2, wh2, ao2, an2, bo2, bn2⟩
        obtain ⟨g7, hg7⟩ : ∃ g7, g7 = w6.heap.size := ⟨_, rfl⟩
        obtain ⟨w7, hw7⟩ : ∃ w7, w7 = w6.alloc (.cells (Crd.cells ⟨d2, q2, nm2, kd2, wh2, ao2, an2, bo2, bn2⟩).toArray 27) := ⟨_, rfl⟩
        rw [← hg7] at r7
        rw [← hw7] at X7 y7 b7 r7
        unfold Crd.cells at hw7
        simp only at hw7
        clear X6 y6 b6
        go_wp2_with fail
        rw [← hw7, ← hg7]
        clear hw7 hg7
        refine (err_any g2 A3 _ k3 p e w7 X7.row).mono ?_
        rintro er w8 ⟨rfl, rfl⟩
        obtain ⟨c0, c1, c2, c3, c4, c5, c6, c7, c8⟩ := r7.all
        by_cases he : e = 0
        · subst he
          obtain ⟨hmay, htake, hpl, hpe⟩ := readC_back HRX.out
          have HM2 := hid hmay
          have HTK := hid htake
          have HPE := hid hpe
          rw [HN.out] at hpl
          have hpl' : ¬ (200 : Int) < (p : Int) := by omega
          have hp0 : (0 : Int) ≤ (p : Int) := Int.natCast_nonneg _
          have hpk : p ≤ k := by omega
          clear hmay htake hpe
          have PP := hid (putC_any none [] ⟨d2, q2, nm2, kd2, wh2, ao2, an2, bo2, bn2⟩ 0 0 rfl (by omega) w7 Byt.nil)
          unfold Crd.cells at PP
          simp only at PP
          go_wp2_with fail
          refine PP.out.mono ?_
          rintro er w8 hP
          obtain ⟨A4, N4, k4, rfl, hl4, -, -, -, z8, bb⟩ := hP.yes HM2.out
          rw [List.nil_append] at hl4 z8
          obtain rfl : N4 = p := by rw [← hl4, HPE.out]
          have X8 := X7.below bb X7.lt
          have y8 := y7.below (bb.mono b7.size)
          have b8 := b7.trans (bb.mono b7.size)
          have z9 := z8
          rw [← HTK.out] at z9
          have hl9 := HTK.out ▸ hl4
          have SM := hid (same_eq A4 A (List.take N4 (l.take 200)) N4 k4 k hl9 (by omega) w8 z9 ((y8.more b8.size).head (hi := N4)))
          have HPC := hid (place_any g2 A3 _ k3 N4 0 w8 X8.row)
          clear hP bb y7 b7 X7 X8 y8 z8 z9 hl4 hl9 c0 c1 c2 c3 c4 c5 c6 c7 c8 r7 PP
          go_wp2_with fail
          refine HPC.out.mono ?_
          rintro er w9 ⟨rfl, rfl⟩
          go_wp2_with fail
          refine HPC.out.mono ?_
          rintro er w9 ⟨rfl, rfl⟩
          go_wp2_with fail
          refine SM.out.mono ?_
          rintro er w9 ⟨rfl, hq⟩
          have b9 : Below w.heap.size w w9 := by obtain ⟨q, rfl⟩ := hq; exact below_drewN b8 q
          clear hq b8 SM HPC
          go_wp2_with fail
          refine (lives_any w9).mono ?_
          rintro er w10 ⟨rfl, bb⟩
          go_wp2
          go_ret
          exact ⟨rfl, b9.trans (bb.mono b9.size)⟩
        · have hz := readC_zero HRX.out he
          simp only [Crd.zero, Crd.mk.injEq] at hz
          obtain ⟨rfl, rfl, rfl, rfl, rfl, rfl, rfl, rfl, rfl⟩ := hz
          unfold E0 at c2 c4 c5 c6 c7 c8
          have he' : (e == 0) = false := beq_eq_false_iff_ne.2 he
          go_wp2_with fail
          refine (lives_any _).mono ?_
          rintro er w10 ⟨rfl, bb⟩
          go_wp2
          go_ret
          exact ⟨rfl, b7.trans (bb.mono b7.size)⟩
  · have hN : l.length = n := hn
    have y0 := y0'
    have h20' : ¬ (200 : Int) < (n : Int) := by omega
    have HN := hid hN
    obtain ⟨⟨d2, q2, nm2, kd2, wh2, ao2, an2, bo2, bn2⟩, p, e, hx⟩ : ∃ x p e, readC l 0 0 = (x, p, e) := ⟨_, _, _, rfl⟩
    have HRX := hid hx
    clear hx hn hN hb y0'
    have PQ := hid (putC_any none [] c 0 0 rfl (by omega) w0 Byt.nil)
    cases hm : mayC c with
    | false =>
      have HM := hid hm
      clear hm
      obtain ⟨d, q, nm, kd, wh, ao, an, bo, bn⟩ := c
      unfold Crd.cells at hw0 PQ ⊢
      simp only at hw0 PQ ⊢
      obtain ⟨c0, c1, c2, c3, c4, c5, c6, c7, c8⟩ := r0.all
      rw [hw0] at c0 c1 c2 c3 c4 c5 c6 c7 c8
      go_enter Tryd.func6, Tryd.ntmps6
      go_wp2_with fail
      rw [← hw0] at c0 c1 c2 c3 c4 c5 c6 c7 c8 ⊢
      clear hw0
      refine PQ.out.mono ?_
      rintro er w4 hP
      obtain ⟨rfl, bb⟩ := hP.no HM.out
      have y4 := y0.below (bb.mono b0.size)
      have b4 := b0.trans (bb.mono b0.size)
      clear hP bb r0 b0 y0 c0 c1 c2 c3 c4 c5 c6 c7 c8 PQ
      go_wp2_with fail
      refine (cu_new (c := k) HN.out (by omega) w4 (y4.more b4.size)).mono ?_
      rintro er w5 ⟨g2, A3, k3, rfl, X5, hg2, bb⟩
      have y5 := y4.below (bb.mono b4.size)
      have b5 := b4.trans (bb.mono b4.size)
      have hgw : w.heap.size ≤ g2 := Nat.le_trans b4.size hg2
      clear bb y4 b4 hg2
      have CR := readC_any X5
      unfold ReadEnd at CR
      rw [HRX.out] at CR
      unfold Crd.cells at CR
      simp only at CR
      have HCR := hid CR
      clear CR X5
      go_wp2_with fail
      refine HCR.out.mono ?_
      rintro er w6 ⟨rfl, X6, G6⟩
      have y6 := y5.grown b5.size G6 (fun g e => by injection e with e; omega)
      have b6 := b5.grown G6 b5.size (fun g e => by injection e with e; omega)
      clear y5 b5 G6 HCR
      have X7 := X6.below (below_cr w6 ⟨d2, q2, nm2, kd2, wh2, ao2, an2, bo2, bn2⟩) X6.lt
      have y7 := y6.below ((below_cr w6 ⟨d2, q2, nm2, kd2, wh2, ao2, an2, bo2, bn2⟩).mono b6.size)
      have b7 := b6.trans ((below_cr w6 ⟨d2, q2, nm2, kd2, wh2, ao2, an2, bo2, bn2⟩).mono b6.size)
      have r7 := CrAt.new w6 ⟨d2, q2, nm2, kd2, wh2, ao2, an2, bo2, bn2⟩
      obtain ⟨g7, hg7⟩ : ∃ g7, g7 = w6.heap.size := ⟨_, rfl⟩
      obtain ⟨w7, hw7⟩ : ∃ w7, w7 = w6.alloc (.cells (Crd.cells ⟨d2, q2, nm2, kd2, wh2, ao2, an2, bo2, bn2⟩).toArray 27) := ⟨_, rfl⟩
      rw [← hg7] at r7
      rw [← hw7] at X7 y7 b7 r7
      unfold Crd.cells at hw7
      simp only at hw7
      clear X6 y6 b6
      go_wp2_with fail
      rw [← hw7, ← hg7]
      clear hw7 hg7
      refine (err_any g2 A3 _ k3 p e w7 X7.row).mono ?_
      rintro er w8 ⟨rfl, rfl⟩
      obtain ⟨c0, c1, c2, c3, c4, c5, c6, c7, c8⟩ := r7.all
      by_cases he : e = 0
      · subst he
        obtain ⟨hmay, htake, hpl, hpe⟩ := readC_back HRX.out
        have HM2 := hid hmay
        have HTK := hid htake
        have HPE := hid hpe
        rw [HN.out] at hpl
        have hpl' : ¬ (n : Int) < (p : Int) := by omega
        have hp0 : (0 : Int) ≤ (p : Int) := Int.natCast_nonneg _
        have hpk : p ≤ k := by omega
        clear hmay htake hpe
        have PP := hid (putC_any none [] ⟨d2, q2, nm2, kd2, wh2, ao2, an2, bo2, bn2⟩ 0 0 rfl (by omega) w7 Byt.nil)
        unfold Crd.cells at PP
        simp only at PP
        go_wp2_with fail
        refine PP.out.mono ?_
        rintro er w8 hP
        obtain ⟨A4, N4, k4, rfl, hl4, -, -, -, z8, bb⟩ := hP.yes HM2.out
        rw [List.nil_append] at hl4 z8
        obtain rfl : N4 = p := by rw [← hl4, HPE.out]
        have X8 := X7.below bb X7.lt
        have y8 := y7.below (bb.mono b7.size)
        have b8 := b7.trans (bb.mono b7.size)
        have z9 := z8
        rw [← HTK.out] at z9
        have hl9 := HTK.out ▸ hl4
        have SM := hid (same_eq A4 A (List.take N4 l) N4 k4 k hl9 (by omega) w8 z9 ((y8.more b8.size).head (hi := N4)))
        have HPC := hid (place_any g2 A3 _ k3 N4 0 w8 X8.row)
        clear hP bb y7 b7 X7 X8 y8 z8 z9 hl4 hl9 c0 c1 c2 c3 c4 c5 c6 c7 c8 r7 PP
        go_wp2_with fail
        refine HPC.out.mono ?_
        rintro er w9 ⟨rfl, rfl⟩
        go_wp2_with fail
        refine HPC.out.mono ?_
        rintro er w9 ⟨rfl, rfl⟩
        go_wp2_with fail
        refine SM.out.mono ?_
        rintro er w9 ⟨rfl, hq⟩
        have b9 : Below w.heap.size w w9 := by obtain ⟨q, rfl⟩ := hq; exact below_drewN b8 q
        clear hq b8 SM HPC
        go_wp2_with fail
        refine (lives_any w9).mono ?_
        rintro er w10 ⟨rfl, bb⟩
        go_wp2
        go_ret
        exact ⟨rfl, b9.trans (bb.mono b9.size)⟩
      · have hz := readC_zero HRX.out he
        simp only [Crd.zero, Crd.mk.injEq] at hz
        obtain ⟨rfl, rfl, rfl, rfl, rfl, rfl, rfl, rfl, rfl⟩ := hz
        unfold E0 at c2 c4 c5 c6 c7 c8
        have he' : (e == 0) = false := beq_eq_false_iff_ne.2 he
        go_wp2_with fail
        refine (lives_any _).mono ?_
        rintro er w10 ⟨rfl, bb⟩
        go_wp2
        go_ret
        exact ⟨rfl, b7.trans (bb.mono b7.size)⟩
    | true =>
      have HM := hid hm
      have hlen := putC_len hm
      have hrp := readC_put hm []
      rw [List.append_nil] at hrp
      have HRP := hid hrp
      clear hm hrp
      obtain ⟨P0, hP0⟩ : ∃ P0, P0 = putC c := ⟨_, rfl⟩
      obtain ⟨d, q, nm, kd, wh, ao, an, bo, bn⟩ := c
      unfold Crd.cells at hw0 PQ ⊢
      simp only at hw0 PQ ⊢
      obtain ⟨c0, c1, c2, c3, c4, c5, c6, c7, c8⟩ := r0.all
      rw [hw0] at c0 c1 c2 c3 c4 c5 c6 c7 c8
      go_enter Tryd.func6, Tryd.ntmps6
      go_wp2_with fail
      rw [← hw0] at c0 c1 c2 c3 c4 c5 c6 c7 c8 ⊢
      clear hw0
      refine PQ.out.mono ?_
      rintro er w1 hP
      obtain ⟨A1, N1, k1, rfl, hl1, -, hk1, hkm1, y1, bb⟩ := hP.yes HM.out
      rw [List.nil_append, ← hP0] at hl1 y1
      rw [← hP0] at hlen HRP
      have r1 := r0.kept bb
      have y0a := y0.below (bb.mono b0.size)
      have b1 := b0.trans (bb.mono b0.size)
      clear hP bb r0 b0 y0 c0 c1 c2 c3 c4 c5 c6 c7 c8 PQ hP0
      go_wp2_with fail
      refine (cu_new (c := k1) hl1 (by omega) w1 y1).mono ?_
      rintro er w2 ⟨g1, A2, k2, rfl, X2, hg1, bb⟩
      have r2 := r1.kept bb
      have y2 := y0a.below (bb.mono b1.size)
      have b2 := b1.trans (bb.mono b1.size)
      have hr1 := r1.lt
      clear bb y1 y0a b1 r1
      have CR := readC_any (X2.below (Below.refl w2.heap.size w2).drew X2.lt)
      unfold ReadEnd at CR
      rw [HRP.out] at CR
      unfold Crd.cells at CR
      simp only at CR
      have HCR := hid CR
      have HK := hid (fun W (hW : w2.grownBy W (some g1)) => ((r2.grown hW (by intro e; injection e with e; omega)).all : W.cell? ⟨w.heap.size, 0, none⟩ = some (.int .i64 d) ∧ W.cell? ⟨w.heap.size, 1, none⟩ = some (.int .i64 q) ∧ W.cell? ⟨w.heap.size, 2, none⟩ = some (.string nm) ∧ W.cell? ⟨w.heap.size, 3, none⟩ = some (.int .i64 kd) ∧ W.cell? ⟨w.heap.size, 4, none⟩ = some (.string wh) ∧ W.cell? ⟨w.heap.size, 5, none⟩ = some (.string ao) ∧ W.cell? ⟨w.heap.size, 6, none⟩ = some (.string an) ∧ W.cell? ⟨w.heap.size, 7, none⟩ = some (.string bo) ∧ W.cell? ⟨w.heap.size, 8, none⟩ = some (.string bn)))
      have HG0 : Hid (w2.grownBy w2.drew (some g1)) := hid (gro_below (gro_refl w2 _) (Below.refl w2.heap.size w2).drew)
      have HE0 : Hid (endOf N1 P0.length 0 = 0) := hid (by unfold endOf; rw [if_neg]; omega)
      have HY2 := hid y2
      have HB2 := hid b2
      have HGE := hid (Nat.le_trans b2.size (Nat.le_refl _))
      have hgw1 : w.heap.size ≤ g1 := by omega
      clear CR X2 r2 y2 b2 hl1
      go_wp2_with fail
      go_region_held3 (fun W => W.cell? ⟨w.heap.size, 0, none⟩ = some (.int .i64 d) ∧ W.cell? ⟨w.heap.size, 1, none⟩ = some (.int .i64 q) ∧ W.cell? ⟨w.heap.size, 2, none⟩ = some (.string nm) ∧ W.cell? ⟨w.heap.size, 3, none⟩ = some (.int .i64 kd) ∧ W.cell? ⟨w.heap.size, 4, none⟩ = some (.string wh) ∧ W.cell? ⟨w.heap.size, 5, none⟩ = some (.string ao) ∧ W.cell? ⟨w.heap.size, 6, none⟩ = some (.string an) ∧ W.cell? ⟨w.heap.size, 7, none⟩ = some (.string bo) ∧ W.cell? ⟨w.heap.size, 8, none⟩ = some (.string bn)) (first | exact HK.out _ HG4.out | exact HK.out _ HG3.out | exact HK.out _ HG0.out | go_keep) (first
        | (go_at_call 22; (refine HCR.out.mono ?_); rintro er w3 ⟨rfl, X3, G3⟩; have HG3 := hid (gro_trans HG0.out G3); have HX3 := hid X3; clear X3 G3)
        | (go_at_call 26; (refine (end_any _ _ _ _ _ _ _ HX3.out.row).mono ?_); rintro er w4 ⟨rfl, hq⟩; rw [HE0.out]; have HG4 := hid (show w2.grownBy w4 (some g1) by obtain ⟨q, rfl⟩ := hq; exact gro_trans HG3.out (grown_drewN _ _ _)); clear hq)
        | fail)
      all_goals
        have y4 := HY2.out.grown HB2.out.size HG4.out (fun g e => by injection e with e; omega)
        have b4 := HB2.out.grown HG4.out HB2.out.size (fun g e => by injection e with e; omega)
        clear HY2 HB2 HG3 HX3 HG4 HCR HK HG0 HE0 HGE
        go_wp2_with fail
        refine (cu_new (c := k) HN.out (by omega) w4 (y4.more b4.size)).mono ?_
        rintro er w5 ⟨g2, A3, k3, rfl, X5, hg2, bb⟩
        have y5 := y4.below (bb.mono b4.size)
        have b5 := b4.trans (bb.mono b4.size)
        have hgw : w.heap.size ≤ g2 := Nat.le_trans b4.size hg2
        clear bb y4 b4 hg2
        have CR := readC_any X5
        unfold ReadEnd at CR
        rw [HRX.out] at CR
        unfold Crd.cells at CR
        simp only at CR
        have HCR := hid CR
        clear CR X5
        go_wp2_with fail
        refine HCR.out.mono ?_
        rintro er w6 ⟨rfl, X6, G6⟩
        have y6 := y5.grown b5.size G6 (fun g e => by injection e with e; omega)
        have b6 := b5.grown G6 b5.size (fun g e => by injection e with e; omega)
        clear y5 b5 G6 HCR
        have X7 := X6.below (below_cr w6 ⟨d2, q2, nm2, kd2, wh2, ao2, an2, bo2, bn2⟩) X6.lt
        have y7 := y6.below ((below_cr w6 ⟨d2, q2, nm2, kd2, wh2, ao2, an2, bo2, bn2⟩).mono b6.size)
        have b7 := b6.trans ((below_cr w6 ⟨d2, q2, nm2, kd2, wh2, ao2, an2, bo2, bn2⟩).mono b6.size)
        have r7 := CrAt.new w6 ⟨d2, q2, nm2, kd2, wh2, ao2, an2, bo2, bn2⟩
        obtain ⟨g7, hg7⟩ : ∃ g7, g7 = w6.heap.size := ⟨_, rfl⟩
        obtain ⟨w7, hw7⟩ : ∃ w7, w7 = w6.alloc (.cells (Crd.cells ⟨d2, q2, nm2, kd2, wh2, ao2, an2, bo2, bn2⟩).toArray 27) := ⟨_, rfl⟩
        rw [← hg7] at r7
        rw [← hw7] at X7 y7 b7 r7
        unfold Crd.cells at hw7
        simp only at hw7
        clear X6 y6 b6
        go_wp2_with fail
        rw [← hw7, ← hg7]
        clear hw7 hg7
        refine (err_any g2 A3 _ k3 p e w7 X7.row).mono ?_
        rintro er w8 ⟨rfl, rfl⟩
        obtain ⟨c0, c1, c2, c3, c4, c5, c6, c7, c8⟩ := r7.all
        by_cases he : e = 0
        · subst he
          obtain ⟨hmay, htake, hpl, hpe⟩ := readC_back HRX.out
          have HM2 := hid hmay
          have HTK := hid htake
          have HPE := hid hpe
          rw [HN.out] at hpl
          have hpl' : ¬ (n : Int) < (p : Int) := by omega
          have hp0 : (0 : Int) ≤ (p : Int) := Int.natCast_nonneg _
          have hpk : p ≤ k := by omega
          clear hmay htake hpe
          have PP := hid (putC_any none [] ⟨d2, q2, nm2, kd2, wh2, ao2, an2, bo2, bn2⟩ 0 0 rfl (by omega) w7 Byt.nil)
          unfold Crd.cells at PP
          simp only at PP
          go_wp2_with fail
          refine PP.out.mono ?_
          rintro er w8 hP
          obtain ⟨A4, N4, k4, rfl, hl4, -, -, -, z8, bb⟩ := hP.yes HM2.out
          rw [List.nil_append] at hl4 z8
          obtain rfl : N4 = p := by rw [← hl4, HPE.out]
          have X8 := X7.below bb X7.lt
          have y8 := y7.below (bb.mono b7.size)
          have b8 := b7.trans (bb.mono b7.size)
          have z9 := z8
          rw [← HTK.out] at z9
          have hl9 := HTK.out ▸ hl4
          have SM := hid (same_eq A4 A (List.take N4 l) N4 k4 k hl9 (by omega) w8 z9 ((y8.more b8.size).head (hi := N4)))
          have HPC := hid (place_any g2 A3 _ k3 N4 0 w8 X8.row)
          clear hP bb y7 b7 X7 X8 y8 z8 z9 hl4 hl9 c0 c1 c2 c3 c4 c5 c6 c7 c8 r7 PP
          go_wp2_with fail
          refine HPC.out.mono ?_
          rintro er w9 ⟨rfl, rfl⟩
          go_wp2_with fail
          refine HPC.out.mono ?_
          rintro er w9 ⟨rfl, rfl⟩
          go_wp2_with fail
          refine SM.out.mono ?_
          rintro er w9 ⟨rfl, hq⟩
          have b9 : Below w.heap.size w w9 := by obtain ⟨q, rfl⟩ := hq; exact below_drewN b8 q
          clear hq b8 SM HPC
          go_wp2_with fail
          refine (lives_any w9).mono ?_
          rintro er w10 ⟨rfl, bb⟩
          go_wp2
          go_ret
          exact ⟨rfl, b9.trans (bb.mono b9.size)⟩
        · have hz := readC_zero HRX.out he
          simp only [Crd.zero, Crd.mk.injEq] at hz
          obtain ⟨rfl, rfl, rfl, rfl, rfl, rfl, rfl, rfl, rfl⟩ := hz
          unfold E0 at c2 c4 c5 c6 c7 c8
          have he' : (e == 0) = false := beq_eq_false_iff_ne.2 he
          go_wp2_with fail
          refine (lives_any _).mono ?_
          rintro er w10 ⟨rfl, bb⟩
          go_wp2
          go_ret
          exact ⟨rfl, b7.trans (bb.mono b7.size)⟩
end Go.Proofs.YtkggagnaiiemlaaDoor.Sh
