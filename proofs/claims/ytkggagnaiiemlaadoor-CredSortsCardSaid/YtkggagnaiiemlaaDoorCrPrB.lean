/-
  The program's own May, Role and Before, by contract.
-/
import Derived.Test.YtkggagnaiiemlaaDoorCrPrA
import Derived.Test.YtkggagnaiiemlaaDoorCrBef
namespace Go.Proofs.YtkggagnaiiemlaaDoor.Sh
open Go Go.RowKit

theorem mayC_parts (c : Crd) : mayC c = ((decide (1 ≤ c.d ∧ c.d ≤ 16) && decide (1 ≤ c.q ∧ c.q ≤ 4000)) && mayL c.nm.data.toList && kindOk c) := by
  unfold mayC headOk mayB
  have h : decide (1 ≤ c.d ∧ c.d ≤ 16 ∧ 1 ≤ c.q ∧ c.q ≤ 4000) = (decide (1 ≤ c.d ∧ c.d ≤ 16) && decide (1 ≤ c.q ∧ c.q ≤ 4000)) := by
    rw [Bool.eq_iff_iff]; simp only [decide_eq_true_eq, Bool.and_eq_true]; omega
  rw [h]
set_option maxHeartbeats 2000000 in
theorem mayC_any (c : Crd) (w : World) : Calls Tryd.prog 13 #[.agg c.cells.toArray] w fun e w' => e = .returned (.bool (mayC c)) ∧ Below w.heap.size w w' := by
  have HMC := hid (mayC_parts c)
  obtain ⟨w0, hw0⟩ : ∃ w0, w0 = w.alloc (.cells c.cells.toArray 27) := ⟨_, rfl⟩
  have HR0 : Hid (CrAt w0 w.heap.size c) := hid (by rw [hw0]; exact CrAt.new w c)
  have HB0 : Hid (Below w.heap.size w w0) := hid (by rw [hw0]; exact below_cr w c)
  have HFL := hid (fun w => filled_any c w)
  obtain ⟨d, q, nm, kd, wh, ao, an, bo, bn⟩ := c
  have H1 := hid (fun w => between_any d 16 w)
  have H2 := hid (fun w => between_any q 4000 w)
  have H3 := hid (fun w => may_any nm w)
  simp only at HMC
  obtain ⟨B1, hB1⟩ : ∃ B, decide (1 ≤ d ∧ d ≤ 16) = B := ⟨_, rfl⟩
  obtain ⟨B2, hB2⟩ : ∃ B, decide (1 ≤ q ∧ q ≤ 4000) = B := ⟨_, rfl⟩
  obtain ⟨B3, hB3⟩ : ∃ B, mayL nm.data.toList = B := ⟨_, rfl⟩
  obtain ⟨B4, hB4⟩ : ∃ B, kindOk ⟨d, q, nm, kd, wh, ao, an, bo, bn⟩ = B := ⟨_, rfl⟩
  rw [hB1] at H1 HMC
  rw [hB2] at H2 HMC
  rw [hB3] at H3 HMC
  rw [hB4] at HFL HMC
  clear hB1 hB2 hB3 hB4
  unfold Crd.cells at hw0 HFL ⊢
  simp only at hw0 HFL ⊢
  obtain ⟨c0, c1, c2, c3, c4, c5, c6, c7, c8⟩ := HR0.out.all
  go_enter Tryd.func13, Tryd.ntmps13
  rw [hw0] at c0 c1 c2 c3 c4 c5 c6 c7 c8
  go_wp2_with fail
  rw [← hw0] at c0 c1 c2 c3 c4 c5 c6 c7 c8 ⊢
  clear hw0
  refine (H1.out _).mono ?_
  rintro er w1 ⟨rfl, rfl⟩
  cases B1 with
  | false =>
    have HF : Hid (mayC ⟨d, q, nm, kd, wh, ao, an, bo, bn⟩ = false) := hid (by rw [HMC.out]; simp)
    go_wp2
    go_ret
    exact ⟨by rw [HF.out]; rfl, HB0.out⟩
  | true =>
  go_wp2_with fail
  refine (H2.out _).mono ?_
  rintro er w1 ⟨rfl, rfl⟩
  cases B2 with
  | false =>
    have HF : Hid (mayC ⟨d, q, nm, kd, wh, ao, an, bo, bn⟩ = false) := hid (by rw [HMC.out]; simp)
    go_wp2
    go_ret
    exact ⟨by rw [HF.out]; rfl, HB0.out⟩
  | true =>
  go_wp2_with fail
  refine (H3.out _).mono ?_
  rintro er w1 ⟨rfl, bb⟩
  have HR1 := hid (HR0.out.kept bb)
  have HB1 := hid (HB0.out.trans (bb.mono HB0.out.size))
  clear bb c0 c1 c2 c3 c4 c5 c6 c7 c8
  obtain ⟨c0, c1, c2, c3, c4, c5, c6, c7, c8⟩ := HR1.out.all
  cases B3 with
  | false =>
    have HF : Hid (mayC ⟨d, q, nm, kd, wh, ao, an, bo, bn⟩ = false) := hid (by rw [HMC.out]; simp)
    go_wp2
    go_ret
    exact ⟨by rw [HF.out]; rfl, HB1.out⟩
  | true =>
  have HF : Hid (mayC ⟨d, q, nm, kd, wh, ao, an, bo, bn⟩ = B4) := hid (by rw [HMC.out]; simp)
  go_wp2_with fail
  refine (HFL.out _).mono ?_
  rintro er w2 ⟨rfl, bb⟩
  have HB2 := hid (HB1.out.trans (bb.mono HB1.out.size))
  clear bb c0 c1 c2 c3 c4 c5 c6 c7 c8
  go_wp2
  go_ret
  exact ⟨by rw [HF.out]; rfl, HB2.out⟩

set_option maxHeartbeats 2000000 in
theorem roleC_any (c : Crd) (h0 : -9223372036854775808 ≤ c.d) (h1 : c.d < 9223372036854775808) (w : World) :
    Calls Tryd.prog 15 #[.agg c.cells.toArray] w fun e w' => e = .returned (.agg #[.string (domB c.d), .string c.nm]) ∧ Below w.heap.size w w' := by
  obtain ⟨d, q, nm, kd, wh, ao, an, bo, bn⟩ := c
  simp only at h0 h1 ⊢
  obtain ⟨D, hD⟩ : ∃ D, domB d = D := ⟨_, rfl⟩
  have HD0 : Hid (∀ w, Calls Tryd.prog 44 #[.int .i64 d] w fun e w' => e = .returned (.string D) ∧ Below w.heap.size w w') := hid (fun w => by rw [← hD]; exact domain_any d h0 h1 w)
  rw [hD]
  clear hD
  obtain ⟨w1, hw1⟩ : ∃ w1, w1 = (w.alloc (.cells (Crd.cells ⟨d, q, nm, kd, wh, ao, an, bo, bn⟩).toArray 27)).alloc (.cells #[.string ⟨#[]⟩, .string ⟨#[]⟩] 25) := ⟨_, rfl⟩
  obtain ⟨r1, s1, b1⟩ : Fl w w1 ⟨d, q, nm, kd, wh, ao, an, bo, bn⟩ := by rw [hw1]; exact Fl.new w _
  unfold Crd.cells at hw1 ⊢
  simp only at hw1 ⊢
  go_enter Tryd.func15, Tryd.ntmps15
  go_wp2_with fail
  rw [← hw1]
  clear hw1
  have HK := hid (fun W (hW : Below w1.heap.size w1 W) => (⟨(r1.kept hW).cell 0 _ rfl, (r1.kept hW).cell 2 _ rfl, (s1.kept hW).c0, (s1.kept hW).c1, (s1.kept hW).f 0, (s1.kept hW).f 1⟩ :
    W.cell? ⟨w.heap.size, 0, none⟩ = some (.int .i64 d) ∧ W.cell? ⟨w.heap.size, 2, none⟩ = some (.string nm) ∧ W.cell? ⟨w.heap.size + 1, 0, none⟩ = some (.string ⟨#[]⟩) ∧ W.cell? ⟨w.heap.size + 1, 1, none⟩ = some (.string ⟨#[]⟩) ∧ W.frozen? ⟨w.heap.size + 1, 0, none⟩ = false ∧ W.frozen? ⟨w.heap.size + 1, 1, none⟩ = false))
  have HS := hid (fun W (hW : Below w1.heap.size w1 W) => s1.kept hW)
  have HD := hid (Below.refl w1.heap.size w1).drew
  have H0 := hid b1
  clear r1 s1 b1
  obtain ⟨k1, k2, k3, k4, k5, k6⟩ := HK.out _ (Below.refl _ _)
  go_region_with ((go_at_call 44; (refine (HD0.out _).mono ?_); rintro er w5 ⟨rfl, bb⟩; have B1 := hid (kept_trans HD.out HD.out.size bb); (obtain ⟨j1, j2, j3, j4, j5, j6⟩ := HK.out _ B1.out); clear bb))
  all_goals
    go_wp2
    refine bodyPost_ret (results_mid (h := Tryd.results15) _ _ (w.heap.size + 1) 0 [.string D, .string nm] _ rfl (range_row (pair_set (HS.out _ B1.out))) Tryd.underlying25 rfl info_role) rfl
      ⟨rfl, ((H0.out.trans (B1.out.mono H0.out.size)).setCell (Nat.le_succ _) _).setCell (Nat.le_succ _) _⟩

theorem before_any (d q d' q' : Int) (w : World) : Calls Tryd.prog 30 #[.agg #[.int .i64 d, .int .i64 q], .agg #[.int .i64 d', .int .i64 q']] w fun er w' => er = .returned (.bool (beforeI d q d' q')) ∧ Below w.heap.size w w' := by
  by_cases h : d = d'
  · subst h
    have hb : (d == d) = true := by simp
    by_cases hq : q < q'
    · have HE : Hid (beforeI d q d q' = true) := hid (by unfold beforeI; simp; omega)
      go_enter Tryd.func30, Tryd.ntmps30
      go_wp2
      go_ret
      exact ⟨by rw [HE.out]; rfl, below_id2 _ _ _ _ _⟩
    · have HE : Hid (beforeI d q d q' = false) := hid (by unfold beforeI; simp; omega)
      go_enter Tryd.func30, Tryd.ntmps30
      go_wp2
      go_ret
      exact ⟨by rw [HE.out]; rfl, below_id2 _ _ _ _ _⟩
  · have hb : (d == d') = false := beq_eq_false_iff_ne.2 h
    by_cases hq : d < d'
    · have HE : Hid (beforeI d q d' q' = true) := hid (by unfold beforeI; simp; omega)
      go_enter Tryd.func30, Tryd.ntmps30
      go_wp2
      go_ret
      exact ⟨by rw [HE.out]; rfl, below_id2 _ _ _ _ _⟩
    · have HE : Hid (beforeI d q d' q' = false) := hid (by unfold beforeI; simp; omega)
      go_enter Tryd.func30, Tryd.ntmps30
      go_wp2
      go_ret
      exact ⟨by rw [HE.out]; rfl, below_id2 _ _ _ _ _⟩

end Go.Proofs.YtkggagnaiiemlaaDoor.Sh
