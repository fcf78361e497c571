/-
  The walks of CredMay, CredTexts and CredPuts.
-/
import Derived.Test.YtkggagnaiiemlaaDoorCrLives
namespace Go.Proofs.YtkggagnaiiemlaaDoor.Sh
open Go Go.RowKit

theorem textEnd_two (c : Crd) : ∃ S E, textEnd c = .returned (.tuple #[.string S, .int .i64 E]) := by
  unfold textEnd
  split
  · exact ⟨_, _, rfl⟩
  · exact ⟨_, _, rfl⟩
set_option maxHeartbeats 8000000 in
theorem credMay_walk (c : Crd) (h0 : -9223372036854775808 ≤ c.d) (h1 : c.d < 9223372036854775808) (w : World) :
    Calls Tryd.prog 3 #[.agg c.cells.toArray] w fun e w' => e = .returned (.bool true) ∧ Below w.heap.size w w' := by
  obtain ⟨S, E, hse⟩ := textEnd_two c
  have T1 := hid (fun w => hse ▸ textC_any c w)
  have T2 := hid (fun w => hse ▸ refTextC_any c w)
  have M1 := hid (fun w => mayC_any c w)
  have M2 := hid (fun w => refMayC_any c w)
  have R1 := hid (fun w => roleC_any c h0 h1 w)
  have R2 := hid (fun w => refRoleC_any c h0 h1 w)
  obtain ⟨b, hb⟩ : ∃ b, mayC c = b := ⟨_, rfl⟩
  obtain ⟨D, hD⟩ : ∃ D, domB c.d = D := ⟨_, rfl⟩
  rw [hb] at M1 M2
  rw [hD] at R1 R2
  obtain ⟨w0, hw0⟩ : ∃ w0, w0 = w.alloc (.cells c.cells.toArray 27) := ⟨_, rfl⟩
  have r0 : CrAt w0 w.heap.size c := by rw [hw0]; exact CrAt.new w c
  have b0 : Below w.heap.size w w0 := by rw [hw0]; exact below_cr w c
  clear hse hb hD h0 h1
  obtain ⟨d, q, nm, kd, wh, ao, an, bo, bn⟩ := c
  unfold Crd.cells at hw0 T1 T2 M1 M2 R1 R2 ⊢
  simp only at hw0 T1 T2 M1 M2 R1 R2 ⊢
  go_enter Tryd.func3, Tryd.ntmps3
  obtain ⟨c0, c1, c2, c3, c4, c5, c6, c7, c8⟩ := r0.all
  rw [hw0] at c0 c1 c2 c3 c4 c5 c6 c7 c8
  go_wp2_with fail
  rw [← hw0] at c0 c1 c2 c3 c4 c5 c6 c7 c8 ⊢
  clear hw0
  refine (T1.out w0).mono ?_
  rintro er w1 ⟨rfl, bb⟩
  have r1 := r0.kept bb
  have b1 := b0.trans (bb.mono b0.size)
  clear bb c0 c1 c2 c3 c4 c5 c6 c7 c8 r0 b0
  obtain ⟨c0, c1, c2, c3, c4, c5, c6, c7, c8⟩ := r1.all
  go_wp2_with fail
  refine (T2.out w1).mono ?_
  rintro er w2 ⟨rfl, bb⟩
  have r2 := r1.kept bb
  have b2 := b1.trans (bb.mono b1.size)
  clear bb c0 c1 c2 c3 c4 c5 c6 c7 c8 r1 b1
  have HK := hid (fun W (hW : Below w2.heap.size w2 W) => ((r2.kept hW).all : W.cell? ⟨w.heap.size, 0, none⟩ = some (.int .i64 d) ∧ W.cell? ⟨w.heap.size, 1, none⟩ = some (.int .i64 q) ∧ W.cell? ⟨w.heap.size, 2, none⟩ = some (.string nm) ∧ W.cell? ⟨w.heap.size, 3, none⟩ = some (.int .i64 kd) ∧ W.cell? ⟨w.heap.size, 4, none⟩ = some (.string wh) ∧ W.cell? ⟨w.heap.size, 5, none⟩ = some (.string ao) ∧ W.cell? ⟨w.heap.size, 6, none⟩ = some (.string an) ∧ W.cell? ⟨w.heap.size, 7, none⟩ = some (.string bo) ∧ W.cell? ⟨w.heap.size, 8, none⟩ = some (.string bn)))
  have HD := hid (Below.refl w2.heap.size w2).drew
  have H0 := hid b2
  clear r2 b2
  go_wp2_with fail
  cases b with
  | _ =>
    go_region_held3 (fun W => W.cell? ⟨w.heap.size, 0, none⟩ = some (.int .i64 d) ∧ W.cell? ⟨w.heap.size, 1, none⟩ = some (.int .i64 q) ∧ W.cell? ⟨w.heap.size, 2, none⟩ = some (.string nm) ∧ W.cell? ⟨w.heap.size, 3, none⟩ = some (.int .i64 kd) ∧ W.cell? ⟨w.heap.size, 4, none⟩ = some (.string wh) ∧ W.cell? ⟨w.heap.size, 5, none⟩ = some (.string ao) ∧ W.cell? ⟨w.heap.size, 6, none⟩ = some (.string an) ∧ W.cell? ⟨w.heap.size, 7, none⟩ = some (.string bo) ∧ W.cell? ⟨w.heap.size, 8, none⟩ = some (.string bn)) (first | exact HK.out _ B5.out | exact HK.out _ B4.out | exact HK.out _ B3.out | exact HK.out _ B2.out | exact HK.out _ B1.out | exact HK.out _ HD.out | go_keep) (first
      | (go_at_call 13; (refine (M1.out _).mono ?_); rintro er w5 ⟨rfl, bb⟩; have B1 := hid (kept_trans HD.out HD.out.size bb); clear bb)
      | (go_at_call 14; (refine (M2.out _).mono ?_); rintro er w6 ⟨rfl, bb⟩; have B2 := hid (kept_trans B1.out B1.out.size bb); clear bb)
      | (go_at_call 15; (refine (R1.out _).mono ?_); rintro er w7 ⟨rfl, bb⟩; have B3 := hid (kept_trans B2.out B2.out.size bb); clear bb)
      | (go_at_call 16; (refine (R2.out _).mono ?_); rintro er w8 ⟨rfl, bb⟩; have B4 := hid (kept_trans B3.out B3.out.size bb); clear bb)
      | (go_at_call 17; (refine (lives_any _).mono ?_); rintro er w9 ⟨rfl, bb⟩; have B5 := hid (kept_trans B4.out B4.out.size bb); clear bb)
      | fail)
    all_goals
      go_wp2
      go_ret
      exact ⟨rfl, H0.out.trans (B5.out.mono H0.out.size)⟩
end Go.Proofs.YtkggagnaiiemlaaDoor.Sh
