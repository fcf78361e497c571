/-
  The document's own Role and Text of a credential.
-/
import Derived.Test.YtkggagnaiiemlaaDoorCrRef
import Derived.Test.YtkggagnaiiemlaaDoorCrText
namespace Go.Proofs.YtkggagnaiiemlaaDoor.Sh
open Go Go.RowKit

theorem RoleAt.f {w : World} {g : Nat} {o n : ByteArray} (h : RoleAt w g o n) (k : Nat) : w.frozen? ⟨g, k, none⟩ = false := frozen_of_row w g k _ _ h
set_option maxHeartbeats 2000000 in
theorem refRoleC_any (c : Crd) (h0 : -9223372036854775808 ≤ c.d) (h1 : c.d < 9223372036854775808) (w : World) :
    Calls Tryd.prog 16 #[.agg c.cells.toArray] w fun e w' => e = .returned (.agg #[.string (domB c.d), .string c.nm]) ∧ Below w.heap.size w w' := by
  obtain ⟨d, q, nm, kd, wh, ao, an, bo, bn⟩ := c
  simp only at h0 h1 ⊢
  obtain ⟨D, hD⟩ : ∃ D, domB d = D := ⟨_, rfl⟩
  have HD0 : Hid (∀ w, Calls Tryd.prog 36 #[.int .i64 d] w fun e w' => e = .returned (.string D) ∧ Below w.heap.size w w') := hid (fun w => by rw [← hD]; exact refDomain_any d h0 h1 w)
  rw [hD]
  clear hD
  obtain ⟨w1, hw1⟩ : ∃ w1, w1 = (w.alloc (.cells (Crd.cells ⟨d, q, nm, kd, wh, ao, an, bo, bn⟩).toArray 27)).alloc (.cells #[.string ⟨#[]⟩, .string ⟨#[]⟩] 25) := ⟨_, rfl⟩
  have r1 : CrAt w1 w.heap.size ⟨d, q, nm, kd, wh, ao, an, bo, bn⟩ := by rw [hw1]; exact (CrAt.new w _).kept (below_box _ _ _)
  have s1 : RoleAt w1 (w.heap.size + 1) ⟨#[]⟩ ⟨#[]⟩ := by rw [hw1]; have := RoleAt.new (w.alloc (.cells (Crd.cells ⟨d, q, nm, kd, wh, ao, an, bo, bn⟩).toArray 27)) ⟨#[]⟩ ⟨#[]⟩; rwa [World.size_alloc] at this
  have b1 : Below w.heap.size w w1 := by rw [hw1]; exact (below_cr w _).alloc (by rw [World.size_alloc]; exact Nat.le_succ _) _
  unfold Crd.cells at hw1 ⊢
  simp only at hw1 ⊢
  go_enter Tryd.func16, Tryd.ntmps16
  go_wp2_with fail
  rw [← hw1]
  clear hw1
  have HK := hid (fun W (hW : Below w1.heap.size w1 W) => (⟨(r1.kept hW).cell 0 _ rfl, (r1.kept hW).cell 2 _ rfl, (s1.kept hW).c0, (s1.kept hW).c1, (s1.kept hW).f 0, (s1.kept hW).f 1⟩ :
    W.cell? ⟨w.heap.size, 0, none⟩ = some (.int .i64 d) ∧ W.cell? ⟨w.heap.size, 2, none⟩ = some (.string nm) ∧ W.cell? ⟨w.heap.size + 1, 0, none⟩ = some (.string ⟨#[]⟩) ∧ W.cell? ⟨w.heap.size + 1, 1, none⟩ = some (.string ⟨#[]⟩) ∧ W.frozen? ⟨w.heap.size + 1, 0, none⟩ = false ∧ W.frozen? ⟨w.heap.size + 1, 1, none⟩ = false))
  have HS := hid (fun W (hW : Below w1.heap.size w1 W) => s1.kept hW)
  have HD := hid (Below.refl w1.heap.size w1).drew
  have H0 := hid b1
  clear r1 s1 b1
  obtain ⟨k1, k2, k3, k4, k5, k6⟩ := HK.out _ (Below.refl _ _)
  go_region_with ((go_at_call 36; (refine (HD0.out _).mono ?_); rintro er w5 ⟨rfl, bb⟩; have B1 := hid (kept_trans HD.out HD.out.size bb); (obtain ⟨j1, j2, j3, j4, j5, j6⟩ := HK.out _ B1.out); clear bb))
  all_goals
    go_wp2
    refine bodyPost_ret (results_mid (h := Tryd.results16) _ _ (w.heap.size + 1) 0 [.string D, .string nm] _ rfl (range_row (pair_set (HS.out _ B1.out))) Tryd.underlying25 rfl info_role) rfl
      ⟨rfl, ((H0.out.trans (B1.out.mono H0.out.size)).setCell (Nat.le_succ _) _).setCell (Nat.le_succ _) _⟩

def textEnd (c : Crd) : Ending := .returned (.tuple (if mayC c = true then #[.string (textC c), .int .i64 0] else #[.string E0, .int .i64 11]))
theorem domB_size (d : Int) : (domB d).size ≤ 3 := by
  rw [← size_list]
  show (domL d).length ≤ 3
  unfold domL
  split
  · simp
  · split <;> simp
theorem role_sizes {o n : ByteArray} (h : roleL o.data.toList n.data.toList = true) : o.size ≤ 3 ∧ n.size ≤ 8 := by
  unfold roleL at h
  simp only [Bool.and_eq_true, decide_eq_true_eq] at h
  refine ⟨?_, mayL_size h.1⟩
  have e := size_list o
  rw [← (domL_numL _ h.2).1] at e
  rw [← e]
  have := domB_size (numL o.data.toList : Int)
  rw [← size_list] at this
  exact this
theorem e0_size : E0.size = 0 := rfl
theorem may_sizes {c : Crd} (h : mayC c = true) : c.nm.size ≤ 8 ∧ c.wh.size ≤ 8 ∧ c.ao.size ≤ 3 ∧ c.an.size ≤ 8 ∧ c.bo.size ≤ 3 ∧ c.bn.size ≤ 8 := by
  obtain ⟨_, _, _, _, h5⟩ := may_head h
  refine ⟨mayL_size h5, ?_⟩
  rcases may_kind h with ⟨_, m, a, b, c, d⟩ | ⟨_, a, m, c, d⟩ | ⟨_, a, b, m, d, m2⟩ | ⟨_, a, m, m2⟩
  · rw [a, b, c, d, e0_size]; exact ⟨mayL_size m, by omega, by omega, by omega, by omega⟩
  · rw [a, c, d, e0_size]; exact ⟨by omega, (role_sizes m).1, (role_sizes m).2, by omega, by omega⟩
  · rw [a, b, d, e0_size]; exact ⟨by omega, by omega, mayL_size m, by omega, mayL_size m2⟩
  · rw [a, e0_size]; exact ⟨by omega, (role_sizes m).1, (role_sizes m).2, (role_sizes m2).1, (role_sizes m2).2⟩
theorem textC_1 {c : Crd} (h : c.kd = 1) : textC c = domB c.d ++ dotB ++ c.nm ++ arrow ++ c.wh := by
  refine ba_eq ?_
  unfold textC textHead
  rw [textBody_1 h]
  simp [domB, dotB, arrow]
theorem textC_2 {c : Crd} (h : c.kd = 2) : textC c = domB c.d ++ dotB ++ c.nm ++ arrow ++ textB c.ao c.an := by
  refine ba_eq ?_
  unfold textC textHead
  rw [textBody_2 h]
  simp [domB, dotB, arrow, textB_list]
theorem textC_3 {c : Crd} (h : c.kd = 3) : textC c = domB c.d ++ dotB ++ c.nm ++ arrow ++ domB c.d ++ dotB ++ c.an ++ dotB ++ c.bn := by
  refine ba_eq ?_
  unfold textC textHead
  rw [textBody_3 h]
  simp [domB, dotB, arrow]
theorem textC_4 {c : Crd} (h : c.kd = 4) : textC c = domB c.d ++ dotB ++ c.nm ++ arrow ++ textB c.ao c.an ++ amp ++ textB c.bo c.bn := by
  refine ba_eq ?_
  unfold textC textHead
  rw [textBody_4 h]
  simp [domB, dotB, arrow, amp, textB_list]
theorem textB_size (o n : ByteArray) : (textB o n).size = o.size + 1 + n.size := by
  rw [← size_list, textB_list, List.length_append, List.length_cons, size_list, size_list]; omega

set_option maxHeartbeats 4000000 in
theorem refTextC_any (c : Crd) (w : World) :
    Calls Tryd.prog 12 #[.agg c.cells.toArray] w fun e w' => e = textEnd c ∧ Below w.heap.size w w' := by
  obtain ⟨b, hb⟩ : ∃ b, mayC c = b := ⟨_, rfl⟩
  have HM := hid (fun w => hb ▸ refMayC_any c w)
  obtain ⟨w0, hw0⟩ : ∃ w0, w0 = w.alloc (.cells c.cells.toArray 27) := ⟨_, rfl⟩
  have r0 : CrAt w0 w.heap.size c := by rw [hw0]; exact CrAt.new w c
  have b0 : Below w.heap.size w w0 := by rw [hw0]; exact below_cr w c
  have HB := hid hb
  clear hb
  obtain ⟨d, q, nm, kd, wh, ao, an, bo, bn⟩ := c
  unfold Crd.cells at hw0 HM ⊢
  simp only at hw0 HM ⊢
  go_enter Tryd.func12, Tryd.ntmps12
  obtain ⟨c0, c1, c2, c3, c4, c5, c6, c7, c8⟩ := r0.all
  have R0 := hid r0
  have B0 := hid b0
  clear r0 b0
  rw [hw0] at c0 c1 c2 c3 c4 c5 c6 c7 c8
  go_wp2_with fail
  rw [← hw0] at c0 c1 c2 c3 c4 c5 c6 c7 c8 ⊢
  clear hw0
  refine (HM.out w0).mono ?_
  rintro er w1 ⟨rfl, bb⟩
  have r1 := R0.out.kept bb
  have b1 := B0.out.trans (bb.mono B0.out.size)
  clear bb c0 c1 c2 c3 c4 c5 c6 c7 c8
  cases b with
  | false =>
    go_wp2
    go_ret2
    exact ⟨by unfold textEnd; rw [HB.out]; rfl, b1⟩
  | true =>
    obtain ⟨m1, m2, m3, m4, m5, m6⟩ := may_sizes HB.out
    obtain ⟨g1, g2, _, _, _⟩ := may_head HB.out
    have hk := may_kind HB.out
    simp only at m1 m2 m3 m4 m5 m6 g1 g2 hk
    have hDs := domB_size d
    obtain ⟨D, hD⟩ : ∃ D, domB d = D := ⟨_, rfl⟩
    have HD0 : Hid (∀ w, Calls Tryd.prog 36 #[.int .i64 d] w fun e w' => e = .returned (.string D) ∧ Below w.heap.size w w') := hid (fun w => by rw [← hD]; exact refDomain_any d (by omega) (by omega) w)
    rw [hD] at hDs
    have HDD := hid hD
    clear hD
    obtain ⟨c0, c1, c2, c3, c4, c5, c6, c7, c8⟩ := r1.all
    go_wp2_with fail
    refine (HD0.out _).mono ?_
    rintro er w2 ⟨rfl, bb⟩
    have r2 := r1.kept bb
    have b2 := b1.trans (bb.mono b1.size)
    clear bb c0 c1 c2 c3 c4 c5 c6 c7 c8 r1 b1
    obtain ⟨c0, c1, c2, c3, c4, c5, c6, c7, c8⟩ := r2.all
    have R2 := hid r2
    have B2 := hid b2
    clear r2 b2
    have HT1 := hid (fun w => refText_names ao an (by omega) w)
    have HT2 := hid (fun w => refText_names bo bn (by omega) w)
    rcases hk with ⟨rfl, -⟩ | ⟨rfl, -⟩ | ⟨rfl, -⟩ | ⟨rfl, -⟩
    · go_wp2
      go_ret2
      exact ⟨by unfold textEnd; rw [HB.out, textC_1 rfl, ← HDD.out]; rfl, B2.out⟩
    · have ht := textB_size ao an
      obtain ⟨T, hT⟩ : ∃ T, textB ao an = T := ⟨_, rfl⟩
      rw [hT] at HT1 ht
      have HTT := hid hT
      have ht' : T.size ≤ 12 := by omega
      clear hT ht
      go_wp2_with fail
      refine (HT1.out _).mono ?_
      rintro er w3 ⟨rfl, bb⟩
      have r3 := R2.out.kept bb
      have b3 := B2.out.trans (bb.mono B2.out.size)
      clear bb c0 c1 c2 c3 c4 c5 c6 c7 c8
      obtain ⟨c0, c1, c2, c3, c4, c5, c6, c7, c8⟩ := r3.all
      clear r3
      go_wp2
      go_ret2
      exact ⟨by unfold textEnd; rw [HB.out, textC_2 rfl, ← HDD.out, ← HTT.out]; rfl, b3⟩
    · go_wp2
      go_ret2
      exact ⟨by unfold textEnd; rw [HB.out, textC_3 rfl, ← HDD.out]; rfl, B2.out⟩
    · have ht := textB_size ao an
      obtain ⟨T, hT⟩ : ∃ T, textB ao an = T := ⟨_, rfl⟩
      rw [hT] at HT1 ht
      have HTT := hid hT
      have ht' : T.size ≤ 12 := by omega
      clear hT ht
      have hu := textB_size bo bn
      obtain ⟨U, hU⟩ : ∃ U, textB bo bn = U := ⟨_, rfl⟩
      rw [hU] at HT2 hu
      have HUU := hid hU
      have hu' : U.size ≤ 12 := by omega
      clear hU hu
      go_wp2_with fail
      refine (HT1.out _).mono ?_
      rintro er w3 ⟨rfl, bb⟩
      have r3 := R2.out.kept bb
      have b3 := B2.out.trans (bb.mono B2.out.size)
      clear bb c0 c1 c2 c3 c4 c5 c6 c7 c8
      obtain ⟨c0, c1, c2, c3, c4, c5, c6, c7, c8⟩ := r3.all
      go_wp2_with fail
      refine (HT2.out _).mono ?_
      rintro er w4 ⟨rfl, bb⟩
      have r4 := r3.kept bb
      have b4 := b3.trans (bb.mono b3.size)
      clear bb c0 c1 c2 c3 c4 c5 c6 c7 c8 r3 b3
      obtain ⟨c0, c1, c2, c3, c4, c5, c6, c7, c8⟩ := r4.all
      clear r4
      go_wp2
      go_ret2
      exact ⟨by unfold textEnd; rw [HB.out, textC_4 rfl, ← HDD.out, ← HTT.out, ← HUU.out]; rfl, b4⟩
end Go.Proofs.YtkggagnaiiemlaaDoor.Sh
