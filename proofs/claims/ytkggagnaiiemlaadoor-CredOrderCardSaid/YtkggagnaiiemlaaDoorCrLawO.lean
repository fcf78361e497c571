/-
  The walk of CredOrder.
-/
import Derived.Test.YtkggagnaiiemlaaDoorCrLives
namespace Go.Proofs.YtkggagnaiiemlaaDoor.Sh
open Go Go.RowKit

set_option maxHeartbeats 8000000 in
theorem credOrder_walk (d q d' q' d'' q'' : Int) (w : World) :
    Calls Tryd.prog 9 #[.agg #[.int .i64 d, .int .i64 q], .agg #[.int .i64 d', .int .i64 q'], .agg #[.int .i64 d'', .int .i64 q'']] w fun e w' => e = .returned (.bool true) ∧ Below w.heap.size w w' := by
  obtain ⟨w0, hw0⟩ : ∃ w0, w0 = ((w.alloc (.cells #[.int .i64 d, .int .i64 q] 23)).alloc (.cells #[.int .i64 d', .int .i64 q'] 23)).alloc (.cells #[.int .i64 d'', .int .i64 q''] 23) := ⟨_, rfl⟩
  have r0 : IdAt w0 w.heap.size d q := by rw [hw0]; exact ((IdAt.new w d q).kept (below_id _ _ _)).kept (below_id _ _ _)
  have s0 : IdAt w0 (w.heap.size + 1) d' q' := by rw [hw0]; have := (IdAt.new (w.alloc (.cells #[.int .i64 d, .int .i64 q] 23)) d' q').kept (below_id _ d'' q''); rwa [World.size_alloc] at this
  have t0 : IdAt w0 (w.heap.size + 2) d'' q'' := by
    rw [hw0]
    have := IdAt.new ((w.alloc (.cells #[.int .i64 d, .int .i64 q] 23)).alloc (.cells #[.int .i64 d', .int .i64 q'] 23)) d'' q''
    rwa [World.size_alloc, World.size_alloc] at this
  have b0 : Below w.heap.size w w0 := by rw [hw0]; exact (below_id2 w d q d' q').trans ((below_id _ _ _).mono (by rw [World.size_alloc, World.size_alloc]; omega))
  obtain ⟨one, h1⟩ : ∃ b, beforeI d q d' q' = b := ⟨_, rfl⟩
  obtain ⟨two, h2⟩ : ∃ b, beforeI d' q' d q = b := ⟨_, rfl⟩
  obtain ⟨thr, h3⟩ : ∃ b, beforeI d' q' d'' q'' = b := ⟨_, rfl⟩
  obtain ⟨fou, h4⟩ : ∃ b, beforeI d q d'' q'' = b := ⟨_, rfl⟩
  have A1 := hid (fun w => h1 ▸ before_any d q d' q' w)
  have A2 := hid (fun w => h2 ▸ before_any d' q' d q w)
  have A3 := hid (fun w => h3 ▸ before_any d' q' d'' q'' w)
  have A4 := hid (fun w => h4 ▸ before_any d q d'' q'' w)
  have A5 := hid (fun w => h1 ▸ refBefore_any d q d' q' w)
  have HT : Hid (one = true → thr = true → fou = true) := hid (fun e1 e2 => by rw [← h4]; exact beforeI_trans (by rw [h1, e1]) (by rw [h3, e2]))
  have HD : Hid ((one = true ∧ two = false ∧ ¬ (d = d' ∧ q = q')) ∨ (one = false ∧ two = true ∧ ¬ (d = d' ∧ q = q')) ∨ (one = false ∧ two = false ∧ d = d' ∧ q = q')) := hid (by
    unfold beforeI at h1 h2
    rcases Int.lt_trichotomy d d' with a | a | a
    · exact .inl ⟨by rw [← h1]; simp; omega, by rw [← h2]; simp; omega, by omega⟩
    · rcases Int.lt_trichotomy q q' with b | b | b
      · exact .inl ⟨by rw [← h1]; simp; omega, by rw [← h2]; simp; omega, by omega⟩
      · exact .inr (.inr ⟨by rw [← h1]; simp; omega, by rw [← h2]; simp; omega, a, b⟩)
      · exact .inr (.inl ⟨by rw [← h1]; simp; omega, by rw [← h2]; simp; omega, by omega⟩)
    · exact .inr (.inl ⟨by rw [← h1]; simp; omega, by rw [← h2]; simp; omega, by omega⟩))
  clear h1 h2 h3 h4
  have a0 := r0.c0
  have a1 := r0.c1
  have e0 := s0.c0
  have e1 := s0.c1
  rw [hw0] at a0 a1 e0 e1
  go_enter Tryd.func9, Tryd.ntmps9
  go_wp2_with fail
  rw [← hw0]
  clear hw0 a0 a1 e0 e1
  refine (A1.out w0).mono ?_
  rintro er w1 ⟨rfl, bb⟩
  have r1 := r0.kept bb
  have s1 := s0.kept bb
  have t1 := t0.kept bb
  have b1 := b0.trans (bb.mono b0.size)
  clear r0 s0 t0 b0 bb
  have a0 := r1.c0
  have a1 := r1.c1
  have e0 := s1.c0
  have e1 := s1.c1
  go_wp2_with fail
  refine (A2.out w1).mono ?_
  rintro er w2 ⟨rfl, bb⟩
  have r2 := r1.kept bb
  have s2 := s1.kept bb
  have t2 := t1.kept bb
  have b2 := b1.trans (bb.mono b1.size)
  clear r1 s1 t1 b1 bb a0 a1 e0 e1
  have a0 := r2.c0
  have a1 := r2.c1
  have e0 := s2.c0
  have e1 := s2.c1
  go_wp2_with fail
  refine (A5.out w2).mono ?_
  rintro er w3 ⟨rfl, bb⟩
  have r3 := r2.kept bb
  have s3 := s2.kept bb
  have t3 := t2.kept bb
  have b3 := b2.trans (bb.mono b2.size)
  clear r2 s2 t2 b2 bb a0 a1 e0 e1
  have a0 := r3.c0
  have a1 := r3.c1
  have e0 := s3.c0
  have e1 := s3.c1
  have g0 := t3.c0
  have g1 := t3.c1
  rcases HD.out with ⟨rfl, rfl, hne⟩ | ⟨rfl, rfl, hne⟩ | ⟨rfl, rfl, rfl, rfl⟩
  · by_cases h : d = d'
    rotate_left
    have n1 : (d == d') = false := beq_eq_false_iff_ne.2 h
    rotate_left
    subst h
    have n1 : (q == q') = false := beq_eq_false_iff_ne.2 (fun e => hne ⟨rfl, e⟩)
    all_goals
      clear hne
      go_wp2_with fail
      refine (A3.out w3).mono ?_
      rintro er w4 ⟨rfl, bb⟩
      have r4 := r3.kept bb
      have t4 := t3.kept bb
      have b4 := b3.trans (bb.mono b3.size)
      clear bb a0 a1 e0 e1 g0 g1
      have a0 := r4.c0
      have a1 := r4.c1
      have g0 := t4.c0
      have g1 := t4.c1
      cases thr with
      | false =>
        go_wp2_with fail
        refine (lives_any w4).mono ?_
        rintro er w5 ⟨rfl, bb⟩
        go_wp2
        go_ret
        exact ⟨rfl, b4.trans (bb.mono b4.size)⟩
      | true =>
        obtain rfl : fou = true := by simpa using HT.out
        go_wp2_with fail
        refine (A4.out w4).mono ?_
        rintro er w5 ⟨rfl, bb⟩
        have b5 := b4.trans (bb.mono b4.size)
        clear bb
        go_wp2_with fail
        refine (lives_any w5).mono ?_
        rintro er w6 ⟨rfl, bb⟩
        go_wp2
        go_ret
        exact ⟨rfl, b5.trans (bb.mono b5.size)⟩
  · by_cases h : d = d'
    rotate_left
    have n1 : (d == d') = false := beq_eq_false_iff_ne.2 h
    rotate_left
    subst h
    have n1 : (q == q') = false := beq_eq_false_iff_ne.2 (fun e => hne ⟨rfl, e⟩)
    all_goals
      clear hne
      go_wp2_with fail
      refine (lives_any w3).mono ?_
      rintro er w5 ⟨rfl, bb⟩
      go_wp2
      go_ret
      exact ⟨rfl, b3.trans (bb.mono b3.size)⟩
  · go_wp2_with fail
    refine (lives_any w3).mono ?_
    rintro er w5 ⟨rfl, bb⟩
    go_wp2
    go_ret
    exact ⟨rfl, b3.trans (bb.mono b3.size)⟩
end Go.Proofs.YtkggagnaiiemlaaDoor.Sh
