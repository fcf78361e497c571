/-
  The program's ticks and the document's own, by contract.
-/
import Derived.Test.YthhpfmbfikgdjaaTiMath
namespace Go.Proofs.Ythhpfmbfikgdjaa.Sh
open Go Go.RowKit
set_option linter.unusedVariables false
set_option linter.unusedSimpArgs false
theorem lim_any (n a b : Int) (w : World) (hab : a ≤ b) :
    Calls Try.prog 22 #[.int .i64 n, .int .i64 a, .int .i64 b] w fun e w' => e = .returned (.int .i64 (cl n a b)) ∧ w = w' := by
  have HA := hid hab
  clear hab
  go_enter Try.func22, Try.ntmps22
  go_wp2
  all_goals
    go_ret
    refine ⟨?_, rfl⟩
    refine ret_int (?_ : _ = cl n a b)
    have := HA.out
    unfold cl
    split <;> (try split) <;> omega
theorem tick_any (n : Int) (w : World) :
    Calls Try.prog 20 #[.int .i64 n] w fun e w' => e = .returned (.int .i64 (tk n)) ∧ w = w' := by
  have H := hid (lim_any n 0 1099511627776 w (by omega))
  go_enter Try.func20, Try.ntmps20
  go_wp2_with fail
  refine H.out.mono ?_
  rintro er w1 ⟨rfl, rfl⟩
  go_wp2_with fail
  go_ret
  exact ⟨rfl, rfl⟩
theorem add_any (a b : Int) (w : World) :
    Calls Try.prog 9 #[.int .i64 a, .int .i64 b] w fun e w' => e = .returned (.int .i64 (addT a b)) ∧ w = w' := by
  have HA := hid (tick_any a w)
  have HB := hid (tick_any b w)
  have HC := hid (tick_any (tk a + tk b) w)
  have ba := tk_b a
  have bb := tk_b b
  unfold addT
  generalize tk a = x at *
  generalize tk b = y at *
  obtain ⟨x0, x1⟩ := ba
  obtain ⟨y0, y1⟩ := bb
  go_enter Try.func9, Try.ntmps9
  go_wp2_with fail
  refine HA.out.mono ?_
  rintro er w1 ⟨rfl, rfl⟩
  go_wp2_with fail
  refine HB.out.mono ?_
  rintro er w1 ⟨rfl, rfl⟩
  go_wp2_with fail
  refine HC.out.mono ?_
  rintro er w1 ⟨rfl, rfl⟩
  go_wp2_with fail
  go_ret
  exact ⟨rfl, rfl⟩
theorem over_any (a b : Int) (w : World) :
    Calls Try.prog 11 #[.int .i64 a, .int .i64 b] w fun e w' => e = .returned (.bool (decide (tk b ≤ tk a))) ∧ w = w' := by
  have HA := hid (tick_any a w)
  have HB := hid (tick_any b w)
  generalize tk a = x at *
  generalize tk b = y at *
  go_enter Try.func11, Try.ntmps11
  go_wp2_with fail
  refine HA.out.mono ?_
  rintro er w1 ⟨rfl, rfl⟩
  go_wp2_with fail
  refine HB.out.mono ?_
  rintro er w1 ⟨rfl, rfl⟩
  go_wp2_with fail
  go_ret
  exact ⟨rfl, rfl⟩
theorem goes_any (n s : Int) (w : World) :
    Calls Try.prog 16 #[.int .i64 n, .int .i64 s] w fun e w' => e = .returned (.int .i64 (goesT n s)) ∧ w = w' := by
  have h := cl_b (a := 0) (b := 64) (by omega) n
  have HA := hid (lim_any n 0 64 w (by omega))
  unfold goesT
  generalize cl n 0 64 = m at *
  have hq : 0 ≤ m / 8 ∧ m / 8 ≤ 8 := by omega
  have HB := hid (lim_any s (-(m / 8)) (m / 8) w (by omega))
  have h2 := cl_b (a := -(m / 8)) (b := m / 8) (by omega) s
  generalize cl s (-(m / 8)) (m / 8) = z at *
  obtain ⟨m0, m1⟩ := h
  obtain ⟨q0, q1⟩ := hq
  obtain ⟨z0, z1⟩ := h2
  go_enter Try.func16, Try.ntmps16
  go_wp2_with fail
  refine HA.out.mono ?_
  rintro er w1 ⟨rfl, rfl⟩
  go_wp2_with fail
  refine HB.out.mono ?_
  rintro er w1 ⟨rfl, rfl⟩
  go_wp2_with fail
  go_ret
  exact ⟨rfl, rfl⟩
theorem bound_any (n : Int) (w : World) :
    Calls Try.prog 18 #[.int .i64 n] w fun e w' => e = .returned (.int .i64 (boundT n)) ∧ w = w' := by
  have h := tk_b n
  have HA := hid (tick_any n w)
  unfold boundT
  generalize tk n = m at *
  obtain ⟨m0, m1⟩ := h
  go_enter Try.func18, Try.ntmps18
  go_wp2_with fail
  refine HA.out.mono ?_
  rintro er w1 ⟨rfl, rfl⟩
  go_wp2_with fail
  go_ret
  exact ⟨ret_int (show (m * 8 + 7 - 1) / 7 = (m * 8 + 6) / 7 by omega), rfl⟩
/-! ### the document's own -/
theorem refTick_any (n : Int) (w : World) :
    Calls Try.prog 21 #[.int .i64 n] w fun e w' => e = .returned (.int .i64 (tk n)) ∧ w = w' := by
  by_cases h0 : n < 0
  · have HE : Hid (tk n = 0) := hid (by unfold tk; rw [if_pos h0])
    go_enter Try.func21, Try.ntmps21
    go_wp2
    go_ret
    exact ⟨ret_int HE.out.symm, rfl⟩
  · by_cases h1 : 1099511627776 < n
    · have HE : Hid (tk n = 1099511627776) := hid (by unfold tk; rw [if_neg h0, if_pos h1])
      go_enter Try.func21, Try.ntmps21
      go_wp2
      go_ret
      exact ⟨ret_int HE.out.symm, rfl⟩
    · have HE : Hid (tk n = n) := hid (by unfold tk; rw [if_neg h0, if_neg h1])
      go_enter Try.func21, Try.ntmps21
      go_wp2
      go_ret
      exact ⟨ret_int HE.out.symm, rfl⟩
theorem refAdd_any (a b : Int) (w : World) :
    Calls Try.prog 10 #[.int .i64 a, .int .i64 b] w fun e w' => e = .returned (.int .i64 (addT a b)) ∧ w = w' := by
  have HA := hid (refTick_any a w)
  have HB := hid (refTick_any b w)
  have HC := hid (refTick_any (tk a + tk b) w)
  have ba := tk_b a
  have bb := tk_b b
  unfold addT
  generalize tk a = x at *
  generalize tk b = y at *
  obtain ⟨x0, x1⟩ := ba
  obtain ⟨y0, y1⟩ := bb
  go_enter Try.func10, Try.ntmps10
  go_wp2_with fail
  refine HA.out.mono ?_
  rintro er w1 ⟨rfl, rfl⟩
  go_wp2_with fail
  refine HB.out.mono ?_
  rintro er w1 ⟨rfl, rfl⟩
  go_wp2_with fail
  refine HC.out.mono ?_
  rintro er w1 ⟨rfl, rfl⟩
  go_wp2_with fail
  go_ret
  exact ⟨rfl, rfl⟩
theorem refOver_any (a b : Int) (w : World) :
    Calls Try.prog 12 #[.int .i64 a, .int .i64 b] w fun e w' => e = .returned (.bool (decide (tk b ≤ tk a))) ∧ w = w' := by
  have HA := hid (refTick_any a w)
  have HB := hid (refTick_any b w)
  have ba := tk_b a
  have bb := tk_b b
  generalize tk a = x at *
  generalize tk b = y at *
  by_cases h : y ≤ x
  · rw [decide_eq_true h]
    go_enter Try.func12, Try.ntmps12
    go_wp2_with fail
    refine HA.out.mono ?_
    rintro er w1 ⟨rfl, rfl⟩
    go_wp2_with fail
    refine HB.out.mono ?_
    rintro er w1 ⟨rfl, rfl⟩
    go_wp2_with fail
    go_ret
    exact ⟨rfl, rfl⟩
  · rw [decide_eq_false h]
    have hx : ¬ x = 1099511627776 := by omega
    have hx2 : (x == 1099511627776) = false := beq_eq_false_iff_ne.2 hx
    go_enter Try.func12, Try.ntmps12
    go_wp2_with fail
    refine HA.out.mono ?_
    rintro er w1 ⟨rfl, rfl⟩
    go_wp2_with fail
    refine HB.out.mono ?_
    rintro er w1 ⟨rfl, rfl⟩
    go_wp2_with fail
    refine HA.out.mono ?_
    rintro er w1 ⟨rfl, rfl⟩
    go_wp2_with fail
    go_ret
    exact ⟨congrArg (fun z => Ending.returned (.bool z)) (decide_eq_false (show ¬ y ≤ x by omega)), rfl⟩
theorem refBound_any (n : Int) (w : World) :
    Calls Try.prog 19 #[.int .i64 n] w fun e w' => e = .returned (.int .i64 (boundT n)) ∧ w = w' := by
  have h := tk_b n
  have HA := hid (refTick_any n w)
  unfold boundT
  generalize tk n = m at *
  obtain ⟨m0, m1⟩ := h
  have hq : 0 ≤ m * 8 / 7 ∧ m * 8 / 7 ≤ 1256584717460 := by omega
  obtain ⟨q0, q1⟩ := hq
  by_cases h : m * 8 / 7 * 7 < m * 8
  · go_enter Try.func19, Try.ntmps19
    go_wp2_with fail
    refine HA.out.mono ?_
    rintro er w1 ⟨rfl, rfl⟩
    go_wp2_with fail
    go_ret
    exact ⟨ret_int (by omega), rfl⟩
  · go_enter Try.func19, Try.ntmps19
    go_wp2_with fail
    refine HA.out.mono ?_
    rintro er w1 ⟨rfl, rfl⟩
    go_wp2_with fail
    go_ret
    exact ⟨ret_int (by omega), rfl⟩
theorem refGoes_any (n s : Int) (h0 : -9223372036854775808 ≤ n) (h1 : n < 9223372036854775808) (h2 : -9223372036854775808 ≤ s) (h3 : s < 9223372036854775808) (w : World) :
    Calls Try.prog 17 #[.int .i64 n, .int .i64 s] w fun e w' => e = .returned (.int .i64 (goesT n s)) ∧ w = w' := by
  by_cases c0 : n < 0
  · skip
    by_cases k : 0 < s
    · have HE : Hid ((0 : Int) + 0 = goesT n s) := hid (by unfold goesT; rw [show cl n 0 64 = 0 by unfold cl; rw [if_pos c0]]; unfold cl; rw [if_neg (by omega), if_pos (by omega)]; rfl)
      go_enter Try.func17, Try.ntmps17
      go_wp2
      go_ret
      exact ⟨ret_int (by have := HE.out; omega), rfl⟩
    · by_cases k2 : s < -0
      · have HE : Hid ((0 : Int) + -0 = goesT n s) := hid (by unfold goesT; rw [show cl n 0 64 = 0 by unfold cl; rw [if_pos c0]]; unfold cl; rw [if_pos (by omega)]; rfl)
        go_enter Try.func17, Try.ntmps17
        go_wp2
        go_ret
        exact ⟨ret_int (by have := HE.out; omega), rfl⟩
      · have HE : Hid (0 + s = goesT n s) := hid (by unfold goesT; rw [show cl n 0 64 = 0 by unfold cl; rw [if_pos c0]]; unfold cl; rw [if_neg (by omega), if_neg (by omega)])
        go_enter Try.func17, Try.ntmps17
        go_wp2
        go_ret
        exact ⟨ret_int (by have := HE.out; omega), rfl⟩
  · by_cases c1 : 64 < n
    · skip
      by_cases k : 8 < s
      · have HE : Hid ((64 : Int) + 8 = goesT n s) := hid (by unfold goesT; rw [show cl n 0 64 = 64 by unfold cl; rw [if_neg c0, if_pos c1]]; unfold cl; rw [if_neg (by omega), if_pos (by omega)]; rfl)
        go_enter Try.func17, Try.ntmps17
        go_wp2
        go_ret
        exact ⟨ret_int (by have := HE.out; omega), rfl⟩
      · by_cases k2 : s < -8
        · have HE : Hid ((64 : Int) + -8 = goesT n s) := hid (by unfold goesT; rw [show cl n 0 64 = 64 by unfold cl; rw [if_neg c0, if_pos c1]]; unfold cl; rw [if_pos (by omega)]; rfl)
          go_enter Try.func17, Try.ntmps17
          go_wp2
          go_ret
          exact ⟨ret_int (by have := HE.out; omega), rfl⟩
        · have HE : Hid (64 + s = goesT n s) := hid (by unfold goesT; rw [show cl n 0 64 = 64 by unfold cl; rw [if_neg c0, if_pos c1]]; unfold cl; rw [if_neg (by omega), if_neg (by omega)])
          go_enter Try.func17, Try.ntmps17
          go_wp2
          go_ret
          exact ⟨ret_int (by have := HE.out; omega), rfl⟩
    · skip
      have hq : 0 ≤ n / 8 ∧ n / 8 ≤ 8 := by omega
      obtain ⟨q0, q1⟩ := hq
      by_cases k : n / 8 < s
      · have k2 : ¬ n / 8 < -(n / 8) := by omega
        have HE : Hid (n + n / 8 = goesT n s) := hid (by unfold goesT; rw [show cl n 0 64 = n by unfold cl; rw [if_neg c0, if_neg c1]]; unfold cl; rw [if_neg (by omega), if_pos (by omega)])
        go_enter Try.func17, Try.ntmps17
        go_wp2
        go_ret
        exact ⟨ret_int (by have := HE.out; omega), rfl⟩
      · by_cases k2 : s < -(n / 8)
        · have HE : Hid (n + -(n / 8) = goesT n s) := hid (by unfold goesT; rw [show cl n 0 64 = n by unfold cl; rw [if_neg c0, if_neg c1]]; unfold cl; rw [if_pos k2])
          go_enter Try.func17, Try.ntmps17
          go_wp2
          go_ret
          exact ⟨ret_int (by have := HE.out; omega), rfl⟩
        · have HE : Hid (n + s = goesT n s) := hid (by unfold goesT; rw [show cl n 0 64 = n by unfold cl; rw [if_neg c0, if_neg c1]]; unfold cl; rw [if_neg k2, if_neg (by omega)])
          go_enter Try.func17, Try.ntmps17
          go_wp2
          go_ret
          exact ⟨ret_int (by have := HE.out; omega), rfl⟩
end Go.Proofs.Ythhpfmbfikgdjaa.Sh
