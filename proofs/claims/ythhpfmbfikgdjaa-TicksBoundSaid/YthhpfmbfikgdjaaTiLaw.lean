/-
  The walks of layer 9's statements.
-/
import Derived.Test.YthhpfmbfikgdjaaTiLv
namespace Go.Proofs.Ythhpfmbfikgdjaa.Sh
open Go Go.RowKit
set_option linter.unusedVariables false
set_option linter.unusedSimpArgs false
theorem ticksAdds_walk (a b : Int) (w : World) :
    Calls Try.prog 3 #[.int .i64 a, .int .i64 b] w fun e w' => e = .returned (.bool true) ∧ w = w' := by
  have H1 := hid (add_any a b w)
  have H2 := hid (refAdd_any a b w)
  have H3 := hid (over_any a b w)
  have H4 := hid (refOver_any a b w)
  have HL := hid (lives_any w)
  generalize decide (tk b ≤ tk a) = D at *
  generalize addT a b = S at *
  go_enter Try.func3, Try.ntmps3
  go_wp2_with fail
  refine H1.out.mono ?_
  rintro er w1 ⟨rfl, rfl⟩
  go_wp2_with fail
  refine H2.out.mono ?_
  rintro er w1 ⟨rfl, rfl⟩
  go_wp2_with fail
  refine H3.out.mono ?_
  rintro er w1 ⟨rfl, rfl⟩
  go_wp2_with fail
  refine H4.out.mono ?_
  rintro er w1 ⟨rfl, rfl⟩
  go_wp2_with fail
  refine HL.out.mono ?_
  rintro er w1 ⟨rfl, rfl⟩
  go_wp2_with fail
  go_ret
  exact ⟨rfl, rfl⟩
theorem ticksGoes_walk (n s : Int) (h0 : -9223372036854775808 ≤ n) (h1 : n < 9223372036854775808) (h2 : -9223372036854775808 ≤ s) (h3 : s < 9223372036854775808) (w : World) :
    Calls Try.prog 5 #[.int .i64 n, .int .i64 s] w fun e w' => e = .returned (.bool true) ∧ w = w' := by
  have H1 := hid (goes_any n s w)
  have H2 := hid (refGoes_any n s h0 h1 h2 h3 w)
  have H3 := hid (bound_any n w)
  have H4 := hid (refBound_any n w)
  have HL := hid (lives_any w)
  generalize goesT n s = D at *
  generalize boundT n = S at *
  go_enter Try.func5, Try.ntmps5
  go_wp2_with fail
  refine H1.out.mono ?_
  rintro er w1 ⟨rfl, rfl⟩
  go_wp2_with fail
  refine H2.out.mono ?_
  rintro er w1 ⟨rfl, rfl⟩
  go_wp2_with fail
  refine H3.out.mono ?_
  rintro er w1 ⟨rfl, rfl⟩
  go_wp2_with fail
  refine H4.out.mono ?_
  rintro er w1 ⟨rfl, rfl⟩
  go_wp2_with fail
  refine HL.out.mono ?_
  rintro er w1 ⟨rfl, rfl⟩
  go_wp2_with fail
  go_ret
  exact ⟨rfl, rfl⟩
theorem ticksLeast_walk (A : Option Addr) (l : List Int) (n c : Nat) (hn : l.length = n) (hc : n ≤ c) (hc2 : c ≤ 9223372036854775807) (w : World) (h : IntAt w w.heap.size A l) :
    Calls Try.prog 4 #[.slice A n c] w fun e w' => e = .returned (.bool true) ∧ w = w' := by
  have HL := hid (lives_any w)
  by_cases hk : 40 < n
  · have hk' : (40 : Int) < (n : Int) := by omega
    have H1 := hid (least_any A (l.take 40) 40 c (by rw [List.length_take]; omega) (by omega) w (h.head 40))
    have H2 := hid (refLeast_any A (l.take 40) 40 c (by rw [List.length_take]; omega) (by omega) w (h.head 40))
    generalize leastT (l.take 40) = D at *
    clear h hn
    go_enter Try.func4, Try.ntmps4
    go_wp2_with fail
    refine H1.out.mono ?_
    rintro er w1 ⟨rfl, rfl⟩
    go_wp2_with fail
    refine H2.out.mono ?_
    rintro er w1 ⟨rfl, rfl⟩
    go_wp2_with fail
    refine HL.out.mono ?_
    rintro er w1 ⟨rfl, rfl⟩
    go_wp2_with fail
    go_ret
    exact ⟨rfl, rfl⟩
  · have hk' : ¬ (40 : Int) < (n : Int) := by omega
    have H1 := hid (least_any A l n c hn (by omega) w h)
    have H2 := hid (refLeast_any A l n c hn (by omega) w h)
    generalize leastT l = D at *
    clear h hn
    go_enter Try.func4, Try.ntmps4
    go_wp2_with fail
    refine H1.out.mono ?_
    rintro er w1 ⟨rfl, rfl⟩
    go_wp2_with fail
    refine H2.out.mono ?_
    rintro er w1 ⟨rfl, rfl⟩
    go_wp2_with fail
    refine HL.out.mono ?_
    rintro er w1 ⟨rfl, rfl⟩
    go_wp2_with fail
    go_ret
    exact ⟨rfl, rfl⟩
theorem ticksEnd_walk (a b : Int) (w : World) :
    Calls Try.prog 8 #[.int .i64 a, .int .i64 b] w fun e w' => e = .returned (.bool true) ∧ w = w' := by
  have e1 : tk 1099511627776 = 1099511627776 := by decide
  have H1 := hid (add_any a b w)
  have H2 := hid (over_any 1099511627776 a w)
  rw [e1, decide_eq_true (tk_b a).2] at H2
  have H3 := hid (add_any 1099511627776 a w)
  have e2 : addT 1099511627776 a = 1099511627776 := by
    have := tk_b a
    unfold addT
    rw [e1]
    unfold tk at this ⊢
    split <;> (try split) <;> omega
  rw [e2] at H3
  have H4 := hid (over_any 1099511627776 b w)
  rw [e1, decide_eq_true (tk_b b).2] at H4
  have H5 := hid (add_any b a w)
  rw [addT_comm] at H5
  have HL := hid (lives_any w)
  obtain ⟨s0, s1⟩ := addT_b a b
  generalize addT a b = S at *
  go_enter Try.func8, Try.ntmps8
  go_wp2_with fail
  refine H1.out.mono ?_
  rintro er w1 ⟨rfl, rfl⟩
  go_wp2_with fail
  refine H2.out.mono ?_
  rintro er w1 ⟨rfl, rfl⟩
  go_wp2_with fail
  refine H3.out.mono ?_
  rintro er w1 ⟨rfl, rfl⟩
  go_wp2_with fail
  refine H4.out.mono ?_
  rintro er w1 ⟨rfl, rfl⟩
  go_wp2_with fail
  refine H1.out.mono ?_
  rintro er w1 ⟨rfl, rfl⟩
  go_wp2_with fail
  refine H5.out.mono ?_
  rintro er w1 ⟨rfl, rfl⟩
  go_wp2_with fail
  refine HL.out.mono ?_
  rintro er w1 ⟨rfl, rfl⟩
  go_wp2_with fail
  go_ret
  exact ⟨rfl, rfl⟩
theorem addT_ge (a : Int) {b : Int} (hb : 0 ≤ b) : tk a ≤ tk (addT a b) := by
  have h1 := tk_b a
  have h2 := tk_b b
  have h3 := addT_b a b
  rw [tk_id h3.1 h3.2]
  unfold addT
  generalize tk a = x at *
  generalize tk b = y at *
  unfold tk
  split <;> (try split) <;> omega
theorem ticksStays_walk (a b m : Int) (h0 : -9223372036854775808 ≤ m) (h1 : m < 9223372036854775808) (w : World) :
    Calls Try.prog 7 #[.int .i64 a, .int .i64 b, .int .i64 m] w fun e w' => e = .returned (.bool true) ∧ w = w' := by
  have HL := hid (lives_any w)
  have H1 := hid (over_any a b w)
  have hm : ∃ M : Int, 0 ≤ M ∧ ((¬ m < 0 ∧ M = m) ∨ (m < 0 ∧ M = -(m + 1))) := by
    by_cases c : m < 0
    · exact ⟨-(m + 1), by omega, .inr ⟨c, rfl⟩⟩
    · exact ⟨m, by omega, .inl ⟨c, rfl⟩⟩
  obtain ⟨M, hM0, hM⟩ := hm
  have H2 := hid (add_any a M w)
  have H3 := hid (over_any (addT a M) b w)
  have H4 := hid (add_any b M w)
  have H5 := hid (over_any a (addT b M) w)
  have g1 := addT_ge a hM0
  have g2 := addT_ge b hM0
  generalize tk (addT a M) = sa at *
  generalize tk (addT b M) = sb at *
  generalize addT a M = ua at *
  generalize addT b M = ub at *
  generalize tk a = ta at *
  generalize tk b = tb at *
  rcases hM with ⟨c, rfl⟩ | ⟨c, hMe⟩
  all_goals
    by_cases k : tb ≤ ta
    · rw [decide_eq_true k] at H1
      rw [decide_eq_true (show tb ≤ sa by omega)] at H3
      by_cases k2 : sb ≤ ta
      · rw [decide_eq_true k2] at H5
        try rw [hMe] at H2 H4
        clear hM0 g1 g2 k k2
        try clear hMe
        go_enter Try.func7, Try.ntmps7
        go_wp2_with fail
        refine H1.out.mono ?_
        rintro er w1 ⟨rfl, rfl⟩
        go_wp2_with fail
        refine H2.out.mono ?_
        rintro er w1 ⟨rfl, rfl⟩
        go_wp2_with fail
        refine H3.out.mono ?_
        rintro er w1 ⟨rfl, rfl⟩
        go_wp2_with fail
        refine H4.out.mono ?_
        rintro er w1 ⟨rfl, rfl⟩
        go_wp2_with fail
        refine H5.out.mono ?_
        rintro er w1 ⟨rfl, rfl⟩
        go_wp2_with fail
        refine H1.out.mono ?_
        rintro er w1 ⟨rfl, rfl⟩
        go_wp2_with fail
        refine HL.out.mono ?_
        rintro er w1 ⟨rfl, rfl⟩
        go_wp2_with fail
        go_ret
        exact ⟨rfl, rfl⟩
      · rw [decide_eq_false k2] at H5
        try rw [hMe] at H2 H4
        clear hM0 g1 g2 k k2
        try clear hMe
        go_enter Try.func7, Try.ntmps7
        go_wp2_with fail
        refine H1.out.mono ?_
        rintro er w1 ⟨rfl, rfl⟩
        go_wp2_with fail
        refine H2.out.mono ?_
        rintro er w1 ⟨rfl, rfl⟩
        go_wp2_with fail
        refine H3.out.mono ?_
        rintro er w1 ⟨rfl, rfl⟩
        go_wp2_with fail
        refine H4.out.mono ?_
        rintro er w1 ⟨rfl, rfl⟩
        go_wp2_with fail
        refine H5.out.mono ?_
        rintro er w1 ⟨rfl, rfl⟩
        go_wp2_with fail
        refine HL.out.mono ?_
        rintro er w1 ⟨rfl, rfl⟩
        go_wp2_with fail
        go_ret
        exact ⟨rfl, rfl⟩
    · rw [decide_eq_false k] at H1
      rw [decide_eq_false (show ¬ sb ≤ ta by omega)] at H5
      try rw [hMe] at H2 H4
      clear hM0 g1 g2 k
      try clear hMe
      go_enter Try.func7, Try.ntmps7
      go_wp2_with fail
      refine H1.out.mono ?_
      rintro er w1 ⟨rfl, rfl⟩
      go_wp2_with fail
      refine H4.out.mono ?_
      rintro er w1 ⟨rfl, rfl⟩
      go_wp2_with fail
      refine H5.out.mono ?_
      rintro er w1 ⟨rfl, rfl⟩
      go_wp2_with fail
      refine HL.out.mono ?_
      rintro er w1 ⟨rfl, rfl⟩
      go_wp2_with fail
      go_ret
      exact ⟨rfl, rfl⟩
/-- A: where the parts of time l lie, below block B. Of none nothing is asked. -/
def PartAt (w : World) (B : Nat) (A : Option Addr) (l : List (Int × Int)) : Prop :=
  0 < l.length → ∃ ad, A = some ad ∧ ad.block < B ∧ ∀ j x, l[j]? = some x → w.cell? (ad.add (j * 2)) = some (.int .i64 x.1) ∧ w.cell? (ad.add (j * 2 + 1)) = some (.int .i64 x.2)
set_option maxHeartbeats 4000000 in
theorem ticksBound_walk (m : Int) (A : Option Addr) (l : List (Int × Int)) (n c : Nat) (hn : l.length = n) (hc : n ≤ c) (hc2 : c ≤ 9223372036854775807) (w : World) (h : PartAt w w.heap.size A l) :
    Calls Try.prog 6 #[.int .i64 m, .slice A n c] w fun e w' => e = .returned (.bool true) ∧ ∃ k, w' = w.drewN k := by
  have HN := hid hn
  have HA := hid h
  clear hn h
  go_enter Try.func6, Try.ntmps6
  go_wp2_with fail
  go_loopw [5, 6, 7] (fun t k i wr => ∃ (j : Nat) (T K : Int), t = .int .i64 T ∧ k = .int .i64 K ∧ i = .int .i64 (j : Int) ∧ j ≤ n ∧ j ≤ 60 ∧ 0 ≤ T ∧ T ≤ 64 * j ∧ 0 ≤ K ∧ K ≤ 72 * j ∧ 7 * T ≤ 8 * K ∧ Hid (∃ q, wr = w.drewN q)) (fun _ _ i _ => 60 - (intOf i).toNat)
  case atStart => exact ⟨0, 0, 0, rfl, rfl, rfl, Nat.zero_le _, by omega, by omega, by omega, by omega, by omega, by omega, hid ⟨0, rfl⟩⟩
  case round =>
    obtain ⟨j, T, K, rfl, rfl, rfl, hj, hj6, T0, T1, K0, K1, HTK, HW⟩ := hrel
    have hj0 : (0 : Int) ≤ (j : Int) := Int.natCast_nonneg _
    by_cases hlt : j < n ∧ j < 60
    · obtain ⟨⟨N, S⟩, hx⟩ : ∃ x, l[j]? = some x := ⟨_, List.getElem?_eq_getElem (by rw [HN.out]; exact hlt.1)⟩
      obtain ⟨ad, rfl, hb, hcell⟩ := HA.out (by rw [HN.out]; omega)
      obtain ⟨q, hq⟩ := HW.out
      obtain ⟨a0, a1⟩ := hcell j _ hx
      have a0 : wr.cell? (ad.add (j * 2)) = some (.int .i64 N) := by rw [hq]; exact a0
      have a1 : wr.cell? (ad.add (j * 2 + 1)) = some (.int .i64 S) := by rw [hq]; exact a1
      have hj1 : (j : Int) < (n : Int) := by omega
      have hj2 : (j : Int) < 60 := by omega
      have HG := hid (fun W => goes_any N S W)
      have hg := goesT_low N S
      have hcb := cl_b (a := 0) (b := 64) (by omega) N
      obtain ⟨aj, haj⟩ : ∃ aj, ad.add (j * 2) = aj := ⟨_, rfl⟩
      have e1 : ad.add (j * 2 + 1) = ⟨aj.block, aj.off + 1, none⟩ := by rw [← haj, ← add_add, add_pos _ 1 (by omega)]
      rw [e1] at a1
      rw [haj] at a0
      clear hx hb hcell hlt e1 hq
      by_cases c0 : N < 0
      · skip
        have HC : Hid (cl N 0 64 = 0) := hid (by unfold cl; rw [if_pos c0])
        rw [HC.out] at hg hcb
        generalize goesT N S = G at *
        go_wp2_with fail
        go_quiet ((go_at_call 16; exact quiet_left (HG.out _)))
        go_wp2_with fail
        go_roundw
        case rel => exact ⟨j + 1, T, K + G, rfl, rfl, by go_num, by omega, by omega, by omega, by omega, by omega, by omega, by omega, by obtain ⟨q, rfl⟩ := HW.out; exact hid ⟨_, World.drewN_drewN _ _ _⟩⟩
        case measure => simp [intOf]; omega
      · by_cases c1 : 64 < N
        · skip
          have HC : Hid (cl N 0 64 = 64) := hid (by unfold cl; rw [if_neg c0, if_pos c1])
          rw [HC.out] at hg hcb
          generalize goesT N S = G at *
          go_wp2_with fail
          go_quiet ((go_at_call 16; exact quiet_left (HG.out _)))
          go_wp2_with fail
          go_roundw
          case rel => exact ⟨j + 1, T + 64, K + G, rfl, rfl, by go_num, by omega, by omega, by omega, by omega, by omega, by omega, by omega, by obtain ⟨q, rfl⟩ := HW.out; exact hid ⟨_, World.drewN_drewN _ _ _⟩⟩
          case measure => simp [intOf]; omega
        · skip
          have HC : Hid (cl N 0 64 = N) := hid (by unfold cl; rw [if_neg c0, if_neg c1])
          rw [HC.out] at hg hcb
          generalize goesT N S = G at *
          go_wp2_with fail
          go_quiet ((go_at_call 16; exact quiet_left (HG.out _)))
          go_wp2_with fail
          go_roundw
          case rel => exact ⟨j + 1, T + N, K + G, rfl, rfl, by go_num, by omega, by omega, by omega, by omega, by omega, by omega, by omega, by obtain ⟨q, rfl⟩ := HW.out; exact hid ⟨_, World.drewN_drewN _ _ _⟩⟩
          case measure => simp [intOf]; omega
    · have HB := hid (fun W => bound_any m W)
      have hbb := boundT_b m
      have HL := hid (fun W => lives_any W)
      have hno : ¬ (boundT m ≤ T ∧ K < m) := by
        rintro ⟨h1, h2⟩
        unfold boundT at h1
        unfold tk at h1
        split at h1
        · omega
        · split at h1 <;> omega
      generalize boundT m = Bm at *
      by_cases h1 : j < n
      · have hj6' : ¬ (j : Int) < 60 := by omega
        have hj1 : (j : Int) < (n : Int) := by omega
        by_cases hb : Bm ≤ T
        · have hk : ¬ K < m := by omega
          clear hno hlt HA HN
          go_wp2_with fail
          refine (HB.out _).mono ?_
          rintro er w1 ⟨rfl, rfl⟩
          go_wp2_with fail
          refine (HL.out _).mono ?_
          rintro er w1 ⟨rfl, rfl⟩
          go_wp2_with fail
          go_ret
          exact ⟨rfl, HW.out⟩
        · clear hno hlt HA HN
          go_wp2_with fail
          refine (HB.out _).mono ?_
          rintro er w1 ⟨rfl, rfl⟩
          go_wp2_with fail
          refine (HL.out _).mono ?_
          rintro er w1 ⟨rfl, rfl⟩
          go_wp2_with fail
          go_ret
          exact ⟨rfl, HW.out⟩
      · have hj1 : ¬ (j : Int) < (n : Int) := by omega
        by_cases hb : Bm ≤ T
        · have hk : ¬ K < m := by omega
          clear hno hlt HA HN
          go_wp2_with fail
          refine (HB.out _).mono ?_
          rintro er w1 ⟨rfl, rfl⟩
          go_wp2_with fail
          refine (HL.out _).mono ?_
          rintro er w1 ⟨rfl, rfl⟩
          go_wp2_with fail
          go_ret
          exact ⟨rfl, HW.out⟩
        · clear hno hlt HA HN
          go_wp2_with fail
          refine (HB.out _).mono ?_
          rintro er w1 ⟨rfl, rfl⟩
          go_wp2_with fail
          refine (HL.out _).mono ?_
          rintro er w1 ⟨rfl, rfl⟩
          go_wp2_with fail
          go_ret
          exact ⟨rfl, HW.out⟩
end Go.Proofs.Ythhpfmbfikgdjaa.Sh
