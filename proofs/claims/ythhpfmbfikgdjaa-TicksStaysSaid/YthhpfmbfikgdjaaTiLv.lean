/-
  lives: the document's examples of layer 9; Least; a slice of numbers.
-/
import Derived.Test.YthhpfmbfikgdjaaTiPr
namespace Go.Proofs.Ythhpfmbfikgdjaa.Sh
open Go Go.RowKit
set_option linter.unusedVariables false
set_option linter.unusedSimpArgs false
theorem lives_any (w : World) : Calls Try.prog 13 #[] w fun e w' => e = .returned (.bool true) ∧ w = w' := by
  have H0 := hid ((show addT 1099511627775 5 = 1099511627776 by decide) ▸ add_any 1099511627775 5 w)
  have H1 := hid ((show decide (tk 3 ≤ tk 3) = true by decide) ▸ over_any 3 3 w)
  have H2 := hid ((show decide (tk 3 ≤ tk 2) = false by decide) ▸ over_any 2 3 w)
  have H3 := hid ((show goesT 16 9 = 18 by decide) ▸ goes_any 16 9 w)
  have H4 := hid ((show goesT 16 (-1) = 15 by decide) ▸ goes_any 16 (-1) w)
  have H5 := hid ((show goesT 7 (-5) = 7 by decide) ▸ goes_any 7 (-5) w)
  have H6 := hid ((show boundT 56 = 64 by decide) ▸ bound_any 56 w)
  have H7 := hid ((show boundT 1 = 2 by decide) ▸ bound_any 1 w)
  go_enter Try.func13, Try.ntmps13
  go_wp2_with fail
  refine H0.out.mono ?_
  rintro er w1 ⟨rfl, rfl⟩
  go_wp2_with fail
  refine H1.out.mono ?_
  rintro er w1 ⟨rfl, rfl⟩
  go_wp2_with fail
  refine H2.out.mono ?_
  rintro er w1 ⟨rfl, rfl⟩
  go_wp2_with fail
  refine H3.out.mono ?_
  rintro er w1 ⟨rfl, rfl⟩
  go_wp2_with fail
  refine H4.out.mono ?_
  rintro er w1 ⟨rfl, rfl⟩
  go_wp2_with fail
  refine H5.out.mono ?_
  rintro er w1 ⟨rfl, rfl⟩
  go_wp2_with fail
  refine H6.out.mono ?_
  rintro er w1 ⟨rfl, rfl⟩
  go_wp2_with fail
  refine H7.out.mono ?_
  rintro er w1 ⟨rfl, rfl⟩
  go_wp2_with fail
  go_ret
  exact ⟨rfl, rfl⟩
/-- A: where the numbers l lie, below block B. Of none nothing is asked. -/
def IntAt (w : World) (B : Nat) (A : Option Addr) (l : List Int) : Prop :=
  0 < l.length → ∃ ad, A = some ad ∧ ad.block < B ∧ ∀ j x, l[j]? = some x → w.cell? (ad.add j) = some (.int .i64 x)
theorem IntAt.head {w : World} {B : Nat} {A : Option Addr} {l : List Int} (k : Nat) (h : IntAt w B A l) : IntAt w B A (l.take k) := fun hn => by
  simp only [List.length_take] at hn
  obtain ⟨ad, e, hb, hc⟩ := h (by omega)
  refine ⟨ad, e, hb, fun j x hx => hc j x ?_⟩
  rw [List.getElem?_take] at hx
  split at hx
  · exact hx
  · cases hx
theorem leastT_snoc (l : List Int) (x : Int) : leastT (l ++ [x]) = min (leastT l) (tk x) := by unfold leastT; rw [List.foldl_append]; rfl
set_option maxHeartbeats 2000000 in
theorem least_any (A : Option Addr) (l : List Int) (n c : Nat) (hn : l.length = n) (hm : n ≤ 40) (w : World) (h : IntAt w w.heap.size A l) :
    Calls Try.prog 14 #[.slice A n c] w fun e w' => e = .returned (.int .i64 (leastT l)) ∧ w = w' := by
  have HN := hid hn
  have HA := hid h
  clear hn h
  go_enter Try.func14, Try.ntmps14
  go_wp2_with fail
  go_loopw [3, 8] (fun v i wr => ∃ (j : Nat) (z : Int), v = .int .i64 z ∧ i = .int .i64 (j : Int) ∧ j ≤ n ∧ Hid (z = leastT (l.take j)) ∧ w = wr) (fun _ i _ => n - (intOf i).toNat)
  case atStart => exact ⟨0, 1099511627776, rfl, rfl, Nat.zero_le _, hid (by simp [leastT]), rfl⟩
  case round =>
    obtain ⟨j, z, rfl, rfl, hj, HZ, rfl⟩ := hrel
    by_cases hlt : j < n
    · obtain ⟨x, hx⟩ : ∃ x, l[j]? = some x := ⟨_, List.getElem?_eq_getElem (by rw [HN.out]; exact hlt)⟩
      obtain ⟨ad, rfl, hb, hc⟩ := HA.out (by rw [HN.out]; omega)
      have a0 := hc j x hx
      have HNX : Hid (leastT (l.take (j + 1)) = min z (tk x)) := hid (by rw [take_snoc_of hx, leastT_snoc, HZ.out])
      have HT := hid (tick_any x w)
      have hj0 : (0 : Int) ≤ (j : Int) := Int.natCast_nonneg _
      have hj1 : (j : Int) < (n : Int) := by omega
      generalize tk x = t at *
      clear hx hb hc
      go_wp2_with fail
      refine HT.out.mono ?_
      rintro er w1 ⟨rfl, rfl⟩
      by_cases hm : z ≤ t
      · go_wp2_with fail
        go_roundw
        case rel => exact ⟨j + 1, z, rfl, by go_num, by omega, hid (by rw [HNX.out]; omega), by first | rfl | trivial⟩
        case measure => simp [intOf]; omega
      · go_wp2_with fail
        go_roundw
        case rel => exact ⟨j + 1, t, rfl, by go_num, by omega, hid (by rw [HNX.out]; omega), by first | rfl | trivial⟩
        case measure => simp [intOf]; omega
    · obtain rfl : j = n := by omega
      have HE : Hid (z = leastT l) := hid (by rw [HZ.out, List.take_of_length_le (by rw [HN.out]; exact Nat.le_refl _)])
      go_wp2_with fail
      go_ret
      exact ⟨ret_int HE.out, rfl⟩
set_option maxHeartbeats 2000000 in
theorem refLeast_any (A : Option Addr) (l : List Int) (n c : Nat) (hn : l.length = n) (hm : n ≤ 40) (w : World) (h : IntAt w w.heap.size A l) :
    Calls Try.prog 15 #[.slice A n c] w fun e w' => e = .returned (.int .i64 (leastT l)) ∧ w = w' := by
  have HN := hid hn
  have HA := hid h
  clear hn h
  go_enter Try.func15, Try.ntmps15
  go_wp2_with fail
  go_loopw [3, 4] (fun v i wr => ∃ (j : Nat) (z : Int), v = .int .i64 z ∧ i = .int .i64 (j : Int) ∧ j ≤ n ∧ Hid (z = leastT (l.take j)) ∧ w = wr) (fun _ i _ => n - (intOf i).toNat)
  case atStart => exact ⟨0, 1099511627776, rfl, rfl, Nat.zero_le _, hid (by simp [leastT]), rfl⟩
  case round =>
    obtain ⟨j, z, rfl, rfl, hj, HZ, rfl⟩ := hrel
    by_cases hlt : j < n
    · obtain ⟨x, hx⟩ : ∃ x, l[j]? = some x := ⟨_, List.getElem?_eq_getElem (by rw [HN.out]; exact hlt)⟩
      obtain ⟨ad, rfl, hb, hc⟩ := HA.out (by rw [HN.out]; omega)
      have a0 := hc j x hx
      have HNX : Hid (leastT (l.take (j + 1)) = min z (tk x)) := hid (by rw [take_snoc_of hx, leastT_snoc, HZ.out])
      have HT := hid (refTick_any x w)
      have hj0 : (0 : Int) ≤ (j : Int) := Int.natCast_nonneg _
      have hj1 : (j : Int) < (n : Int) := by omega
      generalize tk x = t at *
      clear hx hb hc
      by_cases hm : t < z
      · go_wp2_with fail
        refine HT.out.mono ?_
        rintro er w1 ⟨rfl, rfl⟩
        go_wp2_with fail
        refine HT.out.mono ?_
        rintro er w1 ⟨rfl, rfl⟩
        go_wp2_with fail
        go_roundw
        case rel => exact ⟨j + 1, t, rfl, by go_num, by omega, hid (by rw [HNX.out]; omega), by first | rfl | trivial⟩
        case measure => simp [intOf]; omega
      · go_wp2_with fail
        refine HT.out.mono ?_
        rintro er w1 ⟨rfl, rfl⟩
        go_wp2_with fail
        go_roundw
        case rel => exact ⟨j + 1, z, rfl, by go_num, by omega, hid (by rw [HNX.out]; omega), by first | rfl | trivial⟩
        case measure => simp [intOf]; omega
    · obtain rfl : j = n := by omega
      have HE : Hid (z = leastT l) := hid (by rw [HZ.out, List.take_of_length_le (by rw [HN.out]; exact Nat.le_refl _)])
      go_wp2_with fail
      go_ret
      exact ⟨ret_int HE.out, rfl⟩
end Go.Proofs.Ythhpfmbfikgdjaa.Sh
