/-
  The walk of SumsCuts.
-/
import Derived.Test.YtgfnhmnmbmpfdaaSuLawA
namespace Go.Proofs.Ytgfnhmnmbmpfdaa.Sh
open Go Go.RowKit
set_option linter.unusedVariables false
set_option linter.unusedSimpArgs false
theorem neg_rem {z : Int} (h : z < 0) (m : Nat) : ∃ a : Nat, a ≤ m ∧ -(z + 1).tmod ((m : Int) + 1) = (a : Int) := by
  refine ⟨(-(z + 1) % ((m : Int) + 1)).toNat, ?_, ?_⟩
  · have h1 := Int.emod_lt_of_pos (-(z + 1)) (show 0 < (m : Int) + 1 by omega)
    have h2 := Int.emod_nonneg (-(z + 1)) (show (m : Int) + 1 ≠ 0 by omega)
    omega
  · have h2 := Int.emod_nonneg (-(z + 1)) (show (m : Int) + 1 ≠ 0 by omega)
    rw [Int.toNat_of_nonneg h2, ← Int.neg_tmod, Int.tmod_eq_emod_of_nonneg (by omega)]
theorem pos_rem {z : Int} (m : Nat) : ∃ a : Nat, a ≤ m ∧ z % ((m : Int) + 1) = (a : Int) := by
  refine ⟨(z % ((m : Int) + 1)).toNat, ?_, ?_⟩
  · have h1 := Int.emod_lt_of_pos z (show 0 < (m : Int) + 1 by omega)
    have h2 := Int.emod_nonneg z (show (m : Int) + 1 ≠ 0 by omega)
    omega
  · have h2 := Int.emod_nonneg z (show (m : Int) + 1 ≠ 0 by omega)
    rw [Int.toNat_of_nonneg h2]
theorem cut_sum {k : List UInt8} (a : Nat) : moreS (regOf ((sumS (k.take a)).toNat : Int)) (k.drop a) = sumS k := by
  rw [regOf_reg]
  unfold sumS
  rw [← moreS_append, List.take_append_drop]
theorem none_sum (r : Reg) : moreS (regOf (r.toNat : Int)) [] = r := by rw [regOf_reg]; rfl
set_option maxHeartbeats 4000000 in
theorem sumsCuts_walk (z : Int) (hz : -9223372036854775808 ≤ z) (hz2 : z < 9223372036854775808) (A : Option Addr) (l : List UInt8) (n c : Nat) (hn : l.length = n) (hc : n ≤ c) (hc2 : c ≤ 9223372036854775807) (w : World) (h : Byt w w.heap.size A l) :
    Calls Try.prog 4 #[.slice A n c, .int .i64 z] w fun e w' => e = .returned (.bool true) ∧ Below w.heap.size w w' := by
  have HF := hid (few_any A l n c hn hc w)
  obtain ⟨k, m, hk, hm, hmn, e, hb⟩ := data_of hn h
  rw [e] at HF
  have HD := hid hb
  have hm1 : m ≤ c := by omega
  by_cases h0 : z < 0
  · go_enter Try.func4, Try.ntmps4
    go_wp2_with fail
    refine HF.out.mono ?_
    rintro er w1 ⟨rfl, rfl⟩
    go_wp2_with fail
    obtain ⟨a, ha, e2⟩ := neg_rem h0 m
    rw [e2]
    clear e2
    have a0 : (0 : Int) ≤ (a : Int) := Int.natCast_nonneg _
    have a1 : (a : Int) ≤ (m : Int) := by omega
    have a2 : (a : Int) ≤ (c : Int) := by omega
    have HB := hid (Below.refl w.heap.size w).drew
    have S1 := hid (sum_any A (k.take a) a c (by rw [List.length_take]; omega) (by omega) w.drew ((HD.out _ HB.out).head))
    have S2 := hid (sum_any A k m c hk (by omega) w.drew (HD.out _ HB.out))
    obtain ⟨B2, hB2⟩ : ∃ x, x = (if c = a then A else A.map (·.add a)) := ⟨_, rfl⟩
    have hcut : Byt w.drew w.drew.heap.size B2 (k.drop a) := by
      have := (HD.out _ HB.out).cut (lo := a) (hi := m) (cap := c) ha (by omega) (by omega)
      rw [List.take_of_length_le (by omega), ← hB2] at this
      exact this
    have eB := hB2.symm
    clear hB2
    have M1 := hid (more_any ((sumS (k.take a)).toNat : Int) B2 (k.drop a) (m - a) (c - a) (by rw [List.length_drop]; omega) (by omega) w.drew hcut)
    clear hcut
    rw [cut_sum] at M1
    have M2 := hid (more_any ((sumS k).toNat : Int) none [] 0 0 rfl (by omega) w.drew Byt.nil)
    rw [none_sum] at M2
    generalize sumS (k.take a) = T at *
    generalize sumS k = S at *
    clear hb hk h hn
    go_region_held3 (fun _ => True) (trivial) (first
      | (go_at_call 13; (first | (with_reducible refine S1.out.mono ?_) | (with_reducible refine S2.out.mono ?_)); rintro er w5 ⟨rfl, rfl⟩)
      | (go_at_call 15; (first | (with_reducible refine M1.out.mono ?_) | (with_reducible refine M2.out.mono ?_)); rintro er w5 ⟨rfl, rfl⟩)
      | (go_at_call 17; (refine (lives_any _).mono ?_); rintro er w9 ⟨rfl, b9⟩)
      | fail)
    all_goals
      have HX := hid (HB.out.trans (b9.mono HB.out.size))
      go_wp2
      go_ret
      exact ⟨rfl, HX.out⟩
  · go_enter Try.func4, Try.ntmps4
    go_wp2_with fail
    refine HF.out.mono ?_
    rintro er w1 ⟨rfl, rfl⟩
    go_wp2_with fail
    obtain ⟨a, ha, e2⟩ := pos_rem (z := z) m
    rw [e2]
    clear e2
    have a0 : (0 : Int) ≤ (a : Int) := Int.natCast_nonneg _
    have a1 : (a : Int) ≤ (m : Int) := by omega
    have a2 : (a : Int) ≤ (c : Int) := by omega
    have HB := hid (Below.refl w.heap.size w).drew
    have S1 := hid (sum_any A (k.take a) a c (by rw [List.length_take]; omega) (by omega) w.drew ((HD.out _ HB.out).head))
    have S2 := hid (sum_any A k m c hk (by omega) w.drew (HD.out _ HB.out))
    obtain ⟨B2, hB2⟩ : ∃ x, x = (if c = a then A else A.map (·.add a)) := ⟨_, rfl⟩
    have hcut : Byt w.drew w.drew.heap.size B2 (k.drop a) := by
      have := (HD.out _ HB.out).cut (lo := a) (hi := m) (cap := c) ha (by omega) (by omega)
      rw [List.take_of_length_le (by omega), ← hB2] at this
      exact this
    have eB := hB2.symm
    clear hB2
    have M1 := hid (more_any ((sumS (k.take a)).toNat : Int) B2 (k.drop a) (m - a) (c - a) (by rw [List.length_drop]; omega) (by omega) w.drew hcut)
    clear hcut
    rw [cut_sum] at M1
    have M2 := hid (more_any ((sumS k).toNat : Int) none [] 0 0 rfl (by omega) w.drew Byt.nil)
    rw [none_sum] at M2
    generalize sumS (k.take a) = T at *
    generalize sumS k = S at *
    clear hb hk h hn
    go_region_held3 (fun _ => True) (trivial) (first
      | (go_at_call 13; (first | (with_reducible refine S1.out.mono ?_) | (with_reducible refine S2.out.mono ?_)); rintro er w5 ⟨rfl, rfl⟩)
      | (go_at_call 15; (first | (with_reducible refine M1.out.mono ?_) | (with_reducible refine M2.out.mono ?_)); rintro er w5 ⟨rfl, rfl⟩)
      | (go_at_call 17; (refine (lives_any _).mono ?_); rintro er w9 ⟨rfl, b9⟩)
      | fail)
    all_goals
      have HX := hid (HB.out.trans (b9.mono HB.out.size))
      go_wp2
      go_ret
      exact ⟨rfl, HX.out⟩
end Go.Proofs.Ytgfnhmnmbmpfdaa.Sh
