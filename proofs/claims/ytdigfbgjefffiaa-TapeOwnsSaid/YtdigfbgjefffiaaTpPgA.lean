/-
  The program's tape: off, check, burn, size, settle.
-/
import Derived.Test.YtdigfbgjefffiaaTpPgM
namespace Go.Proofs.Ytdigfbgjefffiaa.Sh
open Go Go.RowKit

set_option linter.unusedSimpArgs false
set_option linter.unusedVariables false
section
variable {w : World} {P : Nat → Prop} {κ : Nat → Nat} {q un uc : Nat} {V0 V1 U0 U1 : Hd} {UA : Option Addr} {a0 a1 b0 b1 : List UInt8} {L : List Ru} {ct lf : Int} {bn : Bool}
set_option maxHeartbeats 1000000 in
theorem off_any (e : TapF w P κ q V0 V1 U0 U1 UA un uc a0 a1 b0 b1 L ct bn lf) :
    Calls Try.prog 36 #[.pointer (some ⟨q, 0, none⟩)] w fun er w' => er = .returned (.bool (bn && lf == 0)) ∧ w = w' := by
  obtain ⟨-, ⟨k4, k5, k6, k7⟩, -⟩ := e.cells w (Below.refl _ _)
  clear e
  cases bn with
  | false =>
    go_enter Try.func36, Try.ntmps36
    go_wp2
    go_ret
    exact ⟨rfl, rfl⟩
  | true =>
    by_cases hl : lf = 0
    · subst hl
      go_enter Try.func36, Try.ntmps36
      go_wp2
      go_ret
      exact ⟨rfl, rfl⟩
    · have hb : (lf == 0) = false := by simp [hl]
      go_enter Try.func36, Try.ntmps36
      go_wp2
      go_ret
      exact ⟨by simp [hb], rfl⟩
set_option maxHeartbeats 1000000 in
theorem check_any {S : TS} (e : TapF w P κ q V0 V1 U0 U1 UA un uc a0 a1 b0 b1 L ct S.bn S.lf) (sd : Int) :
    Calls Try.prog 32 #[.pointer (some ⟨q, 0, none⟩), .int .i64 sd] w fun er w' => er = .returned (.int .i64 (S.ready sd)) ∧ w = w' := by
  have HO := hid (off_any e)
  clear e
  by_cases h0 : sd < 0
  · have HR : Hid (S.ready sd = 1) := hid (by unfold TS.ready; rw [if_pos (.inl h0)])
    have hd : decide (sd < 0) = true := decide_eq_true h0
    go_enter Try.func32, Try.ntmps32
    go_wp2
    go_ret
    exact ⟨ret_int HR.out.symm, rfl⟩
  · have hd : decide (sd < 0) = false := decide_eq_false h0
    by_cases h1 : 2 ≤ sd
    · have HR : Hid (S.ready sd = 1) := hid (by unfold TS.ready; rw [if_pos (.inr (by omega))])
      have hd1 : decide (2 ≤ sd) = true := decide_eq_true h1
      go_enter Try.func32, Try.ntmps32
      go_wp2
      go_ret
      exact ⟨ret_int HR.out.symm, rfl⟩
    · have hd1 : decide (2 ≤ sd) = false := decide_eq_false h1
      have HRR : S.ready sd = if S.bn = true ∧ S.lf = 0 then 40 else 0 := by unfold TS.ready; rw [if_neg (by omega)]
      by_cases hb : S.bn = true ∧ S.lf = 0
      · have HR : Hid (S.ready sd = 40) := hid (by rw [HRR, if_pos hb])
        have hv : (S.bn && S.lf == 0) = true := by rw [hb.1, hb.2]; rfl
        rw [hv] at HO
        clear HRR hb hv
        go_enter Try.func32, Try.ntmps32
        go_wp2_with fail
        refine HO.out.mono ?_
        rintro er w1 ⟨rfl, rfl⟩
        go_wp2_with fail
        go_ret
        exact ⟨ret_int HR.out.symm, rfl⟩
      · have HR : Hid (S.ready sd = 0) := hid (by rw [HRR, if_neg hb])
        have hv : (S.bn && S.lf == 0) = false := by
          cases hx : S.bn with
          | false => rfl
          | true =>
            have : S.lf ≠ 0 := fun h => hb ⟨hx, h⟩
            simp [this]
        rw [hv] at HO
        clear HRR hb hv
        go_enter Try.func32, Try.ntmps32
        go_wp2_with fail
        refine HO.out.mono ?_
        rintro er w1 ⟨rfl, rfl⟩
        go_wp2_with fail
        go_ret
        exact ⟨ret_int HR.out.symm, rfl⟩
set_option maxHeartbeats 1000000 in
theorem burn_any {S : TS} (e : TapF w P κ q V0 V1 U0 U1 UA un uc a0 a1 b0 b1 L ct S.bn S.lf) (hlf : 0 ≤ S.lf ∧ S.lf ≤ 1099511627776) :
    Calls Try.prog 35 #[.pointer (some ⟨q, 0, none⟩)] w fun er w' => er = .returned (.tuple #[]) ∧ TapF w' P κ q V0 V1 U0 U1 UA un uc a0 a1 b0 b1 L ct S.burn.bn S.burn.lf ∧ Grew w w' P := by
  obtain ⟨-, ⟨k4, k5, k6, k7⟩, hf⟩ := e.cells w (Below.refl _ _)
  have f7 := hf 7
  clear hf
  obtain ⟨l0, l1⟩ := hlf
  cases hbn : S.bn with
  | false =>
    have HR : Hid (S.burn = S) := hid (by unfold TS.burn; rw [hbn]; rfl)
    have HE := hid e
    rw [hbn] at k6
    have HB := hid hbn
    clear hbn e
    go_enter Try.func35, Try.ntmps35
    go_wp2
    go_end0
    exact ⟨rfl, by rw [HR.out]; exact HE.out, Grew.refl _ _⟩
  | true =>
    have HR : Hid (S.burn = ⟨S.s0, S.s1, S.us, S.bn, S.lf - 1⟩) := hid (by unfold TS.burn; rw [hbn]; rfl)
    rw [hbn] at k6
    have HE := hid (And.intro (e.setLf (S.lf - 1)) (e.grew_set 7 (.int .i64 (S.lf - 1))))
    clear hbn e
    go_enter Try.func35, Try.ntmps35
    go_wp2
    go_end0
    exact ⟨rfl, by rw [HR.out]; exact HE.out.1, HE.out.2⟩
end
set_option maxHeartbeats 1000000 in
theorem size_any (w : World) (sd kp : Int) (X : Option Addr) (n c : Nat) (hn : n ≤ 1000000000) :
    Calls Try.prog 38 #[.agg #[.int .i64 sd, .int .i64 kp, .slice X n c]] w fun er w' => er = .returned (.int .i64 ((max 1 n : Nat) : Int)) ∧ Below w.heap.size w w' := by
  have HB := hid ((Below.refl w.heap.size w).alloc (Nat.le_refl _) (.cells #[.int .i64 sd, .int .i64 kp, .slice X n c] 61))
  go_enter Try.func38, Try.ntmps38
  go_wp2
  all_goals
    go_ret
    exact ⟨ret_int (by omega), HB.out⟩
end Go.Proofs.Ytdigfbgjefffiaa.Sh
