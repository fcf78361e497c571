/-
  The program's units, call by call. Pure.
-/
import Derived.Test.YtdigfbgjefffiaaTpMath
namespace Go.Proofs.Ytdigfbgjefffiaa.Sh

set_option linter.unusedVariables false
set_option linter.unusedSimpArgs false
/-- What one call did: its side, how many bytes are kept, the bytes behind. -/
structure Rn where
  sd : Int
  kp : Nat
  dt : List UInt8
def Rn.us (r : Rn) : List Un := if r.dt = [] then [(r.sd, (r.kp : Int), 0)] else TS.unitsW r.sd r.dt
theorem Rn.us_len (r : Rn) : r.us.length = max 1 r.dt.length := by
  unfold Rn.us
  split
  · rename_i h; rw [h]; rfl
  · rename_i h
    have : r.dt.length ≠ 0 := fun e => h (List.eq_nil_of_length_eq_zero e)
    rw [TS.unitsW_length]; omega
def usR : List Rn → List Un
  | [] => []
  | r :: t => r.us ++ usR t
theorem usR_append (a b : List Rn) : usR (a ++ b) = usR a ++ usR b := by
  induction a with
  | nil => rfl
  | cons r t ih => simp only [List.cons_append, usR, ih, List.append_assoc]
theorem usR_snoc (a : List Rn) (r : Rn) : usR (a ++ [r]) = usR a ++ r.us := by rw [usR_append]; simp [usR]
theorem usR_le (a : List Rn) : a.length ≤ (usR a).length := by
  induction a with
  | nil => exact Nat.le_refl _
  | cons r t ih =>
    have := r.us_len
    simp only [usR, List.length_cons, List.length_append]
    omega
theorem usR_split {R : List Rn} {j : Nat} {r : Rn} (h : R[j]? = some r) : usR R = usR (R.take j) ++ (r.us ++ usR (R.drop (j + 1))) := by
  have hj := (List.getElem?_eq_some_iff.1 h).1
  have e : R = R.take j ++ (r :: R.drop (j + 1)) := by
    have h2 : R[j] = r := (List.getElem?_eq_some_iff.1 h).2
    rw [← h2, List.getElem_cons_drop, List.take_append_drop]
  conv => lhs; rw [e]
  rw [usR_append]; rfl
theorem usR_take_succ {R : List Rn} {j : Nat} {r : Rn} (h : R[j]? = some r) : (usR (R.take (j + 1))).length = (usR (R.take j)).length + r.us.length := by
  rw [List.take_add_one, h]
  show (usR (R.take j ++ [r])).length = _
  rw [usR_snoc, List.length_append]
/-- The calls R are the units of S. -/
structure FitR (S : TS) (R : List Rn) : Prop where
  us : usR R = S.us
  sd : ∀ (j : Nat) (r : Rn), R[j]? = some r → r.sd = 0 ∨ r.sd = 1
  kp : ∀ (j : Nat) (r : Rn), R[j]? = some r → r.kp ≤ (S.done r.sd (usR (R.take j)).length).length ∧ (r.dt ≠ [] → (S.done r.sd (usR (R.take j)).length).length ≤ r.kp)
theorem FitR.le {S : TS} {R : List Rn} (h : FitR S R) : R.length ≤ S.us.length := by rw [← h.us]; exact usR_le R
theorem FitR.nil {S : TS} (h : S.us = []) : FitR S [] := ⟨h.symm, fun j r h => by simp at h, fun j r h => by simp at h⟩
theorem FitR.same {S S' : TS} {R : List Rn} (h : FitR S R) (h0 : S'.s0 = S.s0) (h1 : S'.s1 = S.s1) (hu : S'.us = S.us) : FitR S' R := by
  have e : ∀ d k, S'.done d k = S.done d k := fun d k => by unfold TS.done TS.safe; rw [h0, h1, hu]
  exact ⟨h.us.trans hu.symm, h.sd, fun j r hj => by rw [e]; exact h.kp j r hj⟩
theorem FitR.snoc {S S' : TS} {R : List Rn} {r : Rn} (h : FitR S R) (h0 : S'.s0 = S.s0) (h1 : S'.s1 = S.s1) (hu : S'.us = S.us ++ r.us) (hs : r.sd = 0 ∨ r.sd = 1) (hk : r.kp ≤ (S.now r.sd).length) (hd : r.dt ≠ [] → (S.now r.sd).length ≤ r.kp) : FitR S' (R ++ [r]) := by
  have e : ∀ d k, k ≤ S.us.length → S'.done d k = S.done d k := fun d k hk => by
    have : S' = TS.mk S.s0 S.s1 (S.us ++ r.us) S'.bn S'.lf := by rw [← h0, ← h1, ← hu]
    rw [this, TS.done_more, if_pos hk]
  have hlen : (usR R).length = S.us.length := by rw [h.us]
  have hcase : ∀ (j : Nat) (x : Rn), (R ++ [r])[j]? = some x → (R[j]? = some x ∧ (R ++ [r]).take j = R.take j ∧ (usR (R.take j)).length ≤ S.us.length) ∨ (x = r ∧ (R ++ [r]).take j = R) := fun j x hx => by
    rcases Nat.lt_or_ge j R.length with hj | hj
    · rw [List.getElem?_append_left hj] at hx
      refine .inl ⟨hx, List.take_append_of_le_length (by omega), ?_⟩
      rw [← hlen, usR_split hx, List.length_append]; omega
    · rw [List.getElem?_append_right hj] at hx
      have hj0 : j = R.length := by
        have := (List.getElem?_eq_some_iff.1 hx).1
        simp at this; omega
      subst hj0
      simp at hx
      exact .inr ⟨hx.symm, List.take_left⟩
  refine ⟨by rw [usR_snoc, h.us, hu], fun j x hx => ?_, fun j x hx => ?_⟩
  · rcases hcase j x hx with ⟨h2, -, -⟩ | ⟨rfl, -⟩
    · exact h.sd j x h2
    · exact hs
  · rcases hcase j x hx with ⟨h2, h3, h4⟩ | ⟨rfl, h3⟩
    · rw [h3, e _ _ h4]; exact h.kp j x h2
    · rw [h3, hlen, e _ _ (Nat.le_refl _), S.done_all _ (Nat.le_refl _)]
      exact ⟨hk, hd⟩
/-- What of the units of one call was kept: m > 0 of them. -/
theorem FitR.step {S : TS} {R : List Rn} (h : FitR S R) {j : Nat} {r : Rn} (hj : R[j]? = some r) {m : Nat} (hm : 0 < m) (d : Int) :
    S.done d ((usR (R.take j)).length + min m r.us.length) = if d = r.sd then (S.done d (usR (R.take j)).length).take r.kp ++ r.dt.take m else S.done d (usR (R.take j)).length := by
  obtain ⟨k, hk⟩ : ∃ k, (usR (R.take j)).length = k := ⟨_, rfl⟩
  have hkp := h.kp j r hj
  rw [hk] at hkp ⊢
  have e1 : S.us.take (k + min m r.us.length) = S.us.take k ++ r.us.take m := by
    have hk2 : S.us.take k = usR (R.take j) := by rw [← h.us, usR_split hj, ← hk, List.take_left]
    rw [hk2, ← h.us, usR_split hj, List.take_append, List.take_of_length_le (by omega), hk, show k + min m r.us.length - k = min m r.us.length by omega, List.take_append,
      show min m r.us.length - r.us.length = 0 by omega, List.take_zero, List.append_nil]
    congr 1
    rw [List.take_eq_take_iff]; omega
  have e2 : S.done d (k + min m r.us.length) = doneU d (S.done d k) (r.us.take m) := by
    unfold TS.done
    rw [e1, doneU_append]
  rw [e2]
  unfold Rn.us
  by_cases hd : r.dt = []
  · rw [if_pos hd, List.take_of_length_le (by simp; omega)]
    show stepU d (S.done d k) (r.sd, (r.kp : Int), 0) = _
    unfold stepU
    simp only
    by_cases e : d = r.sd
    · subst e
      rw [if_pos rfl, if_pos rfl, if_pos (by omega), hd]
      simp
    · rw [if_neg (Ne.symm e), if_neg e]
  · rw [if_neg hd, TS.unitsW_take]
    by_cases e : d = r.sd
    · subst e
      rw [if_pos rfl, TS.doneU_write, List.take_of_length_le (hkp.2 hd)]
    · rw [if_neg e, TS.doneU_other (Ne.symm e)]
end Go.Proofs.Ytdigfbgjefffiaa.Sh
