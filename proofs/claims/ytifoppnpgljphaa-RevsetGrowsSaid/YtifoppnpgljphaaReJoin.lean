/-
  Two sets with rows of the same domains, pure: they come together.
-/
import Derived.Test.YtifoppnpgljphaaReMath
namespace Go.Proofs.Ytifoppnpgljphaa.Sh
open Go Go.RowKit

set_option linter.unusedSimpArgs false
set_option linter.unusedVariables false
/-- The first so many of each row. -/
def takeS (T : Nat → List Int) (a : List Int) : Nat → List Int := fun i => (T i).take (vat a i).toNat
theorem takeS_zero (a : List Int) : takeS S0 a = S0 := funext fun i => by simp [takeS, S0]
theorem OkS.takeS {T : Nat → List Int} (h : OkS T) (a : List Int) : OkS (takeS T a) := fun i => (h i).take _
theorem takeS_pre (T : Nat → List Int) (a : List Int) (i : Nat) : takeS T a i <+: T i := List.take_prefix _ _
theorem takeS_in {T : Nat → List Int} {a : List Int} {k : Nat} {q : Int} (h : ((T k).length : Int) + 1 ≤ vat a k) : takeS (up T k (T k ++ [q])) a = up (takeS T a) k (takeS T a k ++ [q]) := funext fun i => by
  unfold up takeS
  by_cases e : i = k
  · subst e
    simp only [if_pos]
    rw [List.take_of_length_le (by simp; omega), List.take_of_length_le (by omega)]
  · simp only [if_neg e]
theorem takeS_out {T : Nat → List Int} {a : List Int} {k : Nat} {q : Int} (h : ¬ ((T k).length : Int) + 1 ≤ vat a k) : takeS (up T k (T k ++ [q])) a = takeS T a := funext fun i => by
  unfold up takeS
  by_cases e : i = k
  · subst e
    simp only [if_pos]
    rw [List.take_append_of_le_length (by have := (vat_b a i).1; omega)]
  · simp only [if_neg e]
theorem takeS_add {T : Nat → List Int} {a : List Int} {k : Nat} {q : Int} (hk : k < 16) (h0 : addE T ((k : Int) + 1) q = 0) (h : ((T k).length : Int) + 1 ≤ vat a k) : addE (takeS T a) ((k : Int) + 1) q = 0 ∧ addS (takeS T a) ((k : Int) + 1) q = takeS (addS T ((k : Int) + 1) q) a := by
  obtain ⟨_, _, h3, h4, h5, h6⟩ := addE_zero h0
  rw [show ((k : Int) + 1 - 1).toNat = k by omega] at h5 h6
  have ht : takeS T a k = T k := List.take_of_length_le (by omega)
  have e0 : addE (takeS T a) ((k : Int) + 1) q = 0 := by
    unfold addE
    rw [if_neg (by omega), show ((k : Int) + 1 - 1).toNat = k by omega, ht, if_neg h5, if_neg h6]
  refine ⟨e0, ?_⟩
  unfold addS
  rw [if_pos e0, if_pos h0, show ((k : Int) + 1 - 1).toNat = k by omega]
  exact (takeS_in h).symm
/-- What x comes to, with y's delta merged. -/
noncomputable def joinS (X Y : Nat → List Int) : Nat → List Int := mergeS X (vecS X) (deltaS Y (vecS X)) 16
section
variable {X Y T : Nat → List Int}
theorem joinS_at (hx : OkS X) (hT : OkS T) (px : ∀ i, X i <+: T i) (py : ∀ i, Y i <+: T i) {i : Nat} (hi : i < 16) : joinS X Y i = if (X i).length ≤ (Y i).length then Y i else X i := by
  unfold joinS mergeS
  rw [if_pos hi, vecS_at hx hi, deltaS_at _ _ hi, vecS_at hx hi, Int.toNat_natCast]
  exact mrow_join (px i) (py i) (hT i)
theorem pre_eq {a b all : List Int} (ha : a <+: all) (hb : b <+: all) (h : a.length = b.length) : a = b := by
  rw [List.prefix_iff_eq_take] at ha hb
  rw [ha, hb, h]
theorem joinS_comm (hx : OkS X) (hy : OkS Y) (hT : OkS T) (px : ∀ i, X i <+: T i) (py : ∀ i, Y i <+: T i) {i : Nat} (hi : i < 16) : joinS X Y i = joinS Y X i := by
  rw [joinS_at hx hT px py hi, joinS_at hy hT py px hi]
  by_cases h1 : (X i).length ≤ (Y i).length
  · rw [if_pos h1]
    by_cases h2 : (Y i).length ≤ (X i).length
    · rw [if_pos h2]; exact pre_eq (py i) (px i) (by omega)
    · rw [if_neg h2]
  · rw [if_neg h1, if_pos (by omega)]
theorem joinS_pre (hx : OkS X) (hT : OkS T) (px : ∀ i, X i <+: T i) (py : ∀ i, Y i <+: T i) {i : Nat} (hi : i < 16) : joinS X Y i <+: T i := by
  rw [joinS_at hx hT px py hi]; split
  · exact py i
  · exact px i
theorem OkS.join (hx : OkS X) (Y : Nat → List Int) : OkS (joinS X Y) := hx.merge _ _ _
theorem joinS_vec (hx : OkS X) (hy : OkS Y) (hT : OkS T) (px : ∀ i, X i <+: T i) (py : ∀ i, Y i <+: T i) : vecS (joinS X Y) = joinV (vecS X) (vecS Y) := by
  refine (vecS_nrm (hx.join Y)).ext (joinV_nrm _ _) fun i hi => ?_
  rw [vecS_at (hx.join Y) hi, joinV_at _ _ hi, vecS_at hx hi, vecS_at hy hi, joinS_at hx hT px py hi]
  split <;> omega
theorem joinS_vec' (hx : OkS X) (hy : OkS Y) (hT : OkS T) (px : ∀ i, X i <+: T i) (py : ∀ i, Y i <+: T i) : vecS (joinS Y X) = joinV (vecS X) (vecS Y) := by
  rw [joinS_vec hy hx hT py px, joinV_comm]
/-- Merged again, nothing comes new. -/
theorem join_again (hx : OkS X) (hT : OkS T) (px : ∀ i, X i <+: T i) (py : ∀ i, Y i <+: T i) {i : Nat} (hi : i < 16) : mrow (joinS X Y i) (vat (vecS X) i).toNat ((deltaS Y (vecS X)).getD i []) = joinS X Y i := by
  rw [vecS_at hx hi, deltaS_at _ _ hi, vecS_at hx hi, Int.toNat_natCast, joinS_at hx hT px py hi]
  by_cases h : (X i).length ≤ (Y i).length
  · rw [if_pos h]
    unfold mrow; split
    · rw [List.take_append_drop]
    · rfl
  · rw [if_neg h, List.drop_of_length_le (by omega), mrow_nil]
theorem again_S (hx : OkS X) (hT : OkS T) (px : ∀ i, X i <+: T i) (py : ∀ i, Y i <+: T i) : mergeS (joinS X Y) (vecS X) (deltaS Y (vecS X)) 16 = joinS X Y := funext fun i => by
  show (if i < 16 then mrow (joinS X Y i) (vat (vecS X) i).toNat ((deltaS Y (vecS X)).getD i []) else joinS X Y i) = _
  split
  · rename_i h; exact join_again hx hT px py h
  · rfl
theorem again_N (hx : OkS X) (hT : OkS T) (px : ∀ i, X i <+: T i) (py : ∀ i, Y i <+: T i) : mergeN (joinS X Y) (vecS X) (deltaS Y (vecS X)) 16 = 0 := by
  have h : ∀ j, j ≤ 16 → mergeN (joinS X Y) (vecS X) (deltaS Y (vecS X)) j = 0 := fun j => by
    induction j with
    | zero => intro _; rfl
    | succ j ih =>
      intro hj
      show mergeN (joinS X Y) (vecS X) (deltaS Y (vecS X)) j + _ = 0
      rw [ih (by omega), join_again hx hT px py (by omega)]
      omega
  exact h 16 (Nat.le_refl _)
end
end Go.Proofs.Ytifoppnpgljphaa.Sh
