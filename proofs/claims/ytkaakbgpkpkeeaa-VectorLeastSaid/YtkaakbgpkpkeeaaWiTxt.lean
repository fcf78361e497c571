/-
  A cursor's Text.
-/
import Derived.Test.YtkaakbgpkpkeeaaWiNum
namespace Go.Proofs.Ytkaakbgpkpkeeaa.Sh
open Go Go.RowKit

theorem conv_byt {w : World} {B : Nat} {A : Option Addr} {l : List UInt8} {n c : Nat} (h : Byt w B A l) (hl : l.length = n) : (convert 32 9 (.slice A n c)).run Try.prog w = .ok (.string ⟨l.toArray⟩) w := by
  subst hl
  rcases A with _ | ad
  · obtain rfl : l = [] := by
      rcases Nat.eq_zero_or_pos l.length with h0 | h0
      · exact List.eq_nil_of_length_eq_zero h0
      · obtain ⟨_, h1, _⟩ := h h0
        cases h1
    exact Lib.run_convert_nil_bytes w 32 9 5 c Try.underlying32 Try.underlying5 Try.underlying9
  · exact run_convert_bytes_back w 32 9 5 ad c l Try.underlying32 Try.underlying5 Try.underlying9 (fun j hj => h.cells rfl j _ (by simp [bv, hj]))

theorem numStep_nat (l : List UInt8) (p : Nat) (e least most : Int) (hp : p ≤ l.length) :
    ∃ (V p' : Nat) (e' : Int), numStep l p e least most = ((V : Int), p', e') ∧ V < 9223372036854775808 ∧ p' ≤ l.length ∧ (e' ≠ 0 → V = 0 ∧ p' = p) := by
  unfold numStep
  split
  · exact ⟨0, p, e, rfl, by omega, hp, fun _ => ⟨rfl, rfl⟩⟩
  · split
    · exact ⟨0, p, _, rfl, by omega, hp, fun _ => ⟨rfl, rfl⟩⟩
    · split
      · exact ⟨0, p, _, rfl, by omega, hp, fun _ => ⟨rfl, rfl⟩⟩
      · rename_i h _
        obtain ⟨h1, h2, _⟩ := look_zero (l := l.drop p) (N := (look (l.drop p)).1) (U := (look (l.drop p)).2.1) (by
          have : (look (l.drop p)).2.2 = 0 := by omega
          rw [← this])
        rw [List.length_drop] at h2
        exact ⟨_, _, _, rfl, h1, by omega, fun h => absurd rfl h⟩
/-- What text answers; the place may be behind what it has passed. -/
def textRaw (l : List UInt8) (p : Nat) (e most : Int) : List UInt8 × Nat × Int :=
  if (l.length : Int) - (numStep l p e 0 most).2.1 < (numStep l p e 0 most).1 then ([], (numStep l p e 0 most).2.1, 3)
  else ((l.drop (numStep l p e 0 most).2.1).take (numStep l p e 0 most).1.toNat, (numStep l p e 0 most).2.1 + (numStep l p e 0 most).1.toNat, (numStep l p e 0 most).2.2)
/-- What Text answers. -/
def textStep (l : List UInt8) (p : Nat) (e most : Int) : List UInt8 × Nat × Int :=
  if e ≠ 0 then ([], p, e)
  else if (look (l.drop p)).2.2 ≠ 0 then ([], p, (look (l.drop p)).2.2)
  else if most < ((look (l.drop p)).1 : Int) then ([], p, 2)
  else if l.length - (p + (look (l.drop p)).2.1) < (look (l.drop p)).1 then ([], p, 3)
  else ((l.drop (p + (look (l.drop p)).2.1)).take (look (l.drop p)).1, p + (look (l.drop p)).2.1 + (look (l.drop p)).1, 0)
theorem text_raw (l : List UInt8) (p : Nat) (e most : Int) (hp : p ≤ l.length) :
    textStep l p e most = ((textRaw l p e most).1, (if (textRaw l p e most).2.2 ≠ 0 then p else (textRaw l p e most).2.1), (textRaw l p e most).2.2) := by
  unfold textStep textRaw numStep
  by_cases h1 : e ≠ 0
  · simp only [if_pos h1]
    rw [if_neg (by omega), if_pos h1]
    simp
  · simp only [if_neg h1]
    by_cases h2 : (look (l.drop p)).2.2 ≠ 0
    · simp only [if_pos h2]
      rw [if_neg (by omega), if_pos h2]
      simp
    · simp only [if_neg h2]
      by_cases h3 : most < ((look (l.drop p)).1 : Int)
      · have h3' : ((look (l.drop p)).1 : Int) < 0 ∨ most < ((look (l.drop p)).1 : Int) := .inr h3
        simp only [if_pos h3, if_pos h3']
        rw [if_neg (by omega)]
        simp
      · have h3' : ¬ (((look (l.drop p)).1 : Int) < 0 ∨ most < ((look (l.drop p)).1 : Int)) := by omega
        simp only [if_neg h3, if_neg h3']
        have hu : (look (l.drop p)).2.1 ≤ l.length - p := by
          obtain ⟨_, h, _⟩ := look_zero (l := l.drop p) (N := (look (l.drop p)).1) (U := (look (l.drop p)).2.1) (by
            have : (look (l.drop p)).2.2 = 0 := by omega
            rw [← this])
          rwa [List.length_drop] at h
        by_cases h4 : l.length - (p + (look (l.drop p)).2.1) < (look (l.drop p)).1
        · rw [if_pos h4, if_pos (by omega)]
          simp
        · rw [if_neg h4, if_neg (by omega), if_neg (by simp)]
          simp

def StepS (T : TypeId) (w w' : World) (g : Nat) (A : Option Addr) (n c : Nat) (er : Ending) (x : List UInt8 × Nat × Int) : Prop :=
  er = .returned (.string ⟨x.1.toArray⟩) ∧ CuRow T w' g A n c x.2.1 x.2.2 ∧ w.grownBy w' (some g)

end Go.Proofs.Ytkaakbgpkpkeeaa.Sh
