/-
  Vectors, pure: what is read is put as just the bytes that were read.
-/
import Derived.Test.YtkaakbgpkpkeeaaVeRead
import Derived.Test.YtkaakbgpkpkeeaaVePut
namespace Go.Proofs.Ytkaakbgpkpkeeaa.Sh
open Go Go.RowKit

set_option linter.unusedSimpArgs false
set_option linter.unusedVariables false
theorem numStep_ok {l : List UInt8} {p q : Nat} {e V least most : Int} (h : numStep l p e least most = (V, q, 0)) (hp : p ≤ l.length) :
    e = 0 ∧ l.drop p = enc V.toNat ++ l.drop q ∧ q = p + (enc V.toNat).length ∧ q ≤ l.length ∧ least ≤ V ∧ V ≤ most ∧ 0 ≤ V := by
  unfold numStep at h
  split at h
  · rename_i h1
    simp only [Prod.mk.injEq] at h
    exact absurd h.2.2 h1
  · rename_i h1
    have he : e = 0 := by omega
    split at h
    · rename_i h2
      simp only [Prod.mk.injEq] at h
      exact absurd h.2.2 h2
    · rename_i h2
      split at h
      · simp at h
      · rename_i h3
        simp only [Prod.mk.injEq, and_true] at h
        obtain ⟨h4, h5⟩ := h
        obtain ⟨N, hN⟩ : ∃ N, (look (l.drop p)).1 = N := ⟨_, rfl⟩
        obtain ⟨U, hU⟩ : ∃ U, (look (l.drop p)).2.1 = U := ⟨_, rfl⟩
        have hl : look (l.drop p) = (N, U, 0) := by
          have e2 : (look (l.drop p)).2.2 = 0 := by omega
          rw [← hN, ← hU, ← e2]
        obtain ⟨k1, k2, k3, k4⟩ := look_ok hl
        rw [hN] at h4 h3
        rw [hU] at h5
        rw [List.length_drop] at k2
        have hV : V.toNat = N := by omega
        rw [hV]
        refine ⟨he, ?_, by omega, by omega, by omega, by omega, by omega⟩
        rw [← k3, ← h5, ← List.drop_drop, List.take_append_drop]
theorem vecNums_ok (l : List UInt8) (p : Nat) (e : Int) (hp : p ≤ l.length) : ∀ (k : Nat) (s : List Int) (q : Nat), vecNums l k p e = (s, q, 0) →
    e = 0 ∧ l.drop p = (s.flatMap fun z => enc z.toNat) ++ l.drop q ∧ q = p + (s.flatMap fun z => enc z.toNat).length ∧ q ≤ l.length ∧ ∀ z ∈ s, 0 ≤ z ∧ z ≤ 1099511627776 := by
  intro k
  induction k with
  | zero =>
    intro s q h
    simp only [vecNums, Prod.mk.injEq] at h
    obtain ⟨rfl, rfl, rfl⟩ := h
    exact ⟨rfl, by simp, by simp, hp, by simp⟩
  | succ k ih =>
    intro s q h
    obtain ⟨s1, q1, e1, h1⟩ : ∃ s1 q1 e1, vecNums l k p e = (s1, q1, e1) := ⟨_, _, _, rfl⟩
    obtain ⟨V, q2, e2, h2⟩ : ∃ V q2 e2, numStep l q1 e1 0 1099511627776 = (V, q2, e2) := ⟨_, _, _, rfl⟩
    simp only [vecNums, h1, h2, Prod.mk.injEq] at h
    obtain ⟨rfl, rfl, rfl⟩ := h
    have hq1 : q1 ≤ l.length ∨ e1 = 0 := by
      by_cases he : e1 = 0
      · exact .inr he
      · exfalso
        have : e1 = 0 := by
          unfold numStep at h2
          rw [if_pos he] at h2
          simp only [Prod.mk.injEq] at h2
          exact h2.2.2
        exact he this
    have he1 : e1 = 0 := by
      by_cases he : e1 = 0
      · exact he
      · unfold numStep at h2
        rw [if_pos he] at h2
        simp only [Prod.mk.injEq] at h2
        exact h2.2.2
    subst he1
    obtain ⟨a1, a2, a3, a4, a5⟩ := ih s1 q1 h1
    obtain ⟨-, b2, b3, b4, b5, b6, b7⟩ := numStep_ok h2 a4
    refine ⟨a1, ?_, ?_, b4, fun z hz => ?_⟩
    · rw [a2, b2, List.flatMap_append]; simp
    · rw [List.flatMap_append, List.length_append, b3, a3]; simp; omega
    · rcases List.mem_append.1 hz with h | h
      · exact a5 z h
      · rw [List.mem_singleton] at h; subst h; omega
/-- What is read is a vector, and the bytes that it was read from are what is put of it. -/
theorem readVec_ok {l : List UInt8} {p q : Nat} {e : Int} {v : List Int} (h : readVec l p e = (v, q, 0)) (hp : p ≤ l.length) :
    e = 0 ∧ Nrm v ∧ l.drop p = encV v ++ l.drop q ∧ q = p + (encV v).length ∧ q ≤ l.length := by
  unfold readVec at h
  obtain ⟨V, q1, e1, h1⟩ : ∃ V q1 e1, numStep l p e 0 16 = (V, q1, e1) := ⟨_, _, _, rfl⟩
  obtain ⟨s, q2, e2, h2⟩ : ∃ s q2 e2, vecNums l V.toNat q1 e1 = (s, q2, e2) := ⟨_, _, _, rfl⟩
  simp only [h1, h2, Prod.mk.injEq] at h
  obtain ⟨h3, h4, h5⟩ := h
  subst h4
  have hlast : s.getLast? ≠ some 0 ∧ e2 = 0 := by
    unfold vecErr at h5
    split at h5
    · split at h5
      · omega
      · rename_i hx; exact absurd h5 hx
    · rename_i hx; exact ⟨hx, h5⟩
  rw [if_pos h5] at h3
  subst h3
  obtain ⟨hl1, he2⟩ := hlast
  subst he2
  obtain ⟨W, p', e', hn, -, hp', -⟩ := numStep_nat l p e 0 16 hp
  rw [h1] at hn
  simp only [Prod.mk.injEq] at hn
  obtain ⟨-, rfl, -⟩ := hn
  obtain ⟨a1, a2, a3, a4, a5⟩ := vecNums_ok l q1 e1 hp' _ _ _ h2
  subst a1
  obtain ⟨b1, b2, b3, b4, b5, b6, b7⟩ := numStep_ok h1 hp
  have hlen : s.length = V.toNat := by have := vecNums_len l V.toNat q1 0; rw [h2] at this; exact this
  refine ⟨b1, ⟨by omega, a5, fun i hi h0 => hl1 ?_⟩, ?_, ?_, a4⟩
  · rw [List.getLast?_eq_getElem?, ← h0]; congr 1; omega
  · unfold encV; rw [hlen, b2, a2, List.append_assoc]
  · unfold encV; rw [hlen, List.length_append, a3, b3]; omega
theorem readVec_take {l : List UInt8} {q : Nat} {v : List Int} (h : readVec l 0 0 = (v, q, 0)) : Nrm v ∧ l.take q = encV v ∧ q ≤ l.length := by
  obtain ⟨-, h1, h2, h3, h4⟩ := readVec_ok h (Nat.zero_le _)
  rw [List.drop_zero] at h2
  refine ⟨h1, ?_, h4⟩
  have h5 : q = (encV v).length := by omega
  rw [h5]
  conv => lhs; rw [h2]
  simp
end Go.Proofs.Ytkaakbgpkpkeeaa.Sh
