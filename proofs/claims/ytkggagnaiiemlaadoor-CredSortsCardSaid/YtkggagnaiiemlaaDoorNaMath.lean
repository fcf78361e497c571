/-
  Names, domains and roles: what the document asks, on lists of bytes. Plain lemmas; nothing of the program.
-/
import Derived.WalkKit
namespace Go.Proofs.YtkggagnaiiemlaaDoor.Sh

def letter (x : UInt8) : Bool := 97 ≤ x.toNat && x.toNat ≤ 122
def digit (x : UInt8) : Bool := 48 ≤ x.toNat && x.toNat ≤ 57
/-- A name. -/
def mayL (l : List UInt8) : Bool := match l with
  | [] => false
  | x :: t => letter x && t.all (fun y => letter y || digit y) && decide (t.length ≤ 7)
/-- The domain of a name, 0 if there is none. -/
def numL (l : List UInt8) : Nat := match l with
  | [d, x] => if d = 100 ∧ 49 ≤ x.toNat ∧ x.toNat ≤ 57 then x.toNat - 48 else 0
  | [d, x, y] => if d = 100 ∧ 49 ≤ x.toNat ∧ x.toNat ≤ 57 ∧ 48 ≤ y.toNat ∧ y.toNat ≤ 57 ∧ 10 * (x.toNat - 48) + (y.toNat - 48) ≤ 16 then 10 * (x.toNat - 48) + (y.toNat - 48) else 0
  | _ => 0
/-- The name of a domain, none if there is none. -/
def domL (n : Int) : List UInt8 :=
  if n < 1 ∨ 16 < n then []
  else if n < 10 then [100, UInt8.ofNat (48 + n.toNat)]
  else [100, 49, UInt8.ofNat (38 + n.toNat)]
def roleL (o n : List UInt8) : Bool := mayL n && decide (numL o ≠ 0)
/-- A text cut at its first '.'. -/
def cutDot : List UInt8 → Option (List UInt8 × List UInt8)
  | [] => none
  | x :: t => if x = 46 then some ([], t) else (cutDot t).map fun p => (x :: p.1, p.2)
/-- The role of a text. -/
def readL (l : List UInt8) : Option (List UInt8 × List UInt8) := (cutDot l).filter fun p => roleL p.1 p.2

theorem numL_domL (n : Int) (h1 : 1 ≤ n) (h2 : n ≤ 16) : numL (domL n) = n.toNat := by
  obtain ⟨k, rfl⟩ := Int.eq_ofNat_of_zero_le (show 0 ≤ n by omega)
  have hk1 : 1 ≤ k := by omega
  have hk2 : k ≤ 16 := by omega
  match k, hk1, hk2 with
  | 1, _, _ | 2, _, _ | 3, _, _ | 4, _, _ | 5, _, _ | 6, _, _ | 7, _, _ | 8, _, _ | 9, _, _ | 10, _, _ | 11, _, _ | 12, _, _ | 13, _, _ | 14, _, _ | 15, _, _ | 16, _, _ => decide +kernel
theorem domL_may (n : Int) (h1 : 1 ≤ n) (h2 : n ≤ 16) : mayL (domL n) = true := by
  obtain ⟨k, rfl⟩ := Int.eq_ofNat_of_zero_le (show 0 ≤ n by omega)
  have hk1 : 1 ≤ k := by omega
  have hk2 : k ≤ 16 := by omega
  match k, hk1, hk2 with
  | 1, _, _ | 2, _, _ | 3, _, _ | 4, _, _ | 5, _, _ | 6, _, _ | 7, _, _ | 8, _, _ | 9, _, _ | 10, _, _ | 11, _, _ | 12, _, _ | 13, _, _ | 14, _, _ | 15, _, _ | 16, _, _ => decide +kernel
theorem domL_none (n : Int) (h : n < 1 ∨ 16 < n) : domL n = [] := if_pos h
/-- No other name is a domain's. -/
theorem domL_numL (l : List UInt8) (h : numL l ≠ 0) : domL (numL l : Int) = l ∧ 1 ≤ numL l ∧ numL l ≤ 16 := by
  match l with
  | [] => exact absurd rfl h
  | [_] => exact absurd rfl h
  | [d, x] =>
    have hx : x.toNat < 256 := x.toNat_lt
    by_cases hc : d = 100 ∧ 49 ≤ x.toNat ∧ x.toNat ≤ 57
    · have e : numL [d, x] = x.toNat - 48 := if_pos hc
      rw [e]
      refine ⟨?_, by omega, by omega⟩
      unfold domL
      rw [if_neg (by omega), if_pos (by omega), hc.1]
      congr 2
      apply UInt8.toNat_inj.1
      rw [UInt8.toNat_ofNat']
      omega
    · exact absurd (if_neg hc) h
  | [d, x, y] =>
    have hy : y.toNat < 256 := y.toNat_lt
    by_cases hc : d = 100 ∧ 49 ≤ x.toNat ∧ x.toNat ≤ 57 ∧ 48 ≤ y.toNat ∧ y.toNat ≤ 57 ∧ 10 * (x.toNat - 48) + (y.toNat - 48) ≤ 16
    · have e : numL [d, x, y] = 10 * (x.toNat - 48) + (y.toNat - 48) := if_pos hc
      rw [e]
      refine ⟨?_, by omega, by omega⟩
      unfold domL
      have hx : x = 49 := UInt8.toNat_inj.1 (by show x.toNat = 49; omega)
      rw [if_neg (by omega), if_neg (by omega), hc.1, hx]
      congr 3
      apply UInt8.toNat_inj.1
      rw [UInt8.toNat_ofNat']
      subst hx
      have h49 : (49 : UInt8).toNat = 49 := rfl
      rw [h49] at hc ⊢
      omega
    · exact absurd (if_neg hc) h
  | _ :: _ :: _ :: _ :: _ => exact absurd rfl h
theorem domL_dot (n : Nat) (h2 : n ≤ 16) : ∀ x ∈ domL (n : Int), x ≠ 46 := by
  have h : ∀ k : Fin 17, ∀ x ∈ domL (k.val : Int), x ≠ 46 := by decide +kernel
  exact h ⟨n, by omega⟩
/-- No name has a '.'. -/
theorem no_dot_num {l : List UInt8} (h : numL l ≠ 0) : ∀ x ∈ l, x ≠ 46 := by
  obtain ⟨h1, _, h3⟩ := domL_numL l h
  rw [← h1]
  exact domL_dot _ h3
theorem cutDot_join (o n : List UInt8) (h : ∀ x ∈ o, x ≠ 46) : cutDot (o ++ 46 :: n) = some (o, n) := by
  induction o with
  | nil => rfl
  | cons x t ih =>
    have hx : x ≠ 46 := h x (by simp)
    simp only [List.cons_append, cutDot]
    rw [if_neg hx, ih (fun y hy => h y (by simp [hy]))]
    rfl
theorem cutDot_some {l o n : List UInt8} (h : cutDot l = some (o, n)) : l = o ++ 46 :: n ∧ ∀ x ∈ o, x ≠ 46 := by
  induction l generalizing o n with
  | nil => simp [cutDot] at h
  | cons x t ih =>
    simp only [cutDot] at h
    split at h
    · rename_i hx
      simp only [Option.some.injEq, Prod.mk.injEq] at h
      obtain ⟨rfl, rfl⟩ := h
      exact ⟨by rw [hx]; rfl, fun _ h => absurd h (by simp)⟩
    · rename_i hx
      rw [Option.map_eq_some_iff] at h
      obtain ⟨⟨a, b⟩, h1, h2⟩ := h
      simp only [Prod.mk.injEq] at h2
      obtain ⟨rfl, rfl⟩ := h2
      obtain ⟨h3, h4⟩ := ih h1
      refine ⟨by rw [h3]; rfl, fun y hy => ?_⟩
      rcases List.mem_cons.1 hy with rfl | hy
      · exact hx
      · exact h4 y hy
theorem cutDot_none {l : List UInt8} : cutDot l = none ↔ ∀ x ∈ l, x ≠ 46 := by
  induction l with
  | nil => simp [cutDot]
  | cons x t ih =>
    simp only [cutDot]
    by_cases hx : x = 46
    · simp [hx]
    · rw [if_neg hx]
      simp [ih, hx]
/-- A role is read from its text. -/
theorem readL_text {o n : List UInt8} (h : roleL o n = true) : readL (o ++ 46 :: n) = some (o, n) := by
  have h2 := h
  unfold roleL at h2
  simp only [Bool.and_eq_true, decide_eq_true_eq] at h2
  unfold readL
  rw [cutDot_join o n (no_dot_num h2.2)]
  simp [Option.filter, h]
/-- No other text has it. -/
theorem readL_some {l o n : List UInt8} (h : readL l = some (o, n)) : l = o ++ 46 :: n ∧ roleL o n = true := by
  unfold readL at h
  rw [Option.filter_eq_some_iff] at h
  exact ⟨(cutDot_some h.1).1, h.2⟩
/-- Of a text with its first '.' at i. -/
theorem cutDot_at {l : List UInt8} {i : Nat} (h : ∀ x ∈ l.take i, x ≠ 46) (hi : l[i]? = some 46) : cutDot l = some (l.take i, l.drop (i + 1)) := by
  have hl : l = l.take i ++ 46 :: l.drop (i + 1) := by
    have h2 : i < l.length := (List.getElem?_eq_some_iff.1 hi).1
    have h3 : l[i] = 46 := (List.getElem?_eq_some_iff.1 hi).2
    rw [← h3, List.getElem_cons_drop, List.take_append_drop]
  conv => lhs; rw [hl]
  exact cutDot_join _ _ h
end Go.Proofs.YtkggagnaiiemlaaDoor.Sh
