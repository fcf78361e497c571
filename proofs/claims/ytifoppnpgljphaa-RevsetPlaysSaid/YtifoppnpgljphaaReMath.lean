/-
  Sets of revocations, pure: rows by domain, what is added, merged, told as lacking; two sets with rows of the same domains come together.
-/
import Derived.Test.YtifoppnpgljphaaVeMath
namespace Go.Proofs.Ytifoppnpgljphaa.Sh
open Go Go.RowKit

set_option linter.unusedSimpArgs false
set_option linter.unusedVariables false
/-- A row that may be. -/
structure OkR (l : List Int) : Prop where
  len : l.length ≤ 32
  rng : ∀ z ∈ l, 1 ≤ z ∧ z ≤ 4000
  nod : l.Nodup
theorem OkR.nil : OkR [] := ⟨by simp, by simp, by simp⟩
theorem OkR.take {l : List Int} (h : OkR l) (k : Nat) : OkR (l.take k) :=
  ⟨by rw [List.length_take]; have := h.len; omega, fun z hz => h.rng z (List.mem_of_mem_take hz), h.nod.sublist (List.take_sublist _ _)⟩
theorem OkR.pre {a l : List Int} (h : OkR l) (hp : a <+: l) : OkR a := by
  rw [List.prefix_iff_eq_take] at hp; rw [hp]; exact h.take _
theorem OkR.snoc {l : List Int} {q : Int} (h : OkR l) (hl : l.length ≠ 32) (h1 : 1 ≤ q) (h2 : q ≤ 4000) (hq : q ∉ l) : OkR (l ++ [q]) := by
  refine ⟨by rw [List.length_append]; have := h.len; simp; omega, fun z hz => ?_, ?_⟩
  · rcases List.mem_append.1 hz with h3 | h3
    · exact h.rng z h3
    · rw [List.mem_singleton.1 h3]; exact ⟨h1, h2⟩
  · rw [List.nodup_append]
    refine ⟨h.nod, by simp, fun a ha b hb e => ?_⟩
    rw [List.mem_singleton.1 hb] at e
    exact hq (e ▸ ha)
/-- A set: the row of the domain i + 1. -/
def up (S : Nat → List Int) (i : Nat) (l : List Int) : Nat → List Int := fun j => if j = i then l else S j
theorem up_at (S : Nat → List Int) (i : Nat) (l : List Int) : up S i l i = l := if_pos rfl
theorem up_ne (S : Nat → List Int) {i j : Nat} (l : List Int) (h : j ≠ i) : up S i l j = S j := if_neg h
def OkS (S : Nat → List Int) : Prop := ∀ i, OkR (S i)
def S0 : Nat → List Int := fun _ => []
theorem OkS.nil : OkS S0 := fun _ => OkR.nil
theorem OkS.up {S : Nat → List Int} (h : OkS S) {i : Nat} {l : List Int} (hl : OkR l) : OkS (up S i l) := fun j => by
  unfold Sh.up; split
  · exact hl
  · exact h j
open Classical in
/-- What Add answers. -/
noncomputable def addE (S : Nat → List Int) (d q : Int) : Int :=
  if d < 1 ∨ 16 < d ∨ q < 1 ∨ 4000 < q then 1 else if q ∈ S (d - 1).toNat then 14 else if (S (d - 1).toNat).length = 32 then 12 else 0
open Classical in
noncomputable def addS (S : Nat → List Int) (d q : Int) : Nat → List Int :=
  if addE S d q = 0 then up S (d - 1).toNat (S (d - 1).toNat ++ [q]) else S
theorem addE_zero {S : Nat → List Int} {d q : Int} (h : addE S d q = 0) : 1 ≤ d ∧ d ≤ 16 ∧ 1 ≤ q ∧ q ≤ 4000 ∧ q ∉ S (d - 1).toNat ∧ (S (d - 1).toNat).length ≠ 32 := by
  unfold addE at h
  split at h
  · omega
  · split at h
    · omega
    · split at h
      · omega
      · rename_i h1 h2 h3
        exact ⟨by omega, by omega, by omega, by omega, h2, h3⟩
theorem OkS.add {S : Nat → List Int} (h : OkS S) (d q : Int) : OkS (addS S d q) := by
  unfold addS; split
  · rename_i h0
    obtain ⟨_, _, h3, h4, h5, h6⟩ := addE_zero h0
    exact h.up ((h _).snoc h6 h3 h4 h5)
  · exact h
/-- Is it there? -/
def hasS (S : Nat → List Int) (d q : Int) : Prop := 1 ≤ d ∧ d ≤ 16 ∧ q ∈ S (d - 1).toNat
def Takes (row : List Int) (k : Nat) (l : List Int) : Prop := k ≤ row.length ∧ OkR (row.take k ++ l) ∧ row <+: row.take k ++ l ∧ row.length < (row.take k ++ l).length
open Classical in
/-- A row, with a list merged that begins at k. -/
noncomputable def mrow (row : List Int) (k : Nat) (l : List Int) : List Int := if Takes row k l then row.take k ++ l else row
theorem mrow_ok {row : List Int} (h : OkR row) (k : Nat) (l : List Int) : OkR (mrow row k l) := by
  unfold mrow; split
  · rename_i h1; exact h1.2.1
  · exact h
theorem mrow_pre (row : List Int) (k : Nat) (l : List Int) : row <+: mrow row k l := by
  unfold mrow; split
  · rename_i h1; exact h1.2.2.1
  · exact List.prefix_refl _
theorem mrow_nil (row : List Int) (k : Nat) : mrow row k [] = row := by
  unfold mrow; split
  · rename_i h1
    have := h1.2.2.2
    rw [List.append_nil, List.length_take] at this
    omega
  · rfl
/-- The first j domains merged. -/
noncomputable def mergeS (S : Nat → List Int) (known : List Int) (more : List (List Int)) (j : Nat) : Nat → List Int :=
  fun i => if i < j then mrow (S i) (vat known i).toNat (more.getD i []) else S i
noncomputable def mergeN (S : Nat → List Int) (known : List Int) (more : List (List Int)) : Nat → Nat
  | 0 => 0
  | j + 1 => mergeN S known more j + ((mrow (S j) (vat known j).toNat (more.getD j [])).length - (S j).length)
theorem OkS.merge {S : Nat → List Int} (h : OkS S) (known : List Int) (more : List (List Int)) (j : Nat) : OkS (mergeS S known more j) := fun i => by
  unfold mergeS; split
  · exact mrow_ok (h i) _ _
  · exact h i
theorem mergeS_zero (S : Nat → List Int) (known : List Int) (more : List (List Int)) : mergeS S known more 0 = S := funext fun i => if_neg (by omega)
theorem mergeS_succ (S : Nat → List Int) (known : List Int) (more : List (List Int)) (j : Nat) : mergeS S known more (j + 1) = up (mergeS S known more j) j (mrow (S j) (vat known j).toNat (more.getD j [])) := funext fun i => by
  show (if i < j + 1 then mrow (S i) (vat known i).toNat (more.getD i []) else S i) = if i = j then mrow (S j) (vat known j).toNat (more.getD j []) else if i < j then mrow (S i) (vat known i).toNat (more.getD i []) else S i
  by_cases h : i = j
  · subst h; simp
  · by_cases h2 : i < j
    · rw [if_pos (by omega), if_neg h, if_pos h2]
    · rw [if_neg (by omega), if_neg h, if_neg h2]
theorem mergeS_at (S : Nat → List Int) (known : List Int) (more : List (List Int)) (j : Nat) : mergeS S known more j j = S j := if_neg (by omega)
theorem up_self (S : Nat → List Int) (i : Nat) : up S i (S i) = S := funext fun j => by
  unfold up; split
  · rename_i h; rw [h]
  · rfl
theorem mergeN_le (S : Nat → List Int) (known : List Int) (more : List (List Int)) (h : OkS S) (j : Nat) : mergeN S known more j ≤ 32 * j := by
  induction j with
  | zero => exact Nat.le_refl _
  | succ j ih =>
    have := (mrow_ok (h j) (vat known j).toNat (more.getD j [])).len
    show mergeN S known more j + _ ≤ _
    omega
/-- The numbers of each domain. -/
def vecS (S : Nat → List Int) : List Int := vecOf fun i => ((S i).length : Int)
theorem vecS_b {S : Nat → List Int} (h : OkS S) (i : Nat) : 0 ≤ ((S i).length : Int) ∧ ((S i).length : Int) ≤ 1099511627776 := by have := (h i).len; omega
theorem vecS_nrm {S : Nat → List Int} (h : OkS S) : Nrm (vecS S) := vecOf_nrm (vecS_b h)
theorem vecS_at {S : Nat → List Int} (h : OkS S) {i : Nat} (hi : i < 16) : vat (vecS S) i = ((S i).length : Int) := vecOf_at (vecS_b h) hi
/-- Lists without empty ones at the end. -/
def trimL : List (List Int) → List (List Int)
  | [] => []
  | x :: t => match trimL t with | [] => if x = [] then [] else [x] | y :: s => x :: y :: s
theorem trimL_take : ∀ (l : List (List Int)) (n : Nat), n ≤ l.length → (∀ i, n ≤ i → i < l.length → l[i]? = some []) → (∀ i, i + 1 = n → l[i]? ≠ some []) → trimL l = l.take n
  | [], n, h, _, _ => by simp at h; subst h; rfl
  | x :: t, 0, _, h0, _ => by
    have h1 : trimL t = t.take 0 := trimL_take t 0 (by omega) (fun i _ hi => by have := h0 (i + 1) (by omega) (by simpa using hi); simpa using this) (fun i hi => by omega)
    have h2 : x = [] := by have := h0 0 (by omega) (by simp); simpa using this
    show (match trimL t with | [] => if x = [] then [] else [x] | y :: s => x :: y :: s) = _
    rw [h1, h2]; simp
  | x :: t, n + 1, h, h0, hl => by
    have h1 : trimL t = t.take n := trimL_take t n (by simpa using h) (fun i h3 hi => by have := h0 (i + 1) (by omega) (by simpa using hi); simpa using this) (fun i hi => by have := hl (i + 1) (by omega); simpa using this)
    show (match trimL t with | [] => if x = [] then [] else [x] | y :: s => x :: y :: s) = _
    rw [h1]
    cases n with
    | zero =>
      have h2 : x ≠ [] := by have := hl 0 rfl; simpa using this
      simp [h2]
    | succ n =>
      cases t with
      | nil => simp at h
      | cons y s => simp
theorem trimL_getD (l : List (List Int)) (i : Nat) : (trimL l).getD i [] = l.getD i [] := by
  induction l generalizing i with
  | nil => rfl
  | cons x t ih =>
    show (match trimL t with | [] => if x = [] then [] else [x] | y :: s => x :: y :: s).getD i [] = _
    cases e : trimL t with
    | nil =>
      rw [e] at ih
      by_cases hx : x = []
      · simp only [if_pos hx]
        cases i with
        | zero => simp [hx]
        | succ k => simpa using ih k
      · simp only [if_neg hx]
        cases i with
        | zero => simp
        | succ k => simpa using ih k
    | cons y s =>
      rw [e] at ih
      cases i with
      | zero => simp
      | succ k => simpa using ih k
/-- The part of a domain's row that somebody lacks. -/
def partS (S : Nat → List Int) (known : List Int) (i : Nat) : List Int := (S i).drop (vat known i).toNat
def deltaS (S : Nat → List Int) (known : List Int) : List (List Int) := trimL ((List.range 16).map (partS S known))
theorem deltaS_len (S : Nat → List Int) (known : List Int) : (deltaS S known).length ≤ 16 := by
  have h : ∀ l : List (List Int), (trimL l).length ≤ l.length := fun l => by
    induction l with
    | nil => exact Nat.le_refl _
    | cons x t ih =>
      show (match trimL t with | [] => if x = [] then [] else [x] | y :: s => x :: y :: s).length ≤ _
      cases e : trimL t with
      | nil => by_cases hx : x = [] <;> simp [hx]
      | cons y s => rw [e] at ih; simp only [List.length_cons] at ih ⊢; omega
  exact Nat.le_trans (h _) (by simp)
theorem deltaS_at (S : Nat → List Int) (known : List Int) {i : Nat} (hi : i < 16) : (deltaS S known).getD i [] = (S i).drop (vat known i).toNat := by
  unfold deltaS
  rw [trimL_getD, List.getD_eq_getElem?_getD, List.getElem?_map, List.getElem?_range hi]
  rfl
/-- One row begins with the other: merged, the longer one. -/
theorem mrow_join {x y all : List Int} (hx : x <+: all) (hy : y <+: all) (ha : OkR all) : mrow x x.length (y.drop x.length) = if x.length ≤ y.length then y else x := by
  rw [List.prefix_iff_eq_take] at hx hy
  by_cases h : x.length ≤ y.length
  · rw [if_pos h]
    have hxy : x = y.take x.length := by rw [hy, List.take_take, Nat.min_eq_left h]; exact hx
    have hc : x.take x.length ++ y.drop x.length = y := by
      rw [List.take_length]
      conv => lhs; lhs; rw [hxy]
      exact List.take_append_drop _ _
    unfold mrow
    split
    · exact hc
    · rename_i h1
      rcases Nat.lt_or_ge x.length y.length with h2 | h2
      · exact absurd (show Takes x x.length (y.drop x.length) from ⟨Nat.le_refl _, by rw [hc, hy]; exact ha.take _, by rw [hc]; exact hxy ▸ List.take_prefix _ _, by rw [hc]; exact h2⟩) h1
      · rw [hxy, List.take_of_length_le h2]
  · rw [if_neg h, List.drop_of_length_le (by omega), mrow_nil]
end Go.Proofs.Ytifoppnpgljphaa.Sh
