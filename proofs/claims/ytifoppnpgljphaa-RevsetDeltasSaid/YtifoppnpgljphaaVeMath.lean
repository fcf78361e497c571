/-
  Vectors, pure: what a list says of a domain; lists without noughts at their end.
-/
import Derived.Test.YtifoppnpgljphaaBaMem
namespace Go.Proofs.Ytifoppnpgljphaa.Sh
open Go Go.RowKit

set_option linter.unusedSimpArgs false
set_option linter.unusedVariables false
/-- A number as one of a vector. -/
def clv (n : Int) : Int := if n < 0 then 0 else if n > 1099511627776 then 1099511627776 else n
theorem clv_b (n : Int) : 0 ≤ clv n ∧ clv n ≤ 1099511627776 := by unfold clv; split <;> (try split) <;> omega
theorem clv_id {n : Int} (h : 0 ≤ n) (h' : n ≤ 1099511627776) : clv n = n := by unfold clv; rw [if_neg (by omega), if_neg (by omega)]
theorem clv_clv (n : Int) : clv (clv n) = clv n := clv_id (clv_b n).1 (clv_b n).2
/-- What a list says of the domain i + 1. -/
def vat (v : List Int) (i : Nat) : Int := match v[i]? with | some n => clv n | none => 0
/-- What a list says of a domain. -/
def vget (v : List Int) (d : Int) : Int := if d < 1 ∨ 16 < d then 0 else vat v (d - 1).toNat
theorem vat_b (v : List Int) (i : Nat) : 0 ≤ vat v i ∧ vat v i ≤ 1099511627776 := by
  unfold vat; split
  · exact clv_b _
  · omega
theorem vget_b (v : List Int) (d : Int) : 0 ≤ vget v d ∧ vget v d ≤ 1099511627776 := by
  unfold vget; split
  · omega
  · exact vat_b _ _
theorem vget_at (v : List Int) {i : Nat} (h : i < 16) : vget v ((i : Int) + 1) = vat v i := by
  unfold vget; rw [if_neg (by omega)]; congr 1; omega
theorem vget_far (v : List Int) {d : Int} (h : d < 1 ∨ 16 < d) : vget v d = 0 := if_pos h
theorem vat_far {v : List Int} {i : Nat} (h : v.length ≤ i) : vat v i = 0 := by unfold vat; rw [List.getElem?_eq_none h]
/-- A vector without noughts at its end. -/
structure Nrm (v : List Int) : Prop where
  len : v.length ≤ 16
  rng : ∀ n ∈ v, 0 ≤ n ∧ n ≤ 1099511627776
  last : ∀ i, i + 1 = v.length → v[i]? ≠ some 0
theorem Nrm.nil : Nrm [] := ⟨by simp, by simp, by simp⟩
theorem Nrm.at {v : List Int} (h : Nrm v) {i : Nat} {n : Int} (hi : v[i]? = some n) : vat v i = n := by
  unfold vat; rw [hi]
  have := h.rng n (List.mem_of_getElem? hi)
  exact clv_id this.1 this.2
theorem Nrm.le {a b : List Int} (ha : Nrm a) (hb : Nrm b) (h : ∀ i, i < 16 → vat a i = vat b i) : a.length ≤ b.length := by
  rcases Nat.lt_or_ge b.length a.length with hl | hl
  · exfalso
    have hp : a.length - 1 < a.length := by omega
    have h1 := h (a.length - 1) (by have := ha.len; omega)
    rw [vat_far (v := b) (by omega), ha.at (List.getElem?_eq_getElem hp)] at h1
    exact ha.last (a.length - 1) (by omega) (by rw [List.getElem?_eq_getElem hp, h1])
  · exact hl
/-- One vector alone says so. -/
theorem Nrm.ext {a b : List Int} (ha : Nrm a) (hb : Nrm b) (h : ∀ i, i < 16 → vat a i = vat b i) : a = b := by
  have hl : a.length = b.length := Nat.le_antisymm (ha.le hb h) (hb.le ha fun i hi => (h i hi).symm)
  refine List.ext_getElem hl fun i h1 h2 => ?_
  have := h i (by have := ha.len; omega)
  rwa [ha.at (List.getElem?_eq_getElem h1), hb.at (List.getElem?_eq_getElem h2)] at this
/-- Without the noughts at its end. -/
def trim : List Int → List Int
  | [] => []
  | x :: t => match trim t with | [] => if x = 0 then [] else [x] | y :: s => x :: y :: s
theorem trim_take : ∀ (l : List Int) (n : Nat), n ≤ l.length → (∀ i, n ≤ i → i < l.length → l[i]? = some 0) → (∀ i, i + 1 = n → l[i]? ≠ some 0) → trim l = l.take n
  | [], n, h, _, _ => by simp at h; subst h; rfl
  | x :: t, 0, _, h0, _ => by
    have h1 : trim t = t.take 0 := trim_take t 0 (by omega) (fun i _ hi => by have := h0 (i + 1) (by omega) (by simpa using hi); simpa using this) (fun i hi => by omega)
    have h2 : x = 0 := by have := h0 0 (by omega) (by simp); simpa using this
    show (match trim t with | [] => if x = 0 then [] else [x] | y :: s => x :: y :: s) = _
    rw [h1, h2]; simp
  | x :: t, n + 1, h, h0, hl => by
    have h1 : trim t = t.take n := trim_take t n (by simpa using h) (fun i h3 hi => by have := h0 (i + 1) (by omega) (by simpa using hi); simpa using this) (fun i hi => by have := hl (i + 1) (by omega); simpa using this)
    show (match trim t with | [] => if x = 0 then [] else [x] | y :: s => x :: y :: s) = _
    rw [h1]
    cases n with
    | zero =>
      have h2 : x ≠ 0 := by have := hl 0 rfl; simpa using this
      simp [h2]
    | succ n =>
      cases t with
      | nil => simp at h
      | cons y s => simp
theorem trim_vat (l : List Int) (i : Nat) : vat (trim l) i = vat l i := by
  induction l generalizing i with
  | nil => rfl
  | cons x t ih =>
    show vat (match trim t with | [] => if x = 0 then [] else [x] | y :: s => x :: y :: s) i = _
    have hs : ∀ (z : Int) (u : List Int) (k : Nat), vat (z :: u) (k + 1) = vat u k := fun z u k => by unfold vat; simp
    have h0 : ∀ (z : Int) (u : List Int), vat (z :: u) 0 = clv z := fun z u => by unfold vat; simp
    cases e : trim t with
    | nil =>
      rw [e] at ih
      have hz : ∀ k, vat t k = 0 := fun k => by rw [← ih k]; rfl
      by_cases hx : x = 0
      · simp only [if_pos hx]
        cases i with
        | zero => rw [h0, hx]; rfl
        | succ k => rw [hs, hz]; rfl
      · simp only [if_neg hx]
        cases i with
        | zero => rw [h0, h0]
        | succ k => rw [hs, hs, hz]; rfl
    | cons y s =>
      rw [e] at ih
      simp only
      cases i with
      | zero => rw [h0, h0]
      | succ k => rw [hs, hs, ih]
theorem trim_mem (l : List Int) : ∀ n ∈ trim l, n ∈ l := by
  induction l with
  | nil => intro n h; exact h
  | cons x t ih =>
    intro n hn
    have hn' : n ∈ (match trim t with | [] => if x = 0 then [] else [x] | y :: s => x :: y :: s) := hn
    cases e : trim t with
    | nil =>
      rw [e] at hn'
      by_cases hx : x = 0
      · simp [hx] at hn'
      · simp [hx] at hn'; simp [hn']
    | cons y s =>
      rw [e] at hn' ih
      simp only [List.mem_cons] at hn' ⊢
      rcases hn' with h | h | h
      · exact .inl h
      · exact .inr (ih n (by simp [h]))
      · exact .inr (ih n (by simp [h]))
theorem trim_len (l : List Int) : (trim l).length ≤ l.length := by
  induction l with
  | nil => exact Nat.le_refl _
  | cons x t ih =>
    show (match trim t with | [] => if x = 0 then [] else [x] | y :: s => x :: y :: s).length ≤ _
    cases e : trim t with
    | nil => by_cases hx : x = 0 <;> simp [hx]
    | cons y s => rw [e] at ih; simp only [List.length_cons] at ih ⊢; omega
theorem trim_last (l : List Int) : ∀ i, i + 1 = (trim l).length → (trim l)[i]? ≠ some 0 := by
  induction l with
  | nil => intro i h; simp [trim] at h
  | cons x t ih =>
    intro i hi
    show (match trim t with | [] => if x = 0 then [] else [x] | y :: s => x :: y :: s)[i]? ≠ _
    have hi' : i + 1 = (match trim t with | [] => if x = 0 then [] else [x] | y :: s => x :: y :: s).length := hi
    cases e : trim t with
    | nil =>
      rw [e] at hi'
      by_cases hx : x = 0
      · simp [hx] at hi'
      · simp [hx] at hi'; subst hi'; simp [hx]
    | cons y s =>
      rw [e] at hi' ih
      simp only [List.length_cons] at hi'
      have hi2 : i = s.length + 1 := by omega
      subst hi2
      have := ih s.length (by simp)
      simpa using this
/-- The numbers of the sixteen domains by a function, without the noughts at their end. -/
def vecOf (f : Nat → Int) : List Int := trim ((List.range 16).map f)
theorem vecOf_nrm {f : Nat → Int} (h : ∀ i, 0 ≤ f i ∧ f i ≤ 1099511627776) : Nrm (vecOf f) := by
  refine ⟨Nat.le_trans (trim_len _) (by simp), fun n hn => ?_, trim_last _⟩
  obtain ⟨i, _, rfl⟩ := List.mem_map.1 (trim_mem _ _ hn)
  exact h i
theorem vecOf_at {f : Nat → Int} (h : ∀ i, 0 ≤ f i ∧ f i ≤ 1099511627776) {i : Nat} (hi : i < 16) : vat (vecOf f) i = f i := by
  unfold vecOf
  rw [trim_vat]
  unfold vat
  rw [List.getElem?_map, List.getElem?_range hi]
  exact clv_id (h i).1 (h i).2
def bareV (v : List Int) : List Int := vecOf (vat v)
def joinV (a b : List Int) : List Int := vecOf fun i => max (vat a i) (vat b i)
def withV (v : List Int) (d n : Int) : List Int := vecOf fun i => if (i : Int) + 1 = d then clv n else vat v i
def coverV (a b : List Int) : Bool := (List.range 16).all fun i => decide (vat b i ≤ vat a i)
theorem bareV_nrm (v : List Int) : Nrm (bareV v) := vecOf_nrm fun i => vat_b v i
theorem joinV_b (a b : List Int) (i : Nat) : 0 ≤ max (vat a i) (vat b i) ∧ max (vat a i) (vat b i) ≤ 1099511627776 := by
  have := vat_b a i; have := vat_b b i; omega
theorem joinV_nrm (a b : List Int) : Nrm (joinV a b) := vecOf_nrm (joinV_b a b)
theorem withV_b (v : List Int) (d n : Int) (i : Nat) : 0 ≤ (if (i : Int) + 1 = d then clv n else vat v i) ∧ (if (i : Int) + 1 = d then clv n else vat v i) ≤ 1099511627776 := by
  split
  · exact clv_b n
  · exact vat_b v i
theorem withV_nrm (v : List Int) (d n : Int) : Nrm (withV v d n) := vecOf_nrm (withV_b v d n)
theorem bareV_at (v : List Int) {i : Nat} (h : i < 16) : vat (bareV v) i = vat v i := vecOf_at (fun i => vat_b v i) h
theorem joinV_at (a b : List Int) {i : Nat} (h : i < 16) : vat (joinV a b) i = max (vat a i) (vat b i) := vecOf_at (joinV_b a b) h
theorem bareV_id {v : List Int} (h : Nrm v) : bareV v = v := (bareV_nrm v).ext h fun i hi => bareV_at v hi
theorem nrm_iff {v : List Int} : Nrm v ↔ v = bareV v := ⟨fun h => (bareV_id h).symm, fun h => by rw [h]; exact bareV_nrm v⟩
theorem coverV_iff {a b : List Int} : coverV a b = true ↔ ∀ i, i < 16 → vat b i ≤ vat a i := by
  unfold coverV; simp
theorem joinV_comm (a b : List Int) : joinV a b = joinV b a := (joinV_nrm a b).ext (joinV_nrm b a) fun i hi => by rw [joinV_at _ _ hi, joinV_at _ _ hi]; omega
theorem joinV_assoc (a b c : List Int) : joinV (joinV a b) c = joinV a (joinV b c) := (joinV_nrm _ c).ext (joinV_nrm a _) fun i hi => by
  rw [joinV_at _ _ hi, joinV_at _ _ hi, joinV_at _ _ hi, joinV_at _ _ hi]; omega
theorem joinV_self (a : List Int) : joinV a a = bareV a := (joinV_nrm a a).ext (bareV_nrm a) fun i hi => by rw [joinV_at _ _ hi, bareV_at _ hi]; omega
theorem joinV_left (a b : List Int) : coverV (joinV a b) a = true := coverV_iff.2 fun i hi => by rw [joinV_at _ _ hi]; omega
theorem joinV_right (a b : List Int) : coverV (joinV a b) b = true := coverV_iff.2 fun i hi => by rw [joinV_at _ _ hi]; omega
theorem joinV_least (a b c : List Int) : coverV c (joinV a b) = (coverV c a && coverV c b) := by
  rw [Bool.eq_iff_iff, Bool.and_eq_true, coverV_iff, coverV_iff, coverV_iff]
  constructor
  · intro h
    exact ⟨fun i hi => by have := h i hi; rw [joinV_at _ _ hi] at this; omega, fun i hi => by have := h i hi; rw [joinV_at _ _ hi] at this; omega⟩
  · rintro ⟨h1, h2⟩ i hi
    rw [joinV_at _ _ hi]
    have := h1 i hi; have := h2 i hi; omega
end Go.Proofs.Ytifoppnpgljphaa.Sh
