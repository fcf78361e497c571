/-
  Timers: their order; a heap as a list, with the places of the kinds; the document's list in order.
-/
import Derived.Test.YtphajbdkaikmpaaJa1
set_option linter.unusedVariables false
set_option linter.unusedSimpArgs false
namespace Go.Proofs.Ytphajbdkaikmpaa.Sh

set_option linter.unusedVariables false
set_option linter.unusedSimpArgs false
/-- A timer: its due tick, its kind. -/
abbrev Tm := Int × Int
def leT (a b : Tm) : Prop := a.1 < b.1 ∨ (a.1 = b.1 ∧ a.2 ≤ b.2)
def ltT (a b : Tm) : Prop := a.1 < b.1 ∨ (a.1 = b.1 ∧ a.2 < b.2)
instance (a b : Tm) : Decidable (leT a b) := by unfold leT; infer_instance
instance (a b : Tm) : Decidable (ltT a b) := by unfold ltT; infer_instance
theorem leT.trans {a b c : Tm} (h : leT a b) (k : leT b c) : leT a c := by unfold leT at *; omega
theorem ltT.le {a b : Tm} (h : ltT a b) : leT a b := by unfold leT ltT at *; omega
theorem ltT.trans {a b c : Tm} (h : ltT a b) (k : ltT b c) : ltT a c := by unfold ltT at *; omega
theorem leT.refl (a : Tm) : leT a a := by unfold leT; omega
theorem leT_of_not {a b : Tm} (h : ¬ ltT a b) : leT b a := by unfold leT ltT at *; omega
theorem not_ltT {a b : Tm} (h : leT a b) : ¬ ltT b a := by unfold leT ltT at *; omega
theorem leT.antisymm {a b : Tm} (h : leT a b) (k : leT b a) : a = b := by unfold leT at *; exact Prod.ext (by omega) (by omega)
theorem ltT_irrefl (a : Tm) : ¬ ltT a a := by unfold ltT; omega
def ofT (l : List Tm) (i : Nat) : Tm := l.getD i (0, 0)
theorem ofT_get {l : List Tm} {i : Nat} (h : i < l.length) : l[i]? = some (ofT l i) := by
  unfold ofT
  rw [List.getD_eq_getElem?_getD, List.getElem?_eq_getElem h]; rfl
theorem ofT_eq {l : List Tm} {i : Nat} {x : Tm} (h : l[i]? = some x) : ofT l i = x := by
  unfold ofT
  rw [List.getD_eq_getElem?_getD, h]; rfl
theorem ofT_mem {l : List Tm} {i : Nat} (h : i < l.length) : ofT l i ∈ l := List.mem_of_getElem? (ofT_get h)
theorem mem_ofT {l : List Tm} {x : Tm} (h : x ∈ l) : ∃ i, i < l.length ∧ ofT l i = x := by
  obtain ⟨i, hi⟩ := List.getElem?_of_mem h
  exact ⟨i, (List.getElem?_eq_some_iff.1 hi).1, ofT_eq hi⟩
theorem ofT_congr {l l' : List Tm} {i : Nat} (h : l[i]? = l'[i]?) : ofT l i = ofT l' i := by
  unfold ofT
  rw [List.getD_eq_getElem?_getD, List.getD_eq_getElem?_getD, h]
/-- Two of them exchanged. -/
def swT (l : List Tm) (i j : Nat) : List Tm := (l.set i (ofT l j)).set j (ofT l i)
theorem swT_length (l : List Tm) (i j : Nat) : (swT l i j).length = l.length := by unfold swT; rw [List.length_set, List.length_set]
theorem ofT_swT {l : List Tm} {i j : Nat} (hi : i < l.length) (hj : j < l.length) (k : Nat) : ofT (swT l i j) k = if k = j then ofT l i else if k = i then ofT l j else ofT l k := by
  unfold swT
  by_cases h1 : k = j
  · subst h1
    rw [if_pos rfl]
    exact ofT_eq (by rw [List.getElem?_set_self (by rw [List.length_set]; exact hj)])
  · rw [if_neg h1]
    by_cases h2 : k = i
    · subst h2
      rw [if_pos rfl]
      exact ofT_eq (by rw [List.getElem?_set_ne (fun e => h1 e.symm), List.getElem?_set_self hi])
    · rw [if_neg h2]
      exact ofT_congr (by rw [List.getElem?_set_ne (fun e => h1 e.symm), List.getElem?_set_ne (fun e => h2 e.symm)])
theorem swT_perm {l : List Tm} {i j : Nat} (hi : i < l.length) (hj : j < l.length) : (swT l i j).Perm l := by
  have h := List.set_set_perm hi hj
  have e1 : l[i] = ofT l i := (ofT_eq (List.getElem?_eq_getElem hi)).symm
  have e2 : l[j] = ofT l j := (ofT_eq (List.getElem?_eq_getElem hj)).symm
  rw [e1, e2] at h
  exact h

/-! ### the order of a heap, over its first n -/
def HeapN (g : Nat → Tm) (n : Nat) : Prop := ∀ k, 0 < k → k < n → leT (g ((k - 1) / 2)) (g k)
/-- All is in order but j against the one above it. -/
def UpI (g : Nat → Tm) (n j : Nat) : Prop := (∀ k, 0 < k → k < n → k ≠ j → leT (g ((k - 1) / 2)) (g k)) ∧ ∀ k, 0 < k → k < n → (k - 1) / 2 = j → 0 < j → leT (g ((j - 1) / 2)) (g k)
/-- All is in order but i against those below it, and, where it is i0, against the one above it. -/
def DnI (g : Nat → Tm) (n i i0 : Nat) : Prop := (∀ k, 0 < k → k < n → (k - 1) / 2 ≠ i → (k = i → i ≠ i0) → leT (g ((k - 1) / 2)) (g k)) ∧ ∀ k, 0 < k → k < n → (k - 1) / 2 = i → 0 < i → leT (g ((i - 1) / 2)) (g k)
/-- The least of those below i. -/
def Kid (g : Nat → Tm) (n i j : Nat) : Prop := (j - 1) / 2 = i ∧ 0 < j ∧ j < n ∧ ∀ k, 0 < k → k < n → (k - 1) / 2 = i → leT (g j) (g k)
theorem kid_one {g : Nat → Tm} {n i : Nat} (h : 2 * i + 1 < n) (h2 : 2 * i + 2 < n → leT (g (2 * i + 1)) (g (2 * i + 2))) : Kid g n i (2 * i + 1) := by
  refine ⟨by omega, by omega, h, fun k k0 kn kp => ?_⟩
  rcases (by omega : k = 2 * i + 1 ∨ k = 2 * i + 2) with rfl | rfl
  · exact leT.refl _
  · exact h2 kn
theorem kid_two {g : Nat → Tm} {n i : Nat} (h : 2 * i + 2 < n) (h2 : ltT (g (2 * i + 2)) (g (2 * i + 1))) : Kid g n i (2 * i + 2) := by
  refine ⟨by omega, by omega, h, fun k k0 kn kp => ?_⟩
  rcases (by omega : k = 2 * i + 1 ∨ k = 2 * i + 2) with rfl | rfl
  · exact h2.le
  · exact leT.refl _
theorem UpI.stop {g : Nat → Tm} {n j : Nat} (h : UpI g n j) (hs : j = 0 ∨ ¬ ltT (g j) (g ((j - 1) / 2))) : HeapN g n := fun k k0 kn => by
  by_cases e : k = j
  · subst e
    rcases hs with hs | hs
    · omega
    · exact leT_of_not hs
  · exact h.1 k k0 kn e
theorem UpI.step {g g' : Nat → Tm} {n j p : Nat} (h : UpI g n j) (hp : (j - 1) / 2 = p) (h0 : 0 < j) (hl : ltT (g j) (g p)) (e : ∀ k, g' k = if k = j then g p else if k = p then g j else g k) : UpI g' n p := by
  subst hp
  have ej : g' j = g ((j - 1) / 2) := by rw [e, if_pos rfl]
  have ep : g' ((j - 1) / 2) = g j := by rw [e, if_neg (by omega), if_pos rfl]
  have eo : ∀ k, k ≠ j → k ≠ (j - 1) / 2 → g' k = g k := fun k h1 h2 => by rw [e, if_neg h1, if_neg h2]
  refine ⟨fun k k0 kn kp => ?_, fun k k0 kn kp p0 => ?_⟩
  · by_cases hk : k = j
    · subst hk
      rw [ej, ep]; exact hl.le
    · rw [eo k hk kp]
      by_cases h1 : (k - 1) / 2 = j
      · rw [h1, ej]; exact h.2 k k0 kn h1 h0
      · by_cases h2 : (k - 1) / 2 = (j - 1) / 2
        · rw [h2, ep]
          have := h.1 k k0 kn hk
          rw [h2] at this
          exact hl.le.trans this
        · rw [eo _ h1 h2]; exact h.1 k k0 kn hk
  · rw [eo _ (by omega) (by omega)]
    have h3 : leT (g (((j - 1) / 2 - 1) / 2)) (g ((j - 1) / 2)) := h.1 ((j - 1) / 2) p0 (by omega) (by omega)
    by_cases hk : k = j
    · subst hk
      rw [ej]; exact h3
    · rw [eo k hk (by omega)]
      have := h.1 k k0 kn hk
      rw [kp] at this
      exact h3.trans this
theorem DnI.step {g g' : Nat → Tm} {n i i0 j : Nat} (h : DnI g n i i0) (hi : i0 ≤ i) (hk : Kid g n i j) (hl : ltT (g j) (g i)) (e : ∀ k, g' k = if k = j then g i else if k = i then g j else g k) : DnI g' n j i0 := by
  obtain ⟨k1, k2, k3, k4⟩ := hk
  have ij : i < j := by omega
  have ej : g' j = g i := by rw [e, if_pos rfl]
  have ei : g' i = g j := by rw [e, if_neg (by omega), if_pos rfl]
  have eo : ∀ k, k ≠ j → k ≠ i → g' k = g k := fun k h1 h2 => by rw [e, if_neg h1, if_neg h2]
  refine ⟨fun k q0 qn qp _ => ?_, fun k q0 qn qp _ => ?_⟩
  · by_cases hj : k = j
    · subst hj
      rw [k1, ej, ei]; exact hl.le
    · by_cases hki : k = i
      · subst hki
        rw [ei, eo _ qp (by omega)]
        exact h.2 j k2 k3 k1 q0
      · rw [eo k hj hki]
        by_cases hp : (k - 1) / 2 = i
        · rw [hp, ei]; exact k4 k q0 qn hp
        · rw [eo _ qp hp]
          exact h.1 k q0 qn hp (fun e => absurd e hki)
  · rw [k1, ei, eo k (by omega) (by omega)]
    have := h.1 k q0 qn (by omega) (fun e => by omega)
    rw [qp] at this
    exact this
theorem DnI.heap {g : Nat → Tm} {n i i0 : Nat} (h : DnI g n i i0) (hi : i0 < i) (hs : ∀ k, 0 < k → k < n → (k - 1) / 2 = i → leT (g i) (g k)) : HeapN g n := fun k k0 kn => by
  by_cases hp : (k - 1) / 2 = i
  · rw [hp]; exact hs k k0 kn hp
  · exact h.1 k k0 kn hp (fun _ => by omega)
theorem DnI.up {g : Nat → Tm} {n i : Nat} (h : DnI g n i i) (hs : ∀ k, 0 < k → k < n → (k - 1) / 2 = i → leT (g i) (g k)) : UpI g n i := ⟨fun k k0 kn ke => by
  by_cases hp : (k - 1) / 2 = i
  · rw [hp]; exact hs k k0 kn hp
  · exact h.1 k k0 kn hp (fun e => absurd e ke), h.2⟩
theorem Kid.stop {g : Nat → Tm} {n i j : Nat} (h : Kid g n i j) (hl : ¬ ltT (g j) (g i)) : ∀ k, 0 < k → k < n → (k - 1) / 2 = i → leT (g i) (g k) := fun k k0 kn kp => (leT_of_not hl).trans (h.2.2.2 k k0 kn kp)
/-- What is put into the place of another one may be out of order there, above or below. -/
theorem HeapN.dn {g g' : Nat → Tm} {n m p : Nat} (h : HeapN g n) (hm : m ≤ n) (e : ∀ k, k ≠ p → k < m → g' k = g k) : DnI g' m p p := by
  refine ⟨fun k k0 kn kp ke => ?_, fun k k0 kn kp p0 => ?_⟩
  · rw [e k (fun h => ke h rfl) kn, e _ kp (by omega)]
    exact h k k0 (by omega)
  · rw [e k (by omega) kn, e _ (by omega) (by omega)]
    have h1 := h k k0 (by omega)
    have h2 := h p p0 (by omega)
    rw [kp] at h1
    exact h2.trans h1
theorem HeapN.last {g g' : Nat → Tm} {n : Nat} (h : HeapN g n) (e : ∀ k, k < n → g' k = g k) : UpI g' (n + 1) n := by
  refine ⟨fun k k0 kn kp => ?_, fun k k0 kn kp p0 => by omega⟩
  rw [e k (by omega), e _ (by omega)]
  exact h k k0 (by omega)
theorem HeapN.first {g : Nat → Tm} {n : Nat} (h : HeapN g n) : ∀ k, k < n → leT (g 0) (g k) := by
  intro k
  induction k using Nat.strongRecOn with
  | ind k ih =>
    intro hk
    rcases Nat.eq_zero_or_pos k with rfl | k0
    · exact leT.refl _
    · exact (ih ((k - 1) / 2) (by omega) (by omega)).trans (h k k0 hk)
theorem HeapN.zero (g : Nat → Tm) : HeapN g 0 := fun k _ h => absurd h (by omega)

/-! ### the places of the kinds -/
def updP (f : Int → Option Int) (k : Int) (v : Option Int) : Int → Option Int := fun z => if z = k then v else f z
theorem updP_at (f : Int → Option Int) (k : Int) (v : Option Int) : updP f k v k = v := by unfold updP; rw [if_pos rfl]
theorem updP_ne (f : Int → Option Int) {k z : Int} (v : Option Int) (h : z ≠ k) : updP f k v z = f z := by unfold updP; rw [if_neg h]
def Pos (f : Int → Option Int) (l : List Tm) : Prop := (∀ i, i < l.length → f (ofT l i).2 = some (i : Int)) ∧ ∀ k p, f k = some p → ∃ i, i < l.length ∧ p = (i : Int) ∧ (ofT l i).2 = k
theorem Pos.inj {f : Int → Option Int} {l : List Tm} (h : Pos f l) {i j : Nat} (hi : i < l.length) (hj : j < l.length) (e : (ofT l i).2 = (ofT l j).2) : i = j := by
  have h1 := h.1 i hi
  have h2 := h.1 j hj
  rw [e, h2] at h1
  injection h1 with h1
  omega
theorem Pos.swap {f : Int → Option Int} {l : List Tm} (h : Pos f l) {i j : Nat} (hi : i < l.length) (hj : j < l.length) : Pos (updP (updP f (ofT (swT l i j) i).2 (some (i : Int))) (ofT (swT l i j) j).2 (some (j : Int))) (swT l i j) := by
  have ej : ofT (swT l i j) j = ofT l i := by rw [ofT_swT hi hj, if_pos rfl]
  have ei : ofT (swT l i j) i = ofT l j := by
    rw [ofT_swT hi hj]
    by_cases e : i = j
    · rw [if_pos e, e]
    · rw [if_neg e, if_pos rfl]
  refine ⟨fun k hk => ?_, fun z p hz => ?_⟩
  · rw [swT_length] at hk
    by_cases h1 : k = j
    · subst h1; rw [updP_at]
    · have hne : (ofT (swT l i j) k).2 ≠ (ofT (swT l i j) j).2 := by
        rw [ej, ofT_swT hi hj, if_neg h1]
        intro e2
        by_cases h2 : k = i
        · rw [if_pos h2] at e2
          have := h.inj hj hi e2
          omega
        · rw [if_neg h2] at e2
          exact h2 (h.inj hk hi e2)
      rw [updP_ne _ _ hne]
      by_cases h2 : k = i
      · subst h2; rw [updP_at]
      · have hne2 : (ofT (swT l i j) k).2 ≠ (ofT (swT l i j) i).2 := by
          rw [ei, ofT_swT hi hj, if_neg h1, if_neg h2]
          intro e2
          exact h1 (h.inj hk hj e2)
        rw [updP_ne _ _ hne2, ofT_swT hi hj, if_neg h1, if_neg h2]
        exact h.1 k hk
  · rw [swT_length]
    by_cases h1 : z = (ofT (swT l i j) j).2
    · subst h1
      rw [updP_at] at hz
      injection hz with hz
      exact ⟨j, hj, hz.symm, rfl⟩
    · rw [updP_ne _ _ h1] at hz
      by_cases h2 : z = (ofT (swT l i j) i).2
      · subst h2
        rw [updP_at] at hz
        injection hz with hz
        exact ⟨i, hi, hz.symm, rfl⟩
      · rw [updP_ne _ _ h2] at hz
        obtain ⟨k, hk, hp, he⟩ := h.2 z p hz
        refine ⟨k, hk, hp, ?_⟩
        rw [ofT_swT hi hj]
        by_cases hj' : k = j
        · subst hj'
          exact absurd (by rw [ei]; exact he.symm) h2
        · by_cases hi' : k = i
          · subst hi'
            exact absurd (by rw [ej]; exact he.symm) h1
          · rw [if_neg hj', if_neg hi']; exact he
/-- One more at the end. -/
theorem Pos.push {f : Int → Option Int} {l : List Tm} (h : Pos f l) {x : Tm} (hx : f x.2 = none) : Pos (updP f x.2 (some (l.length : Int))) (l ++ [x]) := by
  have e1 : ∀ i, i < l.length → ofT (l ++ [x]) i = ofT l i := fun i hi => ofT_congr (List.getElem?_append_left hi)
  have e2 : ofT (l ++ [x]) l.length = x := ofT_eq (by simp)
  refine ⟨fun i hi => ?_, fun z p hz => ?_⟩
  · rw [List.length_append, List.length_singleton] at hi
    rcases Nat.lt_or_ge i l.length with h1 | h1
    · rw [e1 i h1]
      have h2 := h.1 i h1
      rw [updP_ne _ _ (fun e => by rw [e, hx] at h2; cases h2)]
      exact h2
    · obtain rfl : i = l.length := by omega
      rw [e2, updP_at]
  · rw [List.length_append, List.length_singleton]
    by_cases h1 : z = x.2
    · subst h1
      rw [updP_at] at hz
      injection hz with hz
      exact ⟨l.length, by omega, hz.symm, by rw [e2]⟩
    · rw [updP_ne _ _ h1] at hz
      obtain ⟨i, hi, hp, he⟩ := h.2 z p hz
      exact ⟨i, by omega, hp, by rw [e1 i hi]; exact he⟩
/-- The one at the end is gone. -/
theorem Pos.pop {f : Int → Option Int} {l : List Tm} {n : Nat} (h : Pos f l) (hn : l.length = n + 1) : Pos (updP f (ofT l n).2 none) (l.take n) := by
  have hl : (l.take n).length = n := by rw [List.length_take]; omega
  have e1 : ∀ i, i < n → ofT (l.take n) i = ofT l i := fun i hi => ofT_congr (List.getElem?_take_of_lt hi)
  refine ⟨fun i hi => ?_, fun z p hz => ?_⟩
  · rw [hl] at hi
    rw [e1 i hi, updP_ne _ _ (fun e => by have := h.inj (by omega) (by omega) e; omega)]
    exact h.1 i (by omega)
  · by_cases h1 : z = (ofT l n).2
    · subst h1; rw [updP_at] at hz; cases hz
    · rw [updP_ne _ _ h1] at hz
      obtain ⟨i, hi, hp, he⟩ := h.2 z p hz
      have hin : i ≠ n := fun e => by subst e; exact h1 he.symm
      exact ⟨i, by omega, hp, by rw [e1 i (by omega)]; exact he⟩
/-- Another due tick. -/
theorem Pos.set {f : Int → Option Int} {l : List Tm} (h : Pos f l) {p : Nat} {d : Int} (hp : p < l.length) : Pos f (l.set p (d, (ofT l p).2)) := by
  have e : ∀ i, (ofT (l.set p (d, (ofT l p).2)) i).2 = (ofT l i).2 := fun i => by
    by_cases h1 : i = p
    · subst h1
      rw [ofT_eq (List.getElem?_set_self hp)]
    · rw [ofT_congr (List.getElem?_set_ne (fun e => h1 e.symm))]
  refine ⟨fun i hi => ?_, fun z q hz => ?_⟩
  · rw [e]; exact h.1 i (by simpa using hi)
  · obtain ⟨i, hi, hq, he⟩ := h.2 z q hz
    exact ⟨i, by simpa using hi, hq, by rw [e]; exact he⟩
theorem Pos.nil : Pos (fun _ => none) [] := ⟨fun i h => absurd h (by simp), fun k p h => by cases h⟩
theorem Pos.nodup {f : Int → Option Int} {l : List Tm} (h : Pos f l) : (l.map (·.2)).Nodup := by
  rw [List.nodup_iff_pairwise_ne, List.pairwise_iff_getElem]
  intro i j hi hj hij e
  rw [List.length_map] at hi hj
  rw [List.getElem_map, List.getElem_map] at e
  have e1 : l[i] = ofT l i := (ofT_eq (List.getElem?_eq_getElem hi)).symm
  have e2 : l[j] = ofT l j := (ofT_eq (List.getElem?_eq_getElem hj)).symm
  rw [e1, e2] at e
  have := h.inj hi hj e
  omega
theorem Pos.none {f : Int → Option Int} {l : List Tm} (h : Pos f l) (z : Int) : f z = none ↔ ∀ x ∈ l, x.2 ≠ z := by
  constructor
  · intro hz x hx e
    obtain ⟨i, hi, e2⟩ := mem_ofT hx
    have := h.1 i hi
    rw [e2, e, hz] at this
    cases this
  · intro hz
    cases hf : f z with
    | none => rfl
    | some p =>
      obtain ⟨i, hi, _, he⟩ := h.2 z p hf
      exact absurd he (hz _ (ofT_mem hi))

/-! ### the document's list -/
/-- All but those of the kind. -/
def noT (k : Int) (l : List Tm) : List Tm := l.filter fun x => x.2 != k
/-- One more, in its place. -/
def insT (x : Tm) : List Tm → List Tm
  | [] => [x]
  | y :: t => if ltT x y then x :: y :: t else y :: insT x t
theorem insT_perm (x : Tm) (l : List Tm) : (insT x l).Perm (x :: l) := by
  induction l with
  | nil => exact .refl _
  | cons y t ih =>
    unfold insT
    by_cases h : ltT x y
    · rw [if_pos h]
    · rw [if_neg h]
      exact (ih.cons y).trans (List.Perm.swap x y t)
theorem insT_sorted {x : Tm} {l : List Tm} (h : l.Pairwise ltT) (hx : ∀ y ∈ l, y.2 ≠ x.2) : (insT x l).Pairwise ltT := by
  induction l with
  | nil => exact List.pairwise_singleton _ _
  | cons y t ih =>
    unfold insT
    rw [List.pairwise_cons] at h
    by_cases hl : ltT x y
    · rw [if_pos hl, List.pairwise_cons, List.pairwise_cons]
      exact ⟨fun z hz => by
        rcases List.mem_cons.1 hz with rfl | hz
        · exact hl
        · exact hl.trans (h.1 z hz), h⟩
    · rw [if_neg hl, List.pairwise_cons]
      refine ⟨fun z hz => ?_, ih h.2 (fun z hz => hx z (List.mem_cons_of_mem _ hz))⟩
      rcases List.mem_cons.1 ((insT_perm x t).mem_iff.1 hz) with rfl | hz
      · have := hx y (List.mem_cons_self ..)
        unfold ltT at *; omega
      · exact h.1 z hz
theorem insT_length (x : Tm) (l : List Tm) : (insT x l).length = l.length + 1 := by rw [(insT_perm x l).length_eq]; rfl
theorem noT_sorted {l : List Tm} (k : Int) (h : l.Pairwise ltT) : (noT k l).Pairwise ltT := h.sublist List.filter_sublist
theorem mem_noT {k : Int} {l : List Tm} {x : Tm} : x ∈ noT k l ↔ x ∈ l ∧ x.2 ≠ k := by unfold noT; rw [List.mem_filter]; simp
theorem noT_self {k : Int} {l : List Tm} (h : ∀ x ∈ l, x.2 ≠ k) : noT k l = l := by
  unfold noT
  rw [List.filter_eq_self]
  intro x hx
  simpa using h x hx
theorem noT_perm {k : Int} {l l' : List Tm} (h : l.Perm l') : (noT k l).Perm (noT k l') := h.filter _
theorem noT_le (k : Int) (l : List Tm) : (noT k l).length ≤ l.length := List.length_filter_le _ _
/-- Of one kind there is one. -/
theorem noT_one {l : List Tm} {p : Nat} (hn : (l.map (·.2)).Nodup) (hp : p < l.length) : l.Perm (ofT l p :: noT (ofT l p).2 l) ∧ ∀ x, (l.set p x).Perm (x :: noT (ofT l p).2 l) := by
  induction l generalizing p with
  | nil => simp at hp
  | cons y t ih =>
    rw [List.map_cons, List.nodup_cons] at hn
    cases p with
    | zero =>
      have e : ofT (y :: t) 0 = y := rfl
      have h1 : noT y.2 (y :: t) = t := by
        show List.filter _ _ = _
        rw [List.filter_cons_of_neg (by simp)]
        exact noT_self (fun x hx e => hn.1 (e ▸ List.mem_map_of_mem hx))
      rw [e, h1]
      exact ⟨.refl _, fun x => by rw [List.set_cons_zero]⟩
    | succ p =>
      have e : ofT (y :: t) (p + 1) = ofT t p := rfl
      have hp' : p < t.length := by simpa using hp
      obtain ⟨i1, i2⟩ := ih hn.2 hp'
      have hy : y.2 ≠ (ofT t p).2 := fun e => hn.1 (e ▸ List.mem_map_of_mem (ofT_mem hp'))
      have h1 : noT (ofT t p).2 (y :: t) = y :: noT (ofT t p).2 t := by
        show List.filter _ _ = _
        rw [List.filter_cons_of_pos (by simpa using hy)]; rfl
      rw [e, h1]
      refine ⟨(i1.cons y).trans (List.Perm.swap _ _ _), fun x => ?_⟩
      rw [List.set_cons_succ]
      exact ((i2 x).cons y).trans (List.Perm.swap _ _ _)
theorem noT_lt {l : List Tm} {k : Int} (hn : (l.map (·.2)).Nodup) : (noT k l).length = l.length ∧ (∀ x ∈ l, x.2 ≠ k) ∨ (noT k l).length + 1 = l.length ∧ ∃ x ∈ l, x.2 = k := by
  by_cases h : ∃ x ∈ l, x.2 = k
  · obtain ⟨x, hx, rfl⟩ := h
    obtain ⟨p, hp, e⟩ := mem_ofT hx
    have := (noT_one hn hp).1.length_eq
    rw [e, List.length_cons] at this
    exact .inr ⟨this.symm, x, hx, rfl⟩
  · refine .inl ?_
    have h' : ∀ x ∈ l, x.2 ≠ k := fun x hx e => h ⟨x, hx, e⟩
    exact ⟨by rw [noT_self h'], h'⟩
/-- The list as a heap: what both hold. -/
structure TQ (T L : List Tm) (f : Int → Option Int) : Prop where
  heap : HeapN (ofT T) T.length
  pos : Pos f T
  perm : T.Perm L
  sort : L.Pairwise ltT
  max : L.length ≤ 64
theorem TQ.nodup {T L : List Tm} {f : Int → Option Int} (h : TQ T L f) : (L.map (·.2)).Nodup := (h.perm.map _).nodup_iff.1 h.pos.nodup
theorem TQ.len {T L : List Tm} {f : Int → Option Int} (h : TQ T L f) : T.length = L.length := h.perm.length_eq
theorem TQ.none {T L : List Tm} {f : Int → Option Int} (h : TQ T L f) (z : Int) : f z = none ↔ ∀ x ∈ L, x.2 ≠ z := by
  rw [h.pos.none]
  exact ⟨fun k x hx => k x (h.perm.mem_iff.2 hx), fun k x hx => k x (h.perm.mem_iff.1 hx)⟩
theorem TQ.first {T t : List Tm} {x : Tm} {f : Int → Option Int} (h : TQ T (x :: t) f) : ofT T 0 = x := by
  have hl : 0 < T.length := by rw [h.len]; simp
  obtain ⟨k, hk, e⟩ := mem_ofT (h.perm.mem_iff.2 (List.mem_cons_self ..))
  have h1 : leT (ofT T 0) x := e ▸ h.heap.first k hk
  rcases List.mem_cons.1 (h.perm.mem_iff.1 (ofT_mem hl)) with h2 | h2
  · exact h2
  · exact h1.antisymm ((List.pairwise_cons.1 h.sort).1 _ h2).le
theorem TQ.new : TQ [] [] (fun _ => .none) := ⟨.zero _, .nil, .refl _, List.Pairwise.nil, by simp⟩
/-- Sorted, it is the list. -/
theorem TQ.sorted {T L S : List Tm} {f : Int → Option Int} (h : TQ T L f) (hp : S.Perm T) (hs : S.Pairwise leT) : S = L :=
  List.Perm.eq_of_pairwise (le := leT) (fun a b _ _ h1 h2 => h1.antisymm h2) hs (h.sort.imp ltT.le) (hp.trans h.perm)
/-- A kind that is there gets another due tick. -/
theorem TQ.set {T L T' : List Tm} {f f' : Int → Option Int} {p : Nat} {k d : Int} (h : TQ T L f) (hf : f k = some (p : Int)) (hh : HeapN (ofT T') T'.length) (hpos : Pos f' T') (hp : T'.Perm (T.set p (d, k))) :
    TQ T' (insT (d, k) (noT k L)) f' ∧ (noT k L).length < L.length := by
  obtain ⟨i, hi, e, he⟩ := h.pos.2 k p hf
  obtain rfl : p = i := by omega
  have h1 := (noT_one h.pos.nodup hi).2 (d, k)
  rw [he] at h1
  have h2 : T'.Perm ((d, k) :: noT k L) := hp.trans (h1.trans ((noT_perm h.perm).cons _))
  have h3 := (noT_one h.pos.nodup hi).1.length_eq
  rw [he, List.length_cons, (noT_perm h.perm).length_eq, h.len] at h3
  refine ⟨⟨hh, hpos, h2.trans (insT_perm _ _).symm, insT_sorted (noT_sorted k h.sort) (fun y hy => (mem_noT.1 hy).2), ?_⟩, by omega⟩
  rw [insT_length]
  have := h.max
  omega
/-- A kind that is not there is added. -/
theorem TQ.add {T L T' : List Tm} {f f' : Int → Option Int} {k d : Int} (h : TQ T L f) (hf : f k = .none) (hl : L.length < 64) (hh : HeapN (ofT T') T'.length) (hpos : Pos f' T') (hp : T'.Perm (T ++ [(d, k)])) :
    TQ T' (insT (d, k) (noT k L)) f' := by
  have h0 := (h.none k).1 hf
  rw [noT_self h0]
  exact ⟨hh, hpos, hp.trans ((List.perm_append_singleton _ _).trans ((h.perm.cons _).trans (insT_perm _ _).symm)), insT_sorted h.sort h0, by rw [insT_length]; omega⟩
/-- One is removed. -/
theorem TQ.del {T L T' : List Tm} {f f' : Int → Option Int} {p : Nat} (h : TQ T L f) (hp : p < T.length) (hh : HeapN (ofT T') T'.length) (hpos : Pos f' T') (hpm : (T' ++ [ofT T p]).Perm T) : TQ T' (noT (ofT T p).2 L) f' := by
  have h1 := (noT_one h.pos.nodup hp).1
  have h2 : T'.Perm (noT (ofT T p).2 T) := List.Perm.cons_inv ((List.perm_append_singleton _ _).symm.trans (hpm.trans h1))
  exact ⟨hh, hpos, h2.trans (noT_perm h.perm), noT_sorted _ h.sort, Nat.le_trans (noT_le _ _) h.max⟩
theorem TQ.tail {T t : List Tm} {x : Tm} {f : Int → Option Int} (h : TQ T (x :: t) f) : noT x.2 (x :: t) = t := by
  have hn := h.nodup
  rw [List.map_cons, List.nodup_cons] at hn
  show List.filter _ _ = _
  rw [List.filter_cons_of_neg (by simp)]
  exact noT_self (fun y hy e => hn.1 (e ▸ List.mem_map_of_mem hy))
end Go.Proofs.Ytphajbdkaikmpaa.Sh
