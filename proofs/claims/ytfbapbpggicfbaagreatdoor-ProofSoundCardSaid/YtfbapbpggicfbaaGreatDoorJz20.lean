/-
  Sorting in place, on lists of credentials: what an exchange of neighbours, an insertion, a rotation, a merge leave. Plain lemmas.
-/
import Derived.Test.YtfbapbpggicfbaaGreatDoorJz4
import Derived.Test.YtfbapbpggicfbaaGreatDoorJz8
import Derived.Test.YtfbapbpggicfbaaGreatDoorJz15
set_option linter.unusedVariables false
set_option linter.unusedSimpArgs false
namespace Go.Proofs.YtfbapbpggicfbaaGreatDoor.Sh
open Go Go.RowKit

/-- The same credentials of each ID, in the same order. -/
def SameF (a b : List Crd) : Prop := ∀ d q, a.filter (idIs d q) = b.filter (idIs d q)
/-- l' is l with what lies from a to b put into another order, those of one ID in theirs. -/
structure Mix (a b : Nat) (l l' : List Crd) : Prop where
  len : l'.length = l.length
  same : SameF l' l
  out : ∀ k, k < a ∨ b ≤ k → l'[k]? = l[k]?
  inn : ∀ k x, a ≤ k → k < b → l'[k]? = some x → ∃ j, a ≤ j ∧ j < b ∧ l[j]? = some x
/-- From a to b none behind stands ahead. -/
def Srt (a b : Nat) (l : List Crd) : Prop := ∀ i j x y, a ≤ i → i < j → j < b → l[i]? = some x → l[j]? = some y → bef y x = false
theorem Mix.refl (a b : Nat) (l : List Crd) : Mix a b l l := ⟨rfl, fun _ _ => rfl, fun _ _ => rfl, fun k _ h1 h2 h => ⟨k, h1, h2, h⟩⟩
theorem Mix.trans {a b : Nat} {l l' l'' : List Crd} (h : Mix a b l l') (h' : Mix a b l' l'') : Mix a b l l'' :=
  ⟨h'.len.trans h.len, fun d q => (h'.same d q).trans (h.same d q), fun k hk => (h'.out k hk).trans (h.out k hk), fun k x h1 h2 hx => by
    obtain ⟨j, g1, g2, g3⟩ := h'.inn k x h1 h2 hx
    exact h.inn j x g1 g2 g3⟩
theorem Mix.wide {a b a' b' : Nat} {l l' : List Crd} (h : Mix a b l l') (ha : a' ≤ a) (hb : b ≤ b') : Mix a' b' l l' :=
  ⟨h.len, h.same, fun k hk => h.out k (by omega), fun k x h1 h2 hx => by
    by_cases hin : a ≤ k ∧ k < b
    · obtain ⟨j, g1, g2, g3⟩ := h.inn k x hin.1 hin.2 hx
      exact ⟨j, by omega, by omega, g3⟩
    · rw [h.out k (by omega)] at hx
      exact ⟨k, h1, h2, hx⟩⟩
theorem Srt.out {a b c d : Nat} {l l' : List Crd} (h : Srt c d l) (hm : Mix a b l l') (hd : d ≤ a ∨ b ≤ c) : Srt c d l' := fun i j x y h1 h2 h3 hx hy => by
  rw [hm.out i (by omega)] at hx
  rw [hm.out j (by omega)] at hy
  exact h i j x y h1 h2 h3 hx hy
theorem Srt.less {a b c d : Nat} {l : List Crd} (h : Srt a b l) (h1 : a ≤ c) (h2 : d ≤ b) : Srt c d l := fun i j x y g1 g2 g3 hx hy => h i j x y (by omega) g2 (by omega) hx hy
theorem Srt.one {a b : Nat} {l : List Crd} (h : b ≤ a + 1) : Srt a b l := fun i j _ _ _ _ _ => by omega
theorem Srt.full {l : List Crd} (h : Srt 0 l.length l) : Sd l := by
  unfold Sd
  rw [List.pairwise_iff_getElem]
  intro i j hi hj hij
  exact h i j _ _ (Nat.zero_le _) hij hj (List.getElem?_eq_getElem hi) (List.getElem?_eq_getElem hj)
theorem Mix.sorts {l l' : List Crd} (h : Mix 0 l.length l l') (hs : Srt 0 l.length l') : SortOf l' l := ⟨Srt.full (by rw [h.len]; exact hs), h.same⟩

theorem bef_id {x y : Crd} (h : bef y x = true) (d q : Int) : ¬ (idIs d q x = true ∧ idIs d q y = true) := fun ⟨h1, h2⟩ => by
  unfold idIs at h1 h2
  unfold bef at h
  simp only [decide_eq_true_eq] at h h1 h2
  omega
/-- Two parts exchanged, each of the second ahead of each of the first. -/
theorem same_swap (P X Y S : List Crd) (h : ∀ x ∈ X, ∀ y ∈ Y, bef y x = true) : SameF (P ++ Y ++ X ++ S) (P ++ X ++ Y ++ S) := fun d q => by
  have hxy : Y.filter (idIs d q) ++ X.filter (idIs d q) = X.filter (idIs d q) ++ Y.filter (idIs d q) := by
    cases hX : X.filter (idIs d q) with
    | nil => simp
    | cons x t =>
      cases hY : Y.filter (idIs d q) with
      | nil => simp
      | cons y s =>
        have hx : x ∈ X.filter (idIs d q) := by rw [hX]; simp
        have hy : y ∈ Y.filter (idIs d q) := by rw [hY]; simp
        rw [List.mem_filter] at hx hy
        exact absurd ⟨hx.2, hy.2⟩ (bef_id (h x hx.1 y hy.1) d q)
  simp only [List.filter_append, List.append_assoc]
  rw [← List.append_assoc (Y.filter _), hxy, List.append_assoc]
theorem mid_get {P X S : List Crd} {k : Nat} (h1 : P.length ≤ k) (h2 : k < P.length + X.length) : (P ++ X ++ S)[k]? = X[k - P.length]? := by
  rw [List.append_assoc, List.getElem?_append_right h1, List.getElem?_append_left (by omega)]
theorem mix_swap (P X Y S : List Crd) (h : ∀ x ∈ X, ∀ y ∈ Y, bef y x = true) : Mix P.length (P.length + X.length + Y.length) (P ++ X ++ Y ++ S) (P ++ Y ++ X ++ S) := by
  refine ⟨by simp; omega, same_swap P X Y S h, fun k hk => ?_, fun k x h1 h2 hx => ?_⟩
  · rcases hk with hk | hk
    · simp only [List.append_assoc]
      rw [List.getElem?_append_left hk, List.getElem?_append_left hk]
    · rw [List.getElem?_append_right (by simp; omega), List.getElem?_append_right (by simp; omega)]
      congr 1
      simp
      omega
  · rw [List.append_assoc P Y X, mid_get h1 (by rw [List.length_append]; omega)] at hx
    have hm : x ∈ X ++ Y := by
      rcases List.mem_append.1 (List.mem_of_getElem? hx) with h | h
      · exact List.mem_append.2 (.inr h)
      · exact List.mem_append.2 (.inl h)
    obtain ⟨j, hj⟩ := List.getElem?_of_mem hm
    have hjl := (List.getElem?_eq_some_iff.1 hj).1
    rw [List.length_append] at hjl
    refine ⟨P.length + j, by omega, by omega, ?_⟩
    rw [List.append_assoc P X Y, mid_get (by omega) (by rw [List.length_append]; omega), show P.length + j - P.length = j by omega]
    exact hj
/-- A list around two places side by side. -/
theorem cut_two {l : List Crd} {k : Nat} {x y : Crd} (hx : l[k]? = some x) (hy : l[k + 1]? = some y) : l = l.take k ++ [x] ++ [y] ++ l.drop (k + 2) ∧ (l.take k).length = k := by
  have h1 := (List.getElem?_eq_some_iff.1 hx)
  have h2 := (List.getElem?_eq_some_iff.1 hy)
  obtain ⟨g1, e1⟩ := h1
  obtain ⟨g2, e2⟩ := h2
  refine ⟨?_, by rw [List.length_take]; omega⟩
  conv => lhs; rw [← List.take_append_drop k l, List.drop_eq_getElem_cons g1, List.drop_eq_getElem_cons g2, e1, e2]
  simp
/-- Neighbours exchanged, the one behind being ahead. -/
theorem mix_adj {l : List Crd} {k : Nat} {x y : Crd} (hx : l[k]? = some x) (hy : l[k + 1]? = some y) (h : bef y x = true) : Mix k (k + 2) l ((l.set k y).set (k + 1) x) := by
  obtain ⟨e, hk⟩ := cut_two hx hy
  have hm := mix_swap (l.take k) [x] [y] (l.drop (k + 2)) (fun a ha b hb => by rw [List.mem_singleton.1 ha, List.mem_singleton.1 hb]; exact h)
  have e2 : (l.set k y).set (k + 1) x = l.take k ++ [y] ++ [x] ++ l.drop (k + 2) := by
    have hl := (List.getElem?_eq_some_iff.1 hy).1
    refine List.ext_getElem? fun t => ?_
    rw [List.getElem?_set, List.getElem?_set]
    simp only [List.append_assoc, List.cons_append, List.nil_append]
    by_cases h1 : k + 1 = t
    · subst h1
      rw [if_pos rfl, if_pos (by simp; omega), List.getElem?_append_right (by omega)]
      simp [hk]
    · rw [if_neg h1]
      by_cases h2 : k = t
      · subst h2
        rw [if_pos rfl, if_pos (by omega), List.getElem?_append_right (by omega)]
        simp [hk]
      · rw [if_neg h2]
        by_cases h3 : t < k
        · rw [List.getElem?_append_left (by omega), List.getElem?_take, if_pos h3]
        · rw [List.getElem?_append_right (by omega), hk]
          obtain ⟨u, rfl⟩ : ∃ u, t = k + 2 + u := ⟨t - (k + 2), by omega⟩
          rw [show k + 2 + u - k = u + 2 by omega]
          simp [List.getElem?_drop]
  rw [hk] at hm
  rw [← e, ← e2] at hm
  exact hm
theorem mix_adj' {l : List Crd} {k : Nat} {x y : Crd} (hx : l[k]? = some x) (hy : l[k + 1]? = some y) (h : bef y x = true) : Mix k (k + 2) l ((l.set (k + 1) x).set k y) := by
  rw [List.set_comm _ _ (by omega)]
  exact mix_adj hx hy h

/-! ### one credential moved down: from i to j -/
/-- cur is l with x, that stood at i, at j, what stood from j to i one place on. -/
structure Dn (l cur : List Crd) (j i : Nat) (x : Crd) : Prop where
  at_ : cur[j]? = some x
  mid : ∀ t, j < t → t ≤ i → cur[t]? = l[t - 1]?
  out : ∀ t, t < j ∨ i < t → cur[t]? = l[t]?
  len : cur.length = l.length
  le : j ≤ i
theorem Dn.start {l : List Crd} {i : Nat} {x : Crd} (h : l[i]? = some x) : Dn l l i i x := ⟨h, fun t h1 h2 => by omega, fun _ _ => rfl, rfl, Nat.le_refl _⟩
theorem Dn.step {l cur : List Crd} {j i : Nat} {x y : Crd} (h : Dn l cur (j + 1) i x) (hy : cur[j]? = some y) : Dn l ((cur.set (j + 1) y).set j x) j i x := by
  have h1 := (List.getElem?_eq_some_iff.1 h.at_).1
  have h2 := (List.getElem?_eq_some_iff.1 hy).1
  have hle := h.le
  refine ⟨?_, fun t g1 g2 => ?_, fun t g => ?_, by simp [h.len], by omega⟩
  · rw [List.getElem?_set, if_pos rfl, if_pos (by rw [List.length_set]; omega)]
  · rw [List.getElem?_set, if_neg (by omega), List.getElem?_set]
    by_cases e : j + 1 = t
    · subst e
      rw [if_pos rfl, if_pos (by omega), ← hy, h.out j (.inl (by omega))]
      rfl
    · rw [if_neg e, h.mid t (by omega) g2]
  · rw [List.getElem?_set, if_neg (by omega), List.getElem?_set, if_neg (by omega), h.out t (by omega)]
theorem Dn.ahead {l cur : List Crd} {j i : Nat} {x : Crd} (h : Dn l cur j i x) {t : Nat} (ht : t < j) : cur[t]? = l[t]? := h.out t (.inl ht)
/-- It is sorted then: what stood ahead was, and x stands where it is to stand. -/
theorem Dn.srt {l cur : List Crd} {a j i : Nat} {x : Crd} (h : Dn l cur j i x) (ha : a ≤ j) (hs : Srt a i l) (h1 : ∀ t y, j ≤ t → t < i → l[t]? = some y → bef x y = true) (h2 : ∀ t y, a ≤ t → t < j → l[t]? = some y → bef x y = false) : Srt a (i + 1) cur := by
  intro p q u v g1 g2 g3 hu hv
  have hle := h.le
  rcases Nat.lt_trichotomy p j with hp | hp | hp
  · rw [h.out p (.inl hp)] at hu
    rcases Nat.lt_trichotomy q j with hq | hq | hq
    · rw [h.out q (.inl hq)] at hv
      exact hs p q u v g1 g2 (by omega) hu hv
    · subst hq
      rw [h.at_] at hv
      injection hv with hv
      subst hv
      exact h2 p u g1 hp hu
    · rw [h.mid q hq (by omega)] at hv
      exact hs p (q - 1) u v g1 (by omega) (by omega) hu hv
  · subst hp
    rw [h.at_] at hu
    injection hu with hu
    subst hu
    rw [h.mid q g2 (by omega)] at hv
    exact bef_asymm (h1 (q - 1) v (by omega) (by omega) hv)
  · rw [h.mid p hp (by omega)] at hu
    rw [h.mid q (by omega) (by omega)] at hv
    exact hs (p - 1) (q - 1) u v (by omega) (by omega) (by omega) hu hv

/-! ### one credential moved up: from a to k -/
structure Up (l cur : List Crd) (a k : Nat) (x : Crd) : Prop where
  at_ : cur[k]? = some x
  mid : ∀ t, a ≤ t → t < k → cur[t]? = l[t + 1]?
  out : ∀ t, t < a ∨ k < t → cur[t]? = l[t]?
  len : cur.length = l.length
  le : a ≤ k
theorem Up.start {l : List Crd} {a : Nat} {x : Crd} (h : l[a]? = some x) : Up l l a a x := ⟨h, fun t h1 h2 => by omega, fun _ _ => rfl, rfl, Nat.le_refl _⟩
theorem Up.step {l cur : List Crd} {a k : Nat} {x y : Crd} (h : Up l cur a k x) (hy : cur[k + 1]? = some y) : Up l ((cur.set k y).set (k + 1) x) a (k + 1) x := by
  have h1 := (List.getElem?_eq_some_iff.1 hy).1
  have hle := h.le
  refine ⟨?_, fun t g1 g2 => ?_, fun t g => ?_, by simp [h.len], by omega⟩
  · rw [List.getElem?_set, if_pos rfl, if_pos (by rw [List.length_set]; omega)]
  · rw [List.getElem?_set, if_neg (by omega), List.getElem?_set]
    by_cases e : k = t
    · subst e
      rw [if_pos rfl, if_pos (by omega), ← hy, h.out (k + 1) (.inr (by omega))]
    · rw [if_neg e, h.mid t g1 (by omega)]
  · rw [List.getElem?_set, if_neg (by omega), List.getElem?_set, if_neg (by omega), h.out t (by omega)]
theorem Up.srt {l cur : List Crd} {a k b : Nat} {x : Crd} (h : Up l cur a k x) (hkb : k < b) (hs : Srt (a + 1) b l) (h1 : ∀ t y, a < t → t ≤ k → l[t]? = some y → bef y x = true) (h2 : ∀ t y, k < t → t < b → l[t]? = some y → bef y x = false) : Srt a b cur := by
  intro p q u v g1 g2 g3 hu hv
  have hle := h.le
  rcases Nat.lt_trichotomy p k with hp | hp | hp
  · rw [h.mid p g1 hp] at hu
    rcases Nat.lt_trichotomy q k with hq | hq | hq
    · rw [h.mid q (by omega) hq] at hv
      exact hs (p + 1) (q + 1) u v (by omega) (by omega) (by omega) hu hv
    · subst hq
      rw [h.at_] at hv
      injection hv with hv
      subst hv
      exact bef_asymm (h1 (p + 1) u (by omega) (by omega) hu)
    · rw [h.out q (.inr hq)] at hv
      exact hs (p + 1) q u v (by omega) (by omega) g3 hu hv
  · subst hp
    rw [h.at_] at hu
    injection hu with hu
    subst hu
    rw [h.out q (.inr g2)] at hv
    exact h2 q v g2 g3 hv
  · rw [h.out p (.inr hp)] at hu
    rw [h.out q (.inr (by omega))] at hv
    exact hs p q u v (by omega) g2 g3 hu hv
end Go.Proofs.YtfbapbpggicfbaaGreatDoor.Sh
/-
  A row of credentials of the call's own; the two closures (the order of IDs, the same ID) by contract.
-/
namespace Go.Proofs.YtfbapbpggicfbaaGreatDoor.Sh
open Go Go.RowKit

/-- Block g holds the credentials l, and behind them tl. -/
def RowL (w : World) (g : Nat) (tl : List Value) (l : List Crd) : Prop := w.heap[g]? = some (.cells (cv l ++ tl).toArray 43 (0, 0))
theorem set_cells (g : Nat) (t : TypeId) : ∀ (vs us P Q : List Value) (w : World), us.length = vs.length → w.heap[g]? = some (.cells (P ++ us ++ Q).toArray t (0, 0)) → (w.setCells g P.length vs).heap[g]? = some (.cells (P ++ vs ++ Q).toArray t (0, 0))
  | [], us, P, Q, w, hl, h => by
    obtain rfl : us = [] := List.eq_nil_of_length_eq_zero hl
    exact h
  | v :: r, [], P, Q, w, hl, h => by simp at hl
  | v :: r, u :: s, P, Q, w, hl, h => by
    have h1 : (w.setCell ⟨g, P.length, none⟩ v).heap[g]? = some (.cells ((P ++ [v]) ++ s ++ Q).toArray t (0, 0)) := by
      have := heap_setCell_same w g P.length _ _ v h
      rw [this]
      congr 2
      simp
    have := set_cells g t r s (P ++ [v]) Q (w.setCell ⟨g, P.length, none⟩ v) (by simpa using hl) h1
    rw [List.length_append, List.length_singleton] at this
    rw [World.setCells]
    rw [this]
    congr 2
    simp
section
variable {w w' : World} {g j : Nat} {tl : List Value} {l : List Crd} {x : Crd}
theorem RowL.lt (h : RowL w g tl l) : g < w.heap.size := (Array.getElem?_eq_some_iff.1 h).1
theorem RowL.kept (h : RowL w g tl l) (hb : Below w.heap.size w w') : RowL w' g tl l := (hb.block g h.lt).trans h
theorem RowL.drew (h : RowL w g tl l) : RowL w.drew g tl l := h
theorem RowL.f (h : RowL w g tl l) (k : Nat) : w.frozen? ⟨g, k, none⟩ = false := frozen_of_row w g k _ _ h
theorem RowL.cell (h : RowL w g tl l) (hj : l[j]? = some x) {i : Nat} {v : Value} (hv : x.cells[i]? = some v) : w.cell? ⟨g, j * 9 + i, none⟩ = some v := by
  have hi : i < 9 := (List.getElem?_eq_some_iff.1 hv).1
  have hlt := (List.getElem?_eq_some_iff.1 hj).1
  rw [cell_of_row w g _ _ _ (0, 0) h, List.getElem?_toArray, List.getElem?_append_left (by rw [cv_length]; omega), cv_get hj hi, hv]
theorem RowL.range (h : RowL w g tl l) (hj : l[j]? = some x) : w.rangeAt g (j * 9) x.cells := fun _ _ hv => h.cell hj hv
theorem RowL.thereL (h : RowL w g tl l) (hj : j < l.length) : w.there g (j * 9) 9 := fun i hi => by
  refine ⟨?_, h.f _⟩
  rw [h.cell (List.getElem?_eq_getElem hj) (i := i) (List.getElem?_eq_getElem (by rw [cells_len]; exact hi))]
  rfl
theorem RowL.there (h : RowL w g tl l) (hj : l[j]? = some x) : w.there g (j * 9) 9 := h.thereL (List.getElem?_eq_some_iff.1 hj).1
theorem cells_one (c : Crd) : ∀ v ∈ c.cells, v.oneCell' = true := fun v hv => cv_one [c] v (by simpa [cv] using hv)
theorem RowL.thereC (h : RowL w g tl l) (hj : j < l.length) (y : Crd) : w.there g (j * 9) y.cells.toArray.size := h.thereL hj
theorem info_credC (y : Crd) : (Tryz.prog.info? 43).map (·.size) = some y.cells.toArray.size := info_cred
theorem info_credL (y : Crd) : (Tryz.prog.info? 43).map (·.size) = some y.cells.length := info_cred
theorem one_credC (y : Crd) : y.cells.toArray.all (·.oneCell') = true := all_oneCell_toArray (cells_one y)
theorem cv_set (l : List Crd) (j : Nat) (y : Crd) (h : j < l.length) : cv (l.set j y) = cv (l.take j) ++ y.cells ++ cv (l.drop (j + 1)) := by
  rw [List.set_eq_take_append_cons_drop, if_pos h, cv_append, cv, List.append_assoc]
theorem RowL.set (h : RowL w g tl l) (hj : j < l.length) (y : Crd) : RowL (w.setCells g (j * 9) y.cells) g tl (l.set j y) := by
  unfold RowL at h ⊢
  have hsp : cv l = cv (l.take j) ++ (l[j]).cells ++ cv (l.drop (j + 1)) := by
    conv => lhs; rw [← List.take_append_drop j l, List.drop_eq_getElem_cons hj]
    rw [cv_append, cv, List.append_assoc]
  have hP : (cv (l.take j)).length = j * 9 := by rw [cv_length, List.length_take]; omega
  rw [hsp, List.append_assoc] at h
  have := set_cells g 43 y.cells (l[j]).cells (cv (l.take j)) (cv (l.drop (j + 1)) ++ tl) w rfl h
  rw [hP] at this
  rw [this, cv_set l j y hj]
  simp only [List.append_assoc]
end
theorem addr_row (g k : Nat) : Addr.add ⟨g, 0, none⟩ k = ⟨g, k, none⟩ := by
  unfold Addr.add
  by_cases h : k = 0
  · subst h; simp
  · simp [h]
/-- WHAT A WALK IS TOLD OF ONE ELEMENT: its address under a letter, its nine cells, none frozen. -/
theorem RowL.elem {w : World} {g j : Nat} {tl : List Value} {l : List Crd} {d q kd : Int} {nm wh ao an bo bn : ByteArray} (h : RowL w g tl l) (hj : l[j]? = some ⟨d, q, nm, kd, wh, ao, an, bo, bn⟩) :
    w.cell? ⟨g, j * 9, none⟩ = some (.int .i64 d) ∧ w.cell? ⟨g, j * 9 + 1, none⟩ = some (.int .i64 q) ∧ w.cell? ⟨g, j * 9 + 2, none⟩ = some (.string nm) ∧ w.cell? ⟨g, j * 9 + 3, none⟩ = some (.int .i64 kd) ∧ w.cell? ⟨g, j * 9 + 4, none⟩ = some (.string wh) ∧
    w.cell? ⟨g, j * 9 + 5, none⟩ = some (.string ao) ∧ w.cell? ⟨g, j * 9 + 6, none⟩ = some (.string an) ∧ w.cell? ⟨g, j * 9 + 7, none⟩ = some (.string bo) ∧ w.cell? ⟨g, j * 9 + 8, none⟩ = some (.string bn) :=
  ⟨h.cell hj (i := 0) rfl, h.cell hj (i := 1) rfl, h.cell hj (i := 2) rfl, h.cell hj (i := 3) rfl, h.cell hj (i := 4) rfl, h.cell hj (i := 5) rfl, h.cell hj (i := 6) rfl, h.cell hj (i := 7) rfl, h.cell hj (i := 8) rfl⟩

/-- The row under way: block g holds l (and tl behind), nothing below B has turned since w0. -/
structure Rw (w0 w : World) (B g : Nat) (tl : List Value) (l : List Crd) : Prop where
  row : RowL w g tl l
  bel : Below B w0 w
  hB : B ≤ g
section
variable {w0 w w' : World} {B g j : Nat} {tl : List Value} {l : List Crd}
theorem Rw.kept (h : Rw w0 w B g tl l) (hb : Below w.heap.size w w') : Rw w0 w' B g tl l := ⟨h.row.kept hb, h.bel.trans (hb.mono (by have := h.row.lt; have := h.hB; omega)), h.hB⟩
theorem Rw.drew (h : Rw w0 w B g tl l) : Rw w0 w.drew B g tl l := ⟨h.row, h.bel.drew, h.hB⟩
theorem Rw.set (h : Rw w0 w B g tl l) (hj : j < l.length) (y : Crd) : Rw w0 (w.setCells g (j * 9) y.cells) B g tl (l.set j y) := ⟨h.row.set hj y, below_setCells h.hB _ _ _ h.bel, h.hB⟩
theorem Rw.le (h : Rw w0 w B g tl l) : B ≤ w.heap.size := by have := h.row.lt; have := h.hB; omega
end

/-! ### the closures -/
def cmpI (a b : Crd) : Int := if bef a b = true then -1 else if bef b a = true then 1 else 0
theorem cmpI_neg (a b : Crd) : decide (cmpI a b < 0) = bef a b := by
  unfold cmpI
  cases h : bef a b with
  | true => rfl
  | false => cases h2 : bef b a <;> rfl
theorem two_cr (w : World) (a b : Crd) : CrAt ((w.alloc (.cells a.cells.toArray 43)).alloc (.cells b.cells.toArray 43)) w.heap.size a ∧ CrAt ((w.alloc (.cells a.cells.toArray 43)).alloc (.cells b.cells.toArray 43)) (w.heap.size + 1) b ∧
    Below w.heap.size w ((w.alloc (.cells a.cells.toArray 43)).alloc (.cells b.cells.toArray 43)) :=
  ⟨(CrAt.new w a).kept (below_cr _ _), by have := CrAt.new (w.alloc (.cells a.cells.toArray 43)) b; rwa [World.size_alloc] at this, (below_cr w a).trans ((below_cr _ b).mono (by rw [World.size_alloc]; exact Nat.le_succ _))⟩
set_option maxHeartbeats 2000000 in
theorem cmpC_any (a b : Crd) (w : World) : Calls Tryz.prog 50 #[.agg a.cells.toArray, .agg b.cells.toArray] w fun e w' => e = .returned (.int .i64 (cmpI a b)) ∧ Below w.heap.size w w' := by
  obtain ⟨w1, hw1⟩ : ∃ w1, w1 = (w.alloc (.cells a.cells.toArray 43)).alloc (.cells b.cells.toArray 43) := ⟨_, rfl⟩
  obtain ⟨r1, s1, b1⟩ := two_cr w a b
  rw [← hw1] at r1 s1 b1
  have HA := hid (fun w => before_any a.d a.q b.d b.q w)
  have HB := hid (fun w => before_any b.d b.q a.d a.q w)
  have eA : beforeI a.d a.q b.d b.q = bef a b := rfl
  have eB : beforeI b.d b.q a.d a.q = bef b a := rfl
  have HC : Hid (cmpI a b = if bef a b = true then -1 else if bef b a = true then 1 else 0) := hid rfl
  rw [eA] at HA
  rw [eB] at HB
  obtain ⟨x, hx⟩ : ∃ x, bef a b = x := ⟨_, rfl⟩
  obtain ⟨y, hy⟩ : ∃ y, bef b a = y := ⟨_, rfl⟩
  rw [hx] at HA HC
  rw [hy] at HB HC
  clear eA eB hx hy
  have R1 := hid r1
  have S1 := hid s1
  have B1 := hid b1
  clear r1 s1 b1
  obtain ⟨d, q, nm, kd, wh, ao, an, bo, bn⟩ := a
  obtain ⟨d', q', nm', kd', wh', ao', an', bo', bn'⟩ := b
  unfold Crd.cells at hw1 ⊢
  simp only at hw1 HA HB ⊢
  have c0 := R1.out.cell 0 _ rfl
  have c1 := R1.out.cell 1 _ rfl
  have z0 := S1.out.cell 0 _ rfl
  have z1 := S1.out.cell 1 _ rfl
  simp only at c0 c1 z0 z1
  go_enter Tryz.func50, Tryz.ntmps50
  rw [hw1] at c0 c1 z0 z1
  go_wp2_with fail
  rw [← hw1] at c0 c1 z0 z1 ⊢
  clear hw1
  refine (HA.out _).mono ?_
  rintro er w2 ⟨rfl, bb⟩
  have R2 := hid (R1.out.kept bb)
  have S2 := hid (S1.out.kept bb)
  have B2 := hid (B1.out.trans (bb.mono B1.out.size))
  clear bb c0 c1 z0 z1
  cases x with
  | true =>
    have HF : Hid (cmpI ⟨d, q, nm, kd, wh, ao, an, bo, bn⟩ ⟨d', q', nm', kd', wh', ao', an', bo', bn'⟩ = -1) := hid (by rw [HC.out]; rfl)
    go_wp2
    go_ret
    exact ⟨by rw [HF.out]; rfl, B2.out⟩
  | false =>
    have c0 := R2.out.cell 0 _ rfl
    have c1 := R2.out.cell 1 _ rfl
    have z0 := S2.out.cell 0 _ rfl
    have z1 := S2.out.cell 1 _ rfl
    simp only at c0 c1 z0 z1
    go_wp2_with fail
    refine (HB.out _).mono ?_
    rintro er w3 ⟨rfl, bb⟩
    have B3 := hid (B2.out.trans (bb.mono B2.out.size))
    clear bb c0 c1 z0 z1
    cases y with
    | true =>
      have HF : Hid (cmpI ⟨d, q, nm, kd, wh, ao, an, bo, bn⟩ ⟨d', q', nm', kd', wh', ao', an', bo', bn'⟩ = 1) := hid (by rw [HC.out]; rfl)
      go_wp2
      go_ret
      exact ⟨by rw [HF.out]; rfl, B3.out⟩
    | false =>
      have HF : Hid (cmpI ⟨d, q, nm, kd, wh, ao, an, bo, bn⟩ ⟨d', q', nm', kd', wh', ao', an', bo', bn'⟩ = 0) := hid (by rw [HC.out]; rfl)
      go_wp2
      go_ret
      exact ⟨by rw [HF.out]; rfl, B3.out⟩
/-- The same ID? -/
def sameId (a b : Crd) : Bool := decide (a.d = b.d ∧ a.q = b.q)
set_option maxHeartbeats 2000000 in
theorem eqC_any (a b : Crd) (w : World) : Calls Tryz.prog 26 #[.agg a.cells.toArray, .agg b.cells.toArray] w fun e w' => e = .returned (.bool (sameId a b)) ∧ Below w.heap.size w w' := by
  obtain ⟨w1, hw1⟩ : ∃ w1, w1 = (w.alloc (.cells a.cells.toArray 43)).alloc (.cells b.cells.toArray 43) := ⟨_, rfl⟩
  obtain ⟨r1, s1, b1⟩ := two_cr w a b
  rw [← hw1] at r1 s1 b1
  have R1 := hid r1
  have S1 := hid s1
  have B1 := hid b1
  clear r1 s1 b1
  obtain ⟨d, q, nm, kd, wh, ao, an, bo, bn⟩ := a
  obtain ⟨d', q', nm', kd', wh', ao', an', bo', bn'⟩ := b
  unfold Crd.cells at hw1 ⊢
  simp only at hw1 ⊢
  have c0 := R1.out.cell 0 _ rfl
  have c1 := R1.out.cell 1 _ rfl
  have z0 := S1.out.cell 0 _ rfl
  have z1 := S1.out.cell 1 _ rfl
  simp only at c0 c1 z0 z1
  by_cases h1 : d = d'
  · subst h1
    by_cases h2 : q = q'
    · subst h2
      have HF : Hid (sameId ⟨d, q, nm, kd, wh, ao, an, bo, bn⟩ ⟨d, q, nm', kd', wh', ao', an', bo', bn'⟩ = true) := hid (by unfold sameId; simp)
      go_enter Tryz.func26, Tryz.ntmps26
      rw [hw1] at c0 c1 z0 z1
      go_wp2
      rw [← hw1]
      go_ret
      exact ⟨by rw [HF.out]; rfl, B1.out⟩
    · have HF : Hid (sameId ⟨d, q, nm, kd, wh, ao, an, bo, bn⟩ ⟨d, q', nm', kd', wh', ao', an', bo', bn'⟩ = false) := hid (by unfold sameId; simp [h2])
      have hq : (q == q') = false := beq_eq_false_iff_ne.2 h2
      go_enter Tryz.func26, Tryz.ntmps26
      rw [hw1] at c0 c1 z0 z1
      go_wp2
      rw [← hw1]
      go_ret
      exact ⟨by rw [HF.out]; rfl, B1.out⟩
  · have HF : Hid (sameId ⟨d, q, nm, kd, wh, ao, an, bo, bn⟩ ⟨d', q', nm', kd', wh', ao', an', bo', bn'⟩ = false) := hid (by unfold sameId; simp [h1])
    have hq : (d == d') = false := beq_eq_false_iff_ne.2 h1
    go_enter Tryz.func26, Tryz.ntmps26
    rw [hw1] at c0 c1 z0 z1
    go_wp2
    rw [← hw1]
    go_ret
    exact ⟨by rw [HF.out]; rfl, B1.out⟩
end Go.Proofs.YtfbapbpggicfbaaGreatDoor.Sh
