/-
  Sorting in place, on lists of credentials: what an exchange of neighbours, an insertion, a rotation, a merge leave. Plain lemmas.
-/
import Derived.Test.YtkimhdcngagmaaaJa4
import Derived.Test.YtkimhdcngagmaaaJa3
import Derived.Lib.DecodeN
set_option linter.unusedVariables false
set_option linter.unusedSimpArgs false
namespace Go.Proofs.Ytkimhdcngagmaaa.Sh
open Go Go.RowKit

/-- The same credentials of each ID, in the same order. -/
def SameF (a b : List Crd) : Prop := ∀ d q, a.filter (idIs d q) = b.filter (idIs d q)
/-- l' is l with what lies from a to b put into another order, those of one ID in theirs. -/
structure Mix (a b : Nat) (l l' : List Crd) : Prop where
  len : l'.length = l.length
  same : SameF l' l
  out : ∀ k, k < a ∨ b ≤ k → l'[k]? = l[k]?
  inn : ∀ k x, a ≤ k → k < b → l'[k]? = some x → ∃ j, a ≤ j ∧ j < b ∧ l[j]? = some x
/-- From a to b none behind stands ahead. -/
def Srt (a b : Nat) (l : List Crd) : Prop := ∀ i j x y, a ≤ i → i < j → j < b → l[i]? = some x → l[j]? = some y → bef y x = false
theorem Mix.refl (a b : Nat) (l : List Crd) : Mix a b l l := ⟨rfl, fun _ _ => rfl, fun _ _ => rfl, fun k _ h1 h2 h => ⟨k, h1, h2, h⟩⟩
theorem Mix.trans {a b : Nat} {l l' l'' : List Crd} (h : Mix a b l l') (h' : Mix a b l' l'') : Mix a b l l'' :=
  ⟨h'.len.trans h.len, fun d q => (h'.same d q).trans (h.same d q), fun k hk => (h'.out k hk).trans (h.out k hk), fun k x h1 h2 hx => by
    obtain ⟨j, g1, g2, g3⟩ := h'.inn k x h1 h2 hx
    exact h.inn j x g1 g2 g3⟩
theorem Mix.wide {a b a' b' : Nat} {l l' : List Crd} (h : Mix a b l l') (ha : a' ≤ a) (hb : b ≤ b') : Mix a' b' l l' :=
  ⟨h.len, h.same, fun k hk => h.out k (by omega), fun k x h1 h2 hx => by
    by_cases hin : a ≤ k ∧ k < b
    · obtain ⟨j, g1, g2, g3⟩ := h.inn k x hin.1 hin.2 hx
      exact ⟨j, by omega, by omega, g3⟩
    · rw [h.out k (by omega)] at hx
      exact ⟨k, h1, h2, hx⟩⟩
theorem Srt.out {a b c d : Nat} {l l' : List Crd} (h : Srt c d l) (hm : Mix a b l l') (hd : d ≤ a ∨ b ≤ c) : Srt c d l' := fun i j x y h1 h2 h3 hx hy => by
  rw [hm.out i (by omega)] at hx
  rw [hm.out j (by omega)] at hy
  exact h i j x y h1 h2 h3 hx hy
theorem Srt.less {a b c d : Nat} {l : List Crd} (h : Srt a b l) (h1 : a ≤ c) (h2 : d ≤ b) : Srt c d l := fun i j x y g1 g2 g3 hx hy => h i j x y (by omega) g2 (by omega) hx hy
theorem Srt.one {a b : Nat} {l : List Crd} (h : b ≤ a + 1) : Srt a b l := fun i j _ _ _ _ _ => by omega
theorem Srt.full {l : List Crd} (h : Srt 0 l.length l) : Sd l := by
  unfold Sd
  rw [List.pairwise_iff_getElem]
  intro i j hi hj hij
  exact h i j _ _ (Nat.zero_le _) hij hj (List.getElem?_eq_getElem hi) (List.getElem?_eq_getElem hj)
theorem Mix.sorts {l l' : List Crd} (h : Mix 0 l.length l l') (hs : Srt 0 l.length l') : SortOf l' l := ⟨Srt.full (by rw [h.len]; exact hs), h.same⟩

theorem bef_id {x y : Crd} (h : bef y x = true) (d q : Int) : ¬ (idIs d q x = true ∧ idIs d q y = true) := fun ⟨h1, h2⟩ => by
  unfold idIs at h1 h2
  unfold bef at h
  simp only [decide_eq_true_eq] at h h1 h2
  omega
/-- Two parts exchanged, each of the second ahead of each of the first. -/
theorem same_swap (P X Y S : List Crd) (h : ∀ x ∈ X, ∀ y ∈ Y, bef y x = true) : SameF (P ++ Y ++ X ++ S) (P ++ X ++ Y ++ S) := fun d q => by
  have hxy : Y.filter (idIs d q) ++ X.filter (idIs d q) = X.filter (idIs d q) ++ Y.filter (idIs d q) := by
    cases hX : X.filter (idIs d q) with
    | nil => simp
    | cons x t =>
      cases hY : Y.filter (idIs d q) with
      | nil => simp
      | cons y s =>
        have hx : x ∈ X.filter (idIs d q) := by rw [hX]; simp
        have hy : y ∈ Y.filter (idIs d q) := by rw [hY]; simp
        rw [List.mem_filter] at hx hy
        exact absurd ⟨hx.2, hy.2⟩ (bef_id (h x hx.1 y hy.1) d q)
  simp only [List.filter_append, List.append_assoc]
  rw [← List.append_assoc (Y.filter _), hxy, List.append_assoc]
theorem mid_get {P X S : List Crd} {k : Nat} (h1 : P.length ≤ k) (h2 : k < P.length + X.length) : (P ++ X ++ S)[k]? = X[k - P.length]? := by
  rw [List.append_assoc, List.getElem?_append_right h1, List.getElem?_append_left (by omega)]
theorem mix_swap (P X Y S : List Crd) (h : ∀ x ∈ X, ∀ y ∈ Y, bef y x = true) : Mix P.length (P.length + X.length + Y.length) (P ++ X ++ Y ++ S) (P ++ Y ++ X ++ S) := by
  refine ⟨by simp; omega, same_swap P X Y S h, fun k hk => ?_, fun k x h1 h2 hx => ?_⟩
  · rcases hk with hk | hk
    · simp only [List.append_assoc]
      rw [List.getElem?_append_left hk, List.getElem?_append_left hk]
    · rw [List.getElem?_append_right (by simp; omega), List.getElem?_append_right (by simp; omega)]
      congr 1
      simp
      omega
  · rw [List.append_assoc P Y X, mid_get h1 (by rw [List.length_append]; omega)] at hx
    have hm : x ∈ X ++ Y := by
      rcases List.mem_append.1 (List.mem_of_getElem? hx) with h | h
      · exact List.mem_append.2 (.inr h)
      · exact List.mem_append.2 (.inl h)
    obtain ⟨j, hj⟩ := List.getElem?_of_mem hm
    have hjl := (List.getElem?_eq_some_iff.1 hj).1
    rw [List.length_append] at hjl
    refine ⟨P.length + j, by omega, by omega, ?_⟩
    rw [List.append_assoc P X Y, mid_get (by omega) (by rw [List.length_append]; omega), show P.length + j - P.length = j by omega]
    exact hj
/-- A list around two places side by side. -/
theorem cut_two {l : List Crd} {k : Nat} {x y : Crd} (hx : l[k]? = some x) (hy : l[k + 1]? = some y) : l = l.take k ++ [x] ++ [y] ++ l.drop (k + 2) ∧ (l.take k).length = k := by
  have h1 := (List.getElem?_eq_some_iff.1 hx)
  have h2 := (List.getElem?_eq_some_iff.1 hy)
  obtain ⟨g1, e1⟩ := h1
  obtain ⟨g2, e2⟩ := h2
  refine ⟨?_, by rw [List.length_take]; omega⟩
  conv => lhs; rw [← List.take_append_drop k l, List.drop_eq_getElem_cons g1, List.drop_eq_getElem_cons g2, e1, e2]
  simp
/-- Neighbours exchanged, the one behind being ahead. -/
theorem mix_adj {l : List Crd} {k : Nat} {x y : Crd} (hx : l[k]? = some x) (hy : l[k + 1]? = some y) (h : bef y x = true) : Mix k (k + 2) l ((l.set k y).set (k + 1) x) := by
  obtain ⟨e, hk⟩ := cut_two hx hy
  have hm := mix_swap (l.take k) [x] [y] (l.drop (k + 2)) (fun a ha b hb => by rw [List.mem_singleton.1 ha, List.mem_singleton.1 hb]; exact h)
  have e2 : (l.set k y).set (k + 1) x = l.take k ++ [y] ++ [x] ++ l.drop (k + 2) := by
    have hl := (List.getElem?_eq_some_iff.1 hy).1
    refine List.ext_getElem? fun t => ?_
    rw [List.getElem?_set, List.getElem?_set]
    simp only [List.append_assoc, List.cons_append, List.nil_append]
    by_cases h1 : k + 1 = t
    · subst h1
      rw [if_pos rfl, if_pos (by simp; omega), List.getElem?_append_right (by omega)]
      simp [hk]
    · rw [if_neg h1]
      by_cases h2 : k = t
      · subst h2
        rw [if_pos rfl, if_pos (by omega), List.getElem?_append_right (by omega)]
        simp [hk]
      · rw [if_neg h2]
        by_cases h3 : t < k
        · rw [List.getElem?_append_left (by omega), List.getElem?_take, if_pos h3]
        · rw [List.getElem?_append_right (by omega), hk]
          obtain ⟨u, rfl⟩ : ∃ u, t = k + 2 + u := ⟨t - (k + 2), by omega⟩
          rw [show k + 2 + u - k = u + 2 by omega]
          simp [List.getElem?_drop]
  rw [hk] at hm
  rw [← e, ← e2] at hm
  exact hm
theorem mix_adj' {l : List Crd} {k : Nat} {x y : Crd} (hx : l[k]? = some x) (hy : l[k + 1]? = some y) (h : bef y x = true) : Mix k (k + 2) l ((l.set (k + 1) x).set k y) := by
  rw [List.set_comm _ _ (by omega)]
  exact mix_adj hx hy h

/-! ### one credential moved down: from i to j -/
/-- cur is l with x, that stood at i, at j, what stood from j to i one place on. -/
structure Dn (l cur : List Crd) (j i : Nat) (x : Crd) : Prop where
  at_ : cur[j]? = some x
  mid : ∀ t, j < t → t ≤ i → cur[t]? = l[t - 1]?
  out : ∀ t, t < j ∨ i < t → cur[t]? = l[t]?
  len : cur.length = l.length
  le : j ≤ i
theorem Dn.start {l : List Crd} {i : Nat} {x : Crd} (h : l[i]? = some x) : Dn l l i i x := ⟨h, fun t h1 h2 => by omega, fun _ _ => rfl, rfl, Nat.le_refl _⟩
theorem Dn.step {l cur : List Crd} {j i : Nat} {x y : Crd} (h : Dn l cur (j + 1) i x) (hy : cur[j]? = some y) : Dn l ((cur.set (j + 1) y).set j x) j i x := by
  have h1 := (List.getElem?_eq_some_iff.1 h.at_).1
  have h2 := (List.getElem?_eq_some_iff.1 hy).1
  have hle := h.le
  refine ⟨?_, fun t g1 g2 => ?_, fun t g => ?_, by simp [h.len], by omega⟩
  · rw [List.getElem?_set, if_pos rfl, if_pos (by rw [List.length_set]; omega)]
  · rw [List.getElem?_set, if_neg (by omega), List.getElem?_set]
    by_cases e : j + 1 = t
    · subst e
      rw [if_pos rfl, if_pos (by omega), ← hy, h.out j (.inl (by omega))]
      rfl
    · rw [if_neg e, h.mid t (by omega) g2]
  · rw [List.getElem?_set, if_neg (by omega), List.getElem?_set, if_neg (by omega), h.out t (by omega)]
theorem Dn.ahead {l cur : List Crd} {j i : Nat} {x : Crd} (h : Dn l cur j i x) {t : Nat} (ht : t < j) : cur[t]? = l[t]? := h.out t (.inl ht)
/-- It is sorted then: what stood ahead was, and x stands where it is to stand. -/
theorem Dn.srt {l cur : List Crd} {a j i : Nat} {x : Crd} (h : Dn l cur j i x) (ha : a ≤ j) (hs : Srt a i l) (h1 : ∀ t y, j ≤ t → t < i → l[t]? = some y → bef x y = true) (h2 : ∀ t y, a ≤ t → t < j → l[t]? = some y → bef x y = false) : Srt a (i + 1) cur := by
  intro p q u v g1 g2 g3 hu hv
  have hle := h.le
  rcases Nat.lt_trichotomy p j with hp | hp | hp
  · rw [h.out p (.inl hp)] at hu
    rcases Nat.lt_trichotomy q j with hq | hq | hq
    · rw [h.out q (.inl hq)] at hv
      exact hs p q u v g1 g2 (by omega) hu hv
    · subst hq
      rw [h.at_] at hv
      injection hv with hv
      subst hv
      exact h2 p u g1 hp hu
    · rw [h.mid q hq (by omega)] at hv
      exact hs p (q - 1) u v g1 (by omega) (by omega) hu hv
  · subst hp
    rw [h.at_] at hu
    injection hu with hu
    subst hu
    rw [h.mid q g2 (by omega)] at hv
    exact bef_asymm (h1 (q - 1) v (by omega) (by omega) hv)
  · rw [h.mid p hp (by omega)] at hu
    rw [h.mid q (by omega) (by omega)] at hv
    exact hs (p - 1) (q - 1) u v (by omega) (by omega) (by omega) hu hv

/-! ### one credential moved up: from a to k -/
structure Up (l cur : List Crd) (a k : Nat) (x : Crd) : Prop where
  at_ : cur[k]? = some x
  mid : ∀ t, a ≤ t → t < k → cur[t]? = l[t + 1]?
  out : ∀ t, t < a ∨ k < t → cur[t]? = l[t]?
  len : cur.length = l.length
  le : a ≤ k
theorem Up.start {l : List Crd} {a : Nat} {x : Crd} (h : l[a]? = some x) : Up l l a a x := ⟨h, fun t h1 h2 => by omega, fun _ _ => rfl, rfl, Nat.le_refl _⟩
theorem Up.step {l cur : List Crd} {a k : Nat} {x y : Crd} (h : Up l cur a k x) (hy : cur[k + 1]? = some y) : Up l ((cur.set k y).set (k + 1) x) a (k + 1) x := by
  have h1 := (List.getElem?_eq_some_iff.1 hy).1
  have hle := h.le
  refine ⟨?_, fun t g1 g2 => ?_, fun t g => ?_, by simp [h.len], by omega⟩
  · rw [List.getElem?_set, if_pos rfl, if_pos (by rw [List.length_set]; omega)]
  · rw [List.getElem?_set, if_neg (by omega), List.getElem?_set]
    by_cases e : k = t
    · subst e
      rw [if_pos rfl, if_pos (by omega), ← hy, h.out (k + 1) (.inr (by omega))]
    · rw [if_neg e, h.mid t g1 (by omega)]
  · rw [List.getElem?_set, if_neg (by omega), List.getElem?_set, if_neg (by omega), h.out t (by omega)]
theorem Up.srt {l cur : List Crd} {a k b : Nat} {x : Crd} (h : Up l cur a k x) (hkb : k < b) (hs : Srt (a + 1) b l) (h1 : ∀ t y, a < t → t ≤ k → l[t]? = some y → bef y x = true) (h2 : ∀ t y, k < t → t < b → l[t]? = some y → bef y x = false) : Srt a b cur := by
  intro p q u v g1 g2 g3 hu hv
  have hle := h.le
  rcases Nat.lt_trichotomy p k with hp | hp | hp
  · rw [h.mid p g1 hp] at hu
    rcases Nat.lt_trichotomy q k with hq | hq | hq
    · rw [h.mid q (by omega) hq] at hv
      exact hs (p + 1) (q + 1) u v (by omega) (by omega) (by omega) hu hv
    · subst hq
      rw [h.at_] at hv
      injection hv with hv
      subst hv
      exact bef_asymm (h1 (p + 1) u (by omega) (by omega) hu)
    · rw [h.out q (.inr hq)] at hv
      exact hs (p + 1) q u v (by omega) (by omega) g3 hu hv
  · subst hp
    rw [h.at_] at hu
    injection hu with hu
    subst hu
    rw [h.out q (.inr g2)] at hv
    exact h2 q v g2 g3 hv
  · rw [h.out p (.inr hp)] at hu
    rw [h.out q (.inr (by omega))] at hv
    exact hs p q u v (by omega) g2 g3 hu hv
end Go.Proofs.Ytkimhdcngagmaaa.Sh
/-
  A step of a range over a string, and what May and Number make of it: pure part.
-/
namespace Go.Proofs.Ytkimhdcngagmaaa.Sh
open Go Go.RowKit

theorem decodeN_cover (n b0 b1 b2 b3 : Nat) (hn : 1 ≤ n) : 1 ≤ (Lib.decodeN n b0 b1 b2 b3).2 ∧ (Lib.decodeN n b0 b1 b2 b3).2 ≤ n ∧ (Lib.decodeN n b0 b1 b2 b3).2 ≤ 4 ∧
    (1 < (Lib.decodeN n b0 b1 b2 b3).2 → 128 ≤ b1) ∧ (2 < (Lib.decodeN n b0 b1 b2 b3).2 → 128 ≤ b2) ∧ (3 < (Lib.decodeN n b0 b1 b2 b3).2 → 128 ≤ b3) := by
  unfold Lib.decodeN
  repeat' split
  all_goals (simp only; omega)
theorem getBang (s : ByteArray) {j : Nat} {y : UInt8} (hy : s.data.toList[j]? = some y) : s.get! j = y := by
  obtain ⟨h, e⟩ := sget s hy
  rw [← e]
  have := get_at s j h
  simpa using this
/-- A STEP OF A RANGE OVER A STRING, at a byte x: a rune R, and on to Z; the bytes between are no ASCII. -/
theorem next_at (s : ByteArray) {k : Nat} {x : UInt8} (hx : s.data.toList[k]? = some x) :
    ∃ R Z : Nat, (∀ (P : Program) (w : World) ty, (Instr.next (.pointer (some ⟨w.heap.size, 0, none⟩)) true ty).run P (w.iter s k) = .ok (.tuple #[.bool true, .int .i64 k, .int .i32 R]) (w.iter s Z)) ∧
      k < Z ∧ Z ≤ s.size ∧ R ≤ 2147483647 ∧ (x.toNat < 128 → R = x.toNat ∧ Z = k + 1) ∧ (128 ≤ x.toNat → 128 ≤ R) ∧ ∀ j y, k < j → j < Z → s.data.toList[j]? = some y → 128 ≤ y.toNat := by
  obtain ⟨hk, hsx⟩ := sget s hx
  refine ⟨(Utf8.decode s k).1, k + (Utf8.decode s k).2, fun P w ty => run_next_any w s k ty hk, ?_⟩
  have hc := decodeN_cover (s.size - k) (s.get! k).toNat (s.get! (k + 1)).toNat (s.get! (k + 2)).toNat (s.get! (k + 3)).toNat (by omega)
  have hle := decode_le s k
  have hd := Lib.decode_at s k
  rw [← hd] at hc
  refine ⟨by omega, by omega, hle, fun h => ?_, fun h => (decode_high s k hk (by rw [hsx]; exact h)).1, fun j y h1 h2 hy => ?_⟩
  · have := decode_ascii s k hk (by rw [hsx]; exact h)
    rw [this, hsx]
    exact ⟨rfl, rfl⟩
  · have e := getBang s hy
    rcases (by omega : j = k + 1 ∨ j = k + 2 ∨ j = k + 3) with rfl | rfl | rfl
    · rw [← e]; exact hc.2.2.2.1 (by omega)
    · rw [← e]; exact hc.2.2.2.2.1 (by omega)
    · rw [← e]; exact hc.2.2.2.2.2 (by omega)
theorem iter_below (w : World) (s : ByteArray) (k : Nat) : Below w.heap.size w (w.iter s k) := (Below.refl _ _).alloc (Nat.le_refl _) _

def letN (R : Nat) : Bool := decide (97 ≤ R ∧ R ≤ 122)
def digN (R : Nat) : Bool := decide (48 ≤ R ∧ R ≤ 57)
theorem letN_of {R : Nat} {x : UInt8} (h1 : x.toNat < 128 → R = x.toNat) (h2 : 128 ≤ x.toNat → 128 ≤ R) : letN R = letter x := by
  unfold letN letter
  rcases Nat.lt_or_ge x.toNat 128 with h | h
  · rw [h1 h]; simp
  · have := h2 h
    rw [decide_eq_false (by omega)]
    simp; omega
theorem digN_of {R : Nat} {x : UInt8} (h1 : x.toNat < 128 → R = x.toNat) (h2 : 128 ≤ x.toNat → 128 ≤ R) : digN R = digit x := by
  unfold digN digit
  rcases Nat.lt_or_ge x.toNat 128 with h | h
  · rw [h1 h]; simp
  · have := h2 h
    rw [decide_eq_false (by omega)]
    simp; omega

theorem may_end {l : List UInt8} (h : ∀ j x, l[j]? = some x → (letter x = true ∨ (0 < j ∧ digit x = true))) : mayL l = (decide (1 ≤ l.length) && decide (l.length ≤ 8)) := by
  cases l with
  | nil => rfl
  | cons y t =>
    rw [mayL_cons]
    have h0 : letter y = true := (h 0 y rfl).resolve_right (fun k => Nat.lt_irrefl _ k.1)
    have ht : t.all okName = true := by
      rw [List.all_eq_true]
      intro x hx
      obtain ⟨j, hj⟩ := List.getElem?_of_mem hx
      unfold okName
      rw [Bool.or_eq_true]
      exact (h (j + 1) x (by simpa using hj)).imp id fun k => k.2
    rw [h0, ht]
    simp
theorem may_bad {l : List UInt8} {j : Nat} {x : UInt8} (hx : l[j]? = some x) (h : letter x = false) (h2 : j = 0 ∨ digit x = false) : mayL l = false := by
  cases l with
  | nil => rfl
  | cons y t =>
    rw [mayL_cons]
    cases j with
    | zero => simp at hx; subst hx; rw [h]; rfl
    | succ j =>
      have : t.all okName = false := by
        rw [List.all_eq_false]
        refine ⟨x, List.mem_of_getElem? (by simpa using hx), ?_⟩
        unfold okName
        rw [h, h2.resolve_left (Nat.succ_ne_zero j)]
        simp
      rw [this]
      simp

theorem numL_ne {l : List UInt8} (h : numL l ≠ 0) : (∃ x : UInt8, l = [100, x] ∧ 49 ≤ x.toNat ∧ x.toNat ≤ 57) ∨
    (∃ x y : UInt8, l = [100, x, y] ∧ 49 ≤ x.toNat ∧ x.toNat ≤ 57 ∧ 48 ≤ y.toNat ∧ y.toNat ≤ 57 ∧ 10 * (x.toNat - 48) + (y.toNat - 48) ≤ 16) := by
  match l with
  | [] => exact absurd rfl h
  | [_] => exact absurd rfl h
  | [d, x] =>
    rw [numL_two] at h
    split at h
    · rename_i hc
      exact .inl ⟨x, by rw [hc.1], hc.2⟩
    · exact absurd rfl h
  | [d, x, y] =>
    rw [numL_three] at h
    split at h
    · rename_i hc
      exact .inr ⟨x, y, by rw [hc.1], hc.2⟩
    · exact absurd rfl h
  | _ :: _ :: _ :: _ :: _ => exact absurd rfl h
/-- How far Number has come: k bytes, the number m. -/
def numAt (l : List UInt8) (k m : Nat) : Prop :=
  (k = 0 ∧ m = 0) ∨ (k = 1 ∧ m = 0 ∧ l[0]? = some 100) ∨ (k = 2 ∧ 1 ≤ m ∧ m ≤ 9 ∧ l[0]? = some 100 ∧ ∃ x : UInt8, l[1]? = some x ∧ x.toNat = 48 + m) ∨
  (k = 3 ∧ 10 ≤ m ∧ m ≤ 16 ∧ l[0]? = some 100 ∧ ∃ x y : UInt8, l[1]? = some x ∧ l[2]? = some y ∧ 49 ≤ x.toNat ∧ x.toNat ≤ 57 ∧ 48 ≤ y.toNat ∧ y.toNat ≤ 57 ∧ m = 10 * (x.toNat - 48) + (y.toNat - 48))
theorem numAt_le {l : List UInt8} {k m : Nat} (h : numAt l k m) : m ≤ 16 := by
  rcases h with h | h | h | h <;> omega
theorem numAt_end {l : List UInt8} {m : Nat} (h : numAt l l.length m) : numL l = m := by
  rcases h with ⟨h, rfl⟩ | ⟨h, rfl, _⟩ | ⟨h, h1, h2, h0, x, hx, e⟩ | ⟨h, h1, h2, h0, x, y, hx, hy, g1, g2, g3, g4, e⟩
  · rw [List.eq_nil_of_length_eq_zero h]; rfl
  · match l, h with
    | [_], _ => rfl
  · match l, h with
    | [d, z], _ =>
      simp at h0 hx
      subst h0 hx
      rw [numL_two, if_pos ⟨rfl, by omega, by omega⟩]
      omega
  · match l, h with
    | [d, z, u], _ =>
      simp at h0 hx hy
      subst h0 hx hy
      rw [numL_three, if_pos ⟨rfl, by omega, by omega, by omega, by omega, by omega⟩]
      omega
theorem num_bad0 {l : List UInt8} {x : UInt8} (hx : l[0]? = some x) (h : x.toNat ≠ 100) : numL l = 0 := by
  apply Classical.byContradiction
  intro hc
  rcases numL_ne hc with ⟨a, rfl, _⟩ | ⟨a, b, rfl, _⟩ <;> (simp at hx; subst hx; exact h rfl)
theorem num_bad {l : List UInt8} {k m : Nat} (ha : numAt l k m) (hk : 0 < k) {x : UInt8} (hx : l[k]? = some x) (h : digit x = false) : numL l = 0 := by
  apply Classical.byContradiction
  intro hc
  unfold digit at h
  simp at h
  have hk3 : k = 1 ∨ k = 2 ∨ k = 3 := by rcases ha with h | h | h | h <;> omega
  rcases numL_ne hc with ⟨a, rfl, g⟩ | ⟨a, b, rfl, g⟩ <;> rcases hk3 with rfl | rfl | rfl <;> simp at hx <;> (subst hx; omega)
theorem num_step {l : List UInt8} {k m : Nat} (ha : numAt l k m) (hk : 0 < k) {x : UInt8} (hx : l[k]? = some x) (h : digit x = true) :
    (10 * m + (x.toNat - 48) = 0 ∨ 16 < 10 * m + (x.toNat - 48) → numL l = 0) ∧ (10 * m + (x.toNat - 48) ≠ 0 → 10 * m + (x.toNat - 48) ≤ 16 → numAt l (k + 1) (10 * m + (x.toNat - 48))) := by
  unfold digit at h
  simp at h
  constructor
  · intro hm
    apply Classical.byContradiction
    intro hc
    rcases ha with ⟨rfl, rfl⟩ | ⟨rfl, rfl, h0⟩ | ⟨rfl, h1, h2, h0, y, hy, e⟩ | ⟨rfl, h1, h2, h0, y, z, hy, hz, g⟩
    · omega
    · rcases numL_ne hc with ⟨a, rfl, g⟩ | ⟨a, b, rfl, g⟩ <;> simp at hx <;> (subst hx; omega)
    · rcases numL_ne hc with ⟨a, rfl, g⟩ | ⟨a, b, rfl, g⟩ <;> simp at hx hy <;> (subst hx hy; omega)
    · rcases numL_ne hc with ⟨a, rfl, g⟩ | ⟨a, b, rfl, g⟩ <;> simp at hx
  · intro h0 h16
    rcases ha with ⟨rfl, rfl⟩ | ⟨rfl, rfl, e0⟩ | ⟨rfl, h1, h2, e0, y, hy, e⟩ | ⟨rfl, h1, h2, e0, y, z, hy, hz, g⟩
    · omega
    · exact .inr (.inr (.inl ⟨rfl, by omega, by omega, e0, x, hx, by omega⟩))
    · exact .inr (.inr (.inr ⟨rfl, by omega, by omega, e0, y, x, hy, hx, by omega, by omega, by omega, by omega, by omega⟩))
    · omega
end Go.Proofs.Ytkimhdcngagmaaa.Sh
