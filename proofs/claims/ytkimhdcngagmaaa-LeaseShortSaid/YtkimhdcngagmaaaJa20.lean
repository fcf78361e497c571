/-
  Merging in place by rotation, on lists of credentials: what is sorted behind the rotation, and that both halves sorted are the whole sorted. Plain lemmas.
-/
import Derived.Test.YtkimhdcngagmaaaJa14
set_option linter.unusedVariables false
set_option linter.unusedSimpArgs false
namespace Go.Proofs.Ytkimhdcngagmaaa.Sh
open Go Go.RowKit

theorem le_bef {a b c : Crd} (h1 : bef b a = false) (h2 : bef b c = true) : bef a c = true := by
  unfold bef at *
  simp only [decide_eq_true_eq, decide_eq_false_iff_not] at *
  omega
/-- What lies from s to m and from m to e exchanged. -/
def rot (l : List Crd) (s m e : Nat) : List Crd := l.take s ++ (l.take e).drop m ++ (l.take m).drop s ++ l.drop e
theorem rot_cut {l : List Crd} {s m e : Nat} (h1 : s ≤ m) (h2 : m ≤ e) : l = l.take s ++ (l.take m).drop s ++ (l.take e).drop m ++ l.drop e := by
  have g1 : l.take s ++ (l.take m).drop s = l.take m := by
    conv => rhs; rw [← List.take_append_drop s (l.take m)]
    rw [List.take_take, Nat.min_eq_left h1]
  have g2 : l.take m ++ (l.take e).drop m = l.take e := by
    conv => rhs; rw [← List.take_append_drop m (l.take e)]
    rw [List.take_take, Nat.min_eq_left h2]
  rw [g1, g2, List.take_append_drop]
theorem rot_lens {l : List Crd} {s m e : Nat} (h1 : s ≤ m) (h2 : m ≤ e) (h3 : e ≤ l.length) : (l.take s).length = s ∧ ((l.take m).drop s).length = m - s ∧ ((l.take e).drop m).length = e - m := by
  simp only [List.length_take, List.length_drop]
  omega
theorem rot_len {l : List Crd} {s m e : Nat} (h1 : s ≤ m) (h2 : m ≤ e) (h3 : e ≤ l.length) : (rot l s m e).length = l.length := by
  unfold rot
  simp only [List.length_append, List.length_take, List.length_drop]
  omega
theorem rot_get {l : List Crd} {s m e d : Nat} (h1 : s ≤ m) (h2 : m ≤ e) (h3 : e ≤ l.length) (hd : s + (e - m) = d) (k : Nat) :
    (rot l s m e)[k]? = if k < s then l[k]? else if k < d then l[k + (m - s)]? else if k < e then l[k - (e - m)]? else l[k]? := by
  obtain ⟨g1, g2, g3⟩ := rot_lens h1 h2 h3
  unfold rot
  simp only [List.append_assoc]
  by_cases c1 : k < s
  · rw [if_pos c1, List.getElem?_append_left (by omega), List.getElem?_take, if_pos c1]
  · rw [if_neg c1, List.getElem?_append_right (by omega), g1]
    by_cases c2 : k < d
    · rw [if_pos c2, List.getElem?_append_left (by omega), List.getElem?_drop, List.getElem?_take, if_pos (by omega)]
      congr 1; omega
    · rw [if_neg c2, List.getElem?_append_right (by omega), g3]
      by_cases c3 : k < e
      · rw [if_pos c3, List.getElem?_append_left (by omega), List.getElem?_drop, List.getElem?_take, if_pos (by omega)]
        congr 1; omega
      · rw [if_neg c3, List.getElem?_append_right (by omega), g2, List.getElem?_drop]
        congr 1; omega
theorem rot_none {l : List Crd} {s m e : Nat} (h1 : s ≤ m) (h2 : m ≤ e) (h : s = m ∨ e = m) : rot l s m e = l := by
  conv => rhs; rw [rot_cut (l := l) h1 h2]
  unfold rot
  rcases h with rfl | rfl
  · rw [show (l.take s).drop s = [] from List.drop_of_length_le (by rw [List.length_take]; omega)]
    simp
  · rw [show (l.take e).drop e = [] from List.drop_of_length_le (by rw [List.length_take]; omega)]
    simp
/-- What the search has found. -/
structure Found (l : List Crd) (a m b s e : Nat) : Prop where
  ge : s = a ∨ e = b ∨ ∃ u v, l[s - 1]? = some u ∧ l[e]? = some v ∧ bef v u = false
  lt : s = m ∨ e = m ∨ ∃ u v, l[s]? = some u ∧ l[e - 1]? = some v ∧ bef v u = true
/-- Each of the second part stands ahead of each of the first. -/
theorem found_lt {l : List Crd} {a m b s e : Nat} (hf : Found l a m b s e) (h1 : Srt a m l) (h2 : Srt m b l) (k1 : a ≤ s) (k4 : e ≤ b) : ∀ i j x y, s ≤ i → i < m → m ≤ j → j < e → l[i]? = some x → l[j]? = some y → bef y x = true := by
  intro i j x y g1 g2 g3 g4 hx hy
  rcases hf.lt with h | h | ⟨u, v, hu, hv, hb⟩
  · omega
  · omega
  · have q1 : bef y u = true := by
      rcases Nat.lt_or_ge j (e - 1) with g | g
      · exact le_bef (h2 j (e - 1) y v g3 g (by omega) hy hv) hb
      · obtain rfl : j = e - 1 := by omega
        rw [hv] at hy; injection hy with hy; subst hy; exact hb
    rcases Nat.lt_or_ge s i with g | g
    · exact bef_of_not q1 (h1 s i u x k1 g g2 hu hx)
    · obtain rfl : i = s := by omega
      rw [hu] at hx; injection hx with hx; subst hx; exact q1
theorem found_ge {l : List Crd} {a m b s e : Nat} (hf : Found l a m b s e) (h1 : Srt a m l) (h2 : Srt m b l) (k2 : s ≤ m) (k3 : m ≤ e) : ∀ i j x y, a ≤ i → i < s → e ≤ j → j < b → l[i]? = some x → l[j]? = some y → bef y x = false := by
  intro i j x y g1 g2 g3 g4 hx hy
  rcases hf.ge with h | h | ⟨u, v, hu, hv, hb⟩
  · omega
  · omega
  · have q1 : bef y u = false := by
      rcases Nat.lt_or_ge e j with g | g
      · exact not_bef_trans (h2 e j v y k3 g g4 hv hy) hb
      · obtain rfl : j = e := by omega
        rw [hv] at hy; injection hy with hy; subst hy; exact hb
    rcases Nat.lt_or_ge i (s - 1) with g | g
    · exact not_bef_trans q1 (h1 i (s - 1) x u g1 g (by omega) hx hu)
    · obtain rfl : i = s - 1 := by omega
      rw [hu] at hx; injection hx with hx; subst hx; exact q1
theorem rot_mix {l : List Crd} {a m b s e : Nat} (hf : Found l a m b s e) (h1 : Srt a m l) (h2 : Srt m b l) (k1 : a ≤ s) (k2 : s ≤ m) (k3 : m ≤ e) (k4 : e ≤ b) (k5 : b ≤ l.length) : Mix a b l (rot l s m e) := by
  obtain ⟨g1, g2, g3⟩ := rot_lens (l := l) k2 k3 (by omega)
  have hm := mix_swap (l.take s) ((l.take m).drop s) ((l.take e).drop m) (l.drop e) (fun x hx y hy => by
    obtain ⟨i, hi⟩ := List.getElem?_of_mem hx
    obtain ⟨j, hj⟩ := List.getElem?_of_mem hy
    have hil := (List.getElem?_eq_some_iff.1 hi).1
    have hjl := (List.getElem?_eq_some_iff.1 hj).1
    rw [g2] at hil
    rw [g3] at hjl
    rw [List.getElem?_drop, List.getElem?_take, if_pos (by omega)] at hi hj
    exact found_lt hf h1 h2 k1 k4 (s + i) (m + j) x y (by omega) (by omega) (by omega) (by omega) hi hj)
  rw [← rot_cut k2 k3, g1, g2, g3] at hm
  exact hm.wide k1 (by omega)
theorem rot_srt {l : List Crd} {a m b s e d : Nat} (h1 : Srt a m l) (h2 : Srt m b l) (k1 : a ≤ s) (k2 : s ≤ m) (k3 : m ≤ e) (k4 : e ≤ b) (k5 : b ≤ l.length) (hd : s + (e - m) = d) : Srt a s (rot l s m e) ∧ Srt s d (rot l s m e) ∧ Srt d e (rot l s m e) ∧ Srt e b (rot l s m e) := by
  have hg := rot_get (l := l) k2 k3 (by omega) hd
  refine ⟨?_, ?_, ?_, ?_⟩ <;> intro i j x y g1 g2 g3 hx hy <;> rw [hg] at hx hy
  · rw [if_pos (by omega)] at hx hy
    exact h1 i j x y g1 g2 (by omega) hx hy
  · rw [if_neg (by omega), if_pos (by omega)] at hx hy
    exact h2 _ _ x y (by omega) (by omega) (by omega) hx hy
  · rw [if_neg (by omega), if_neg (by omega), if_pos (by omega)] at hx hy
    exact h1 _ _ x y (by omega) (by omega) (by omega) hx hy
  · rw [if_neg (by omega), if_neg (by omega), if_neg (by omega)] at hx hy
    exact h2 i j x y (by omega) g2 g3 hx hy
theorem rot_cross {l : List Crd} {a m b s e d : Nat} (hf : Found l a m b s e) (h1 : Srt a m l) (h2 : Srt m b l) (k1 : a ≤ s) (k2 : s ≤ m) (k3 : m ≤ e) (k4 : e ≤ b) (k5 : b ≤ l.length) (hd : s + (e - m) = d) : ∀ i j x y, a ≤ i → i < d → d ≤ j → j < b → (rot l s m e)[i]? = some x → (rot l s m e)[j]? = some y → bef y x = false := by
  intro i j x y g1 g2 g3 g4 hx hy
  have hg := rot_get (l := l) k2 k3 (by omega) hd
  rw [hg] at hx hy
  rw [if_neg (by omega), if_neg (by omega)] at hy
  by_cases c1 : i < s
  · rw [if_pos c1] at hx
    by_cases c2 : j < e
    · rw [if_pos c2] at hy
      exact h1 i _ x y g1 (by omega) (by omega) hx hy
    · rw [if_neg c2] at hy
      exact found_ge hf h1 h2 k2 k3 i j x y g1 c1 (by omega) g4 hx hy
  · rw [if_neg c1, if_pos g2] at hx
    by_cases c2 : j < e
    · rw [if_pos c2] at hy
      exact bef_asymm (found_lt hf h1 h2 k1 k4 _ _ y x (by omega) (by omega) (by omega) (by omega) hy hx)
    · rw [if_neg c2] at hy
      exact h2 _ j x y (by omega) (by omega) g4 hx hy
/-- Both halves sorted: the whole is. -/
theorem merge_end {l l1 l2 l3 : List Crd} {a d b : Nat} (h0 : Mix a b l l1) (hc : ∀ i j x y, a ≤ i → i < d → d ≤ j → j < b → l1[i]? = some x → l1[j]? = some y → bef y x = false)
    (m2 : Mix a d l1 l2) (s2 : Srt a d l2) (m3 : Mix d b l2 l3) (s3 : Srt d b l3) (ha : a ≤ d) (hb : d ≤ b) : Mix a b l l3 ∧ Srt a b l3 := by
  refine ⟨(h0.trans (m2.wide (Nat.le_refl _) hb)).trans (m3.wide ha (Nat.le_refl _)), fun i j x y g1 g2 g3 hx hy => ?_⟩
  rcases Nat.lt_or_ge j d with hj | hj
  · rw [m3.out i (.inl (by omega))] at hx
    rw [m3.out j (.inl hj)] at hy
    exact s2 i j x y g1 g2 hj hx hy
  · rcases Nat.lt_or_ge i d with hi | hi
    · rw [m3.out i (.inl hi)] at hx
      obtain ⟨i', q1, q2, q3⟩ := m2.inn i x g1 hi hx
      obtain ⟨j', r1, r2, r3⟩ := m3.inn j y hj g3 hy
      rw [m2.out j' (.inr r1)] at r3
      exact hc i' j' x y q1 q2 r1 r2 q3 r3
    · exact s3 i j x y hi g2 g3 hx hy
end Go.Proofs.Ytkimhdcngagmaaa.Sh
