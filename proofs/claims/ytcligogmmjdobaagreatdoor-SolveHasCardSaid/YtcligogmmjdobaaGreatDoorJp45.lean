/-
  Pure parts of the document's own All: the least taken out again and again; how far rounds go. Nothing of the program's own text.
-/
import Derived.Test.YtcligogmmjdobaaGreatDoorJp41
set_option linter.unusedVariables false
set_option linter.unusedSimpArgs false
namespace Go.Proofs.YtcligogmmjdobaaGreatDoor.Sh
open Go Go.RowKit

set_option linter.unusedVariables false
set_option linter.unusedSimpArgs false
theorem lessP_iff (a b : Pr) : lessP a b = true ↔ ltP a b := by
  obtain ⟨⟨o, n⟩, x⟩ := a
  obtain ⟨⟨o', n'⟩, x'⟩ := b
  unfold lessP ltP lt3
  simp only
  by_cases h : (o, n) = (o', n')
  · rw [if_pos h]
    obtain ⟨rfl, rfl⟩ := Prod.mk.inj h
    unfold bl
    simp [bl_irrefl]
  · rw [if_neg h, lessL_iff]
    constructor
    · rintro (h1 | ⟨h1, h2⟩)
      · exact .inl h1
      · exact .inr ⟨h1, .inl h2⟩
    · rintro (h1 | ⟨rfl, h1 | ⟨rfl, h1⟩⟩)
      · exact .inl h1
      · exact .inr ⟨rfl, h1⟩
      · exact absurd rfl h
theorem ltP_trans {a b c : Pr} (h : ltP a b) (k : ltP b c) : ltP a c := lt3_trans h k
theorem ltP_three (a b : Pr) : ltP a b ∨ a = b ∨ ltP b a := by
  rcases lt3_three a.1.1 a.1.2 a.2 b.1.1 b.1.2 b.2 with h | ⟨h1, h2, h3⟩ | h
  · exact .inl h
  · exact .inr (.inl (Prod.ext (Prod.ext h1 h2) h3))
  · exact .inr (.inr h)
/-- Taken out so far, and still there. -/
structure SelP (l0 out now : List Pr) : Prop where
  mem : ∀ p, p ∈ l0 ↔ p ∈ out ∨ p ∈ now
  nd : now.Nodup
  srt : SortedP out
  bef : ∀ x ∈ out, ∀ y ∈ now, ltP x y
theorem cut_mem {l : List Pr} {m : Nat} {x : Pr} (hx : l[m]? = some x) (y : Pr) : y ∈ l ↔ y = x ∨ y ∈ l.take m ++ l.drop (m + 1) := by
  have h : l = l.take m ++ x :: l.drop (m + 1) := by
    obtain ⟨hm, rfl⟩ := List.getElem?_eq_some_iff.1 hx
    rw [← List.drop_eq_getElem_cons hm, List.take_append_drop]
  constructor
  · intro hy
    rw [h] at hy
    simp only [List.mem_append, List.mem_cons] at hy ⊢
    rcases hy with h1 | h1 | h1
    · exact .inr (.inl h1)
    · exact .inl h1
    · exact .inr (.inr h1)
  · intro hy
    rw [h]
    simp only [List.mem_append, List.mem_cons] at hy ⊢
    rcases hy with h1 | h1 | h1
    · exact .inr (.inl h1)
    · exact .inl h1
    · exact .inr (.inr h1)
theorem cut_nodup {l : List Pr} {m : Nat} {x : Pr} (hx : l[m]? = some x) (hn : l.Nodup) : (l.take m ++ l.drop (m + 1)).Nodup ∧ x ∉ l.take m ++ l.drop (m + 1) := by
  have h : l = l.take m ++ x :: l.drop (m + 1) := by
    obtain ⟨hm, rfl⟩ := List.getElem?_eq_some_iff.1 hx
    rw [← List.drop_eq_getElem_cons hm, List.take_append_drop]
  rw [h] at hn
  have h1 := (List.perm_middle (a := x) (l₁ := l.take m) (l₂ := l.drop (m + 1))).nodup_iff.1 hn
  exact ⟨(List.nodup_cons.1 h1).2, (List.nodup_cons.1 h1).1⟩
theorem SelP.step {l0 out now : List Pr} (h : SelP l0 out now) {m : Nat} {x : Pr} (hx : now[m]? = some x) (hl : ∀ y ∈ now, ¬ ltP y x) : SelP l0 (out ++ [x]) (now.take m ++ now.drop (m + 1)) := by
  have hxn : x ∈ now := List.mem_of_getElem? hx
  have hc := cut_mem hx
  obtain ⟨n1, n2⟩ := cut_nodup hx h.nd
  refine ⟨fun p => ?_, n1, ?_, fun a ha b hb => ?_⟩
  · rw [h.mem, hc, List.mem_append (s := out), List.mem_singleton]
    constructor
    · rintro (h1 | h1 | h1)
      · exact .inl (.inl h1)
      · exact .inl (.inr h1)
      · exact .inr h1
    · rintro ((h1 | h1) | h1)
      · exact .inl h1
      · exact .inr (.inl h1)
      · exact .inr (.inr h1)
  · unfold SortedP
    rw [List.pairwise_append]
    refine ⟨h.srt, by simp, fun a ha b hb => ?_⟩
    rw [List.mem_singleton] at hb
    subst hb
    exact h.bef a ha _ hxn
  · rcases List.mem_append.1 ha with ha | ha
    · exact h.bef a ha b ((hc b).2 (.inr hb))
    · rw [List.mem_singleton] at ha
      subst ha
      rcases ltP_three a b with h1 | h1 | h1
      · exact h1
      · subst h1; exact absurd hb n2
      · exact absurd h1 (hl b ((hc b).2 (.inr hb)))
theorem SelP.start {l0 : List Pr} (hn : l0.Nodup) : SelP l0 [] l0 := ⟨fun p => by simp, hn, List.Pairwise.nil, fun x hx => by simp at hx⟩
theorem SelP.done {l0 out : List Pr} (h : SelP l0 out []) : SortedP out ∧ ∀ p, p ∈ out ↔ p ∈ l0 := ⟨h.srt, fun p => by rw [h.mem]; simp⟩
/-- The least of the first i, at m. -/
def LeastP (l : List Pr) (i m : Nat) : Prop := m < i ∧ ∃ x, l[m]? = some x ∧ ∀ y ∈ l.take i, ¬ ltP y x
theorem ltP_irrefl (a : Pr) : ¬ ltP a a := lt3_irrefl _ _ _
theorem LeastP.start {l : List Pr} {x : Pr} (h : l[0]? = some x) : LeastP l 1 0 := by
  refine ⟨by omega, x, h, fun y hy => ?_⟩
  cases l with
  | nil => cases h
  | cons a t =>
    simp only [List.getElem?_cons_zero, Option.some.injEq] at h
    subst h
    simp at hy
    subst hy
    exact ltP_irrefl _
theorem LeastP.next {l : List Pr} {i m : Nat} {x y : Pr} (h : LeastP l i m) (hx : l[m]? = some x) (hy : l[i]? = some y) : LeastP l (i + 1) (if lessP y x = true then i else m) := by
  obtain ⟨hm, x', hx', hl⟩ := h
  obtain rfl : x' = x := by rw [hx'] at hx; exact Option.some.inj hx
  split
  · rename_i hlt
    rw [lessP_iff] at hlt
    refine ⟨by omega, y, hy, fun z hz hzy => ?_⟩
    rw [take_snoc_of hy, List.mem_append, List.mem_singleton] at hz
    rcases hz with hz | rfl
    · exact hl z hz (ltP_trans hzy hlt)
    · exact ltP_irrefl _ hzy
  · rename_i hlt
    rw [lessP_iff] at hlt
    refine ⟨by omega, x', hx', fun z hz => ?_⟩
    rw [take_snoc_of hy, List.mem_append, List.mem_singleton] at hz
    rcases hz with hz | rfl
    · exact hl z hz
    · exact hlt
theorem LeastP.done {l : List Pr} {n m : Nat} (h : LeastP l n m) (hn : l.length = n) : ∃ x, l[m]? = some x ∧ ∀ y ∈ l, ¬ ltP y x := by
  obtain ⟨_, x, hx, hl⟩ := h
  rw [List.take_of_length_le (by omega)] at hl
  exact ⟨x, hx, hl⟩
/-- What holds of the pairs at hand while rounds go on, from l0: what has come is there once, and all of it out of so many. -/
structure Within (cs : List Crd) (ws : List ByteArray) (l0 l : List Pr) : Prop where
  ext : ∃ x, l = l0 ++ x ∧ x.Nodup ∧ ∀ p ∈ x, p ∈ uniW cs ws
  who : ∀ p ∈ l, p.2 ∈ ws
theorem Within.start (cs : List Crd) {ws : List ByteArray} {l0 : List Pr} (h : ∀ p ∈ l0, p.2 ∈ ws) : Within cs ws l0 l0 := ⟨⟨[], by simp, List.nodup_nil, by simp⟩, h⟩
theorem Within.len {cs : List Crd} {ws : List ByteArray} {l0 l : List Pr} (h : Within cs ws l0 l) : l0.length ≤ l.length ∧ l.length ≤ l0.length + cs.length * ws.length := by
  classical
  obtain ⟨x, rfl, h1, h2⟩ := h.ext
  have := nodup_length h1 h2
  rw [uniW_length] at this
  rw [List.length_append]
  omega
theorem Within.nodup {cs : List Crd} {ws : List ByteArray} {l : List Pr} (h : Within cs ws [] l) : l.Nodup := by
  obtain ⟨x, rfl, h1, _⟩ := h.ext
  simpa using h1
theorem Within.next {cs : List Crd} {ws : List ByteArray} {l0 l out : List Pr} (hw : ∀ c ∈ cs, c.wh ∈ ws) (h : Within cs ws l0 l) (hr : Rnd cs l out) : Within cs ws l0 out := by
  obtain ⟨new, rfl, hn, hd, hm⟩ := hr
  obtain ⟨x, hx, h1, h2⟩ := h.ext
  have key : ∀ p ∈ new, p ∈ uniW cs ws ∧ p.2 ∈ ws := fun p hp => by
    rcases (hm p).1 (List.mem_append_right _ hp) with h3 | ⟨c, hc, h3⟩
    · exact absurd h3 (hd p hp)
    · exact brg_uni hw h.who hc h3
  refine ⟨⟨x ++ new, by rw [hx, List.append_assoc], ?_, fun p hp => ?_⟩, fun p hp => ?_⟩
  · exact List.nodup_append.2 ⟨h1, hn, fun a ha b hb e => by subst e; exact hd a hb (by rw [hx]; exact List.mem_append_right _ ha)⟩
  · rcases List.mem_append.1 hp with h3 | h3
    · exact h2 p h3
    · exact (key p h3).1
  · rcases List.mem_append.1 hp with h3 | h3
    · exact h.who p h3
    · exact (key p h3).2
/-- What rounds come to, from nothing: what is said. -/
theorem rounds_end {cs : List Crd} {l out : List Pr} (hi : ∀ p ∈ l, Imp (· ∈ cs) p) (hr : Rnd cs l out) (he : out.length = l.length) : ∀ p, p ∈ l ↔ Imp (· ∈ cs) p := fun p =>
  ⟨hi p, clos_imp (hr.same he).2⟩
end Go.Proofs.YtcligogmmjdobaaGreatDoor.Sh
