/-
  Tokens, read: what is read of bytes, pure; what is read without an error was put.
-/
import Derived.Test.YtaadmgbmaekicaaGreatDoorJn11
import Derived.Test.YtaadmgbmaekicaaGreatDoorJn9
import Derived.Test.YtaadmgbmaekicaaGreatDoorJn7
import Derived.Test.YtaadmgbmaekicaaGreatDoorJn40
import Derived.Test.YtaadmgbmaekicaaGreatDoorJn10
set_option linter.unusedVariables false
set_option linter.unusedSimpArgs false
namespace Go.Proofs.YtaadmgbmaekicaaGreatDoor.Sh
open Go Go.RowKit

set_option linter.unusedSimpArgs false
set_option linter.unusedVariables false
/-- The same, read k times. -/
def many {α : Type} (f : Nat → Int → α × Nat × Int) : Nat → Nat → Int → List α × Nat × Int
  | 0, p, e => ([], p, e)
  | k + 1, p, e => ((many f k p e).1 ++ [(f (many f k p e).2.1 (many f k p e).2.2).1], (f (many f k p e).2.1 (many f k p e).2.2).2)
theorem many_len {α : Type} (f : Nat → Int → α × Nat × Int) (k p : Nat) (e : Int) : (many f k p e).1.length = k := by
  induction k with
  | zero => rfl
  | succ k ih => show ((many f k p e).1 ++ [_]).length = _; rw [List.length_append, ih]; rfl
theorem many_place {α : Type} {f : Nat → Int → α × Nat × Int} {n : Nat} (hf : ∀ p e, p ≤ n → (f p e).2.1 ≤ n) (k p : Nat) (e : Int) (hp : p ≤ n) : (many f k p e).2.1 ≤ n := by
  induction k with
  | zero => exact hp
  | succ k ih => exact hf _ _ ih
/-- What is read without an error was put. -/
def Back {α : Type} (l : List UInt8) (f : Nat → Int → α × Nat × Int) (put : α → List UInt8) : Prop :=
  ∀ p e x q, f p e = (x, q, 0) → e = 0 ∧ l.drop p = put x ++ l.drop q ∧ q = p + (put x).length
theorem many_back {α : Type} {l : List UInt8} {f : Nat → Int → α × Nat × Int} {put : α → List UInt8} (h : Back l f put) (k : Nat) : Back l (many f k) fun s => s.flatMap put := by
  induction k with
  | zero =>
    intro p e s q h
    simp only [many, Prod.mk.injEq] at h
    obtain ⟨rfl, rfl, rfl⟩ := h
    exact ⟨rfl, by simp, by simp⟩
  | succ k ih =>
    intro p e s q hm
    obtain ⟨s1, q1, e1, h1⟩ : ∃ s1 q1 e1, many f k p e = (s1, q1, e1) := ⟨_, _, _, rfl⟩
    obtain ⟨x, q2, e2, h2⟩ : ∃ x q2 e2, f q1 e1 = (x, q2, e2) := ⟨_, _, _, rfl⟩
    simp only [many, h1, h2, Prod.mk.injEq] at hm
    obtain ⟨rfl, rfl, rfl⟩ := hm
    obtain ⟨rfl, d2, r2⟩ := h _ _ _ _ h2
    obtain ⟨rfl, d1, r1⟩ := ih _ _ _ _ h1
    refine ⟨rfl, ?_, ?_⟩
    · rw [d1, d2]; simp [List.flatMap_append]
    · rw [r2, r1]; simp [List.flatMap_append]; omega
theorem num_back2 {l : List UInt8} {p p' : Nat} {e lo hi V : Int} (h : numStep l p e lo hi = (V, p', 0)) :
    e = 0 ∧ 0 ≤ V ∧ lo ≤ V ∧ V ≤ hi ∧ l.drop p = enc V.toNat ++ l.drop p' ∧ p' = p + (enc V.toNat).length := by
  obtain ⟨h1, N, rfl, _, h3, h4, h5, h6⟩ := num_back h
  exact ⟨h1, Int.natCast_nonneg _, h3, h4, h5, h6⟩
theorem text_backN {l S : List UInt8} {p p' : Nat} {e most : Int} (h : textStep l p e most = (S, p', 0)) :
    e = 0 ∧ l.drop p = encText (bL S) ++ l.drop p' ∧ p' = p + (encText (bL S)).length := by
  unfold textStep at h
  by_cases he : e = 0
  · refine ⟨he, ?_⟩
    rw [if_neg (by simp [he])] at h
    by_cases h2 : (look (l.drop p)).2.2 = 0
    · rw [if_neg (by simp [h2])] at h
      split at h
      · simp at h
      · split at h
        · simp at h
        · rename_i h3 h4
          simp only [Prod.mk.injEq, and_true] at h
          have hk : look (l.drop p) = ((look (l.drop p)).1, (look (l.drop p)).2.1, 0) := by rw [← h2]
          obtain ⟨g1, g2, g3, g4⟩ := look_ok hk
          generalize (look (l.drop p)).1 = N at *
          generalize (look (l.drop p)).2.1 = u at *
          obtain ⟨rfl, rfl⟩ := h
          rw [List.length_drop] at g2
          have hsz : (bL ((l.drop (p + u)).take N)).size = N := by
            rw [← size_list]
            show ((l.drop (p + u)).take N).length = N
            rw [List.length_take, List.length_drop]
            omega
          have hlen : (encText (bL ((l.drop (p + u)).take N))).length = u + N := by rw [encText_length, hsz, g4]
          refine ⟨?_, by rw [hlen]; omega⟩
          rw [encText, hsz, ← g3]
          show l.drop p = (l.drop p).take u ++ (l.drop (p + u)).take N ++ l.drop (p + u + N)
          rw [← List.drop_drop (i := N) (j := p + u), List.append_assoc, List.take_append_drop, ← List.drop_drop, List.take_append_drop]
    · rw [if_pos h2] at h
      simp only [Prod.mk.injEq] at h
      exact absurd h.2.2 h2
  · rw [if_pos he] at h
    simp only [Prod.mk.injEq] at h
    exact absurd h.2.2 he
theorem textStep_len (l : List UInt8) (p : Nat) (e : Int) (most : Nat) : (textStep l p e most).1.length ≤ most := by
  unfold textStep
  split
  · exact Nat.zero_le _
  · split
    · exact Nat.zero_le _
    · split
      · exact Nat.zero_le _
      · split
        · exact Nat.zero_le _
        · rw [List.length_take]; omega
theorem numStep_bound (l : List UInt8) (p : Nat) (e least most : Int) (h1 : 0 ≤ most) : 0 ≤ (numStep l p e least most).1 ∧ (numStep l p e least most).1 ≤ most := by
  unfold numStep
  split
  · exact ⟨Int.le_refl _, h1⟩
  · split
    · exact ⟨Int.le_refl _, h1⟩
    · split
      · exact ⟨Int.le_refl _, h1⟩
      · rename_i h
        exact ⟨Int.natCast_nonneg _, by show ((look (l.drop p)).1 : Int) ≤ most; omega⟩
section
variable (l : List UInt8)
def rStep (p : Nat) (e : Int) : Ro × Nat × Int :=
  let t := numStep l p e 1 16
  let s := textStep l t.2.1 t.2.2 8
  ((domB t.1, bL s.1), s.2)
def rollsStep (p : Nat) (e : Int) : List Ro × Nat × Int :=
  let t := numStep l p e 0 4
  many (rStep l) t.1.toNat t.2.1 t.2.2
def idStep (p : Nat) (e : Int) : (Int × Int) × Nat × Int :=
  let t := numStep l p e 1 16
  let s := numStep l t.2.1 t.2.2 1 4000
  ((t.1, s.1), s.2)
def idsStep (p : Nat) (e : Int) : List (Int × Int) × Nat × Int :=
  let t := numStep l p e 0 64
  many (idStep l) t.1.toNat t.2.1 t.2.2
/-- What stands behind a caveat's kind. -/
def cavTail (k : Int) (p : Nat) (e : Int) : Cav × Nat × Int :=
  if k = 1 then (⟨1, (rollsStep l p e).1, 0, E0⟩, (rollsStep l p e).2)
  else if k = 2 then (⟨2, [], (numStep l p e 0 1099511627776).1, E0⟩, (numStep l p e 0 1099511627776).2)
  else if k = 3 then (⟨3, [], 0, bL (textStep l p e 8).1⟩, (textStep l p e 8).2)
  else (⟨k, [], 0, E0⟩, p, e)
def cavStep (p : Nat) (e : Int) : Cav × Nat × Int :=
  let t := numStep l p e 1 3
  cavTail l t.1 t.2.1 t.2.2
def cavsStep (p : Nat) (e : Int) : List Cav × Nat × Int :=
  let t := numStep l p e 0 6
  many (cavStep l) t.1.toNat t.2.1 t.2.2
/-- A token's parts, one after the other. -/
def rawT (p : Nat) (e : Int) : Tok × Nat × Int :=
  let d := numStep l p e 1 16
  let ep := numStep l d.2.1 d.2.2 1 1000
  let n := numStep l ep.2.1 ep.2.2 1 1099511627776
  let w := textStep l n.2.1 n.2.2 8
  let r := rollsStep l w.2.1 w.2.2
  let u := numStep l r.2.1 r.2.2 0 1099511627776
  let s := idsStep l u.2.1 u.2.2
  let c := cavsStep l s.2.1 s.2.2
  let g := textStep l c.2.1 c.2.2 32
  (⟨d.1, ep.1, n.1, bL w.1, r.1, u.1, s.1, c.1, g.1⟩, g.2)
open Classical in
noncomputable def readE (p : Nat) (e : Int) : Int := if OkTok (rawT l p e).1 then (rawT l p e).2.2 else if (rawT l p e).2.2 = 0 then 2 else (rawT l p e).2.2
noncomputable def readT (p : Nat) (e : Int) : Tok × Nat × Int := (if readE l p e = 0 then (rawT l p e).1 else Tok.zero, (rawT l p e).2.1, readE l p e)
end
def putT (t : Tok) : List UInt8 := headB t ++ (enc t.cavs.length ++ (t.cavs.flatMap cavB ++ encText (bL t.tag)))
section
variable {l : List UInt8}
theorem rStep_back : Back l (rStep l) fun r => putR r.1 r.2 := by
  intro p e x q h
  obtain ⟨V, p1, e1, h1⟩ : ∃ V p1 e1, numStep l p e 1 16 = (V, p1, e1) := ⟨_, _, _, rfl⟩
  obtain ⟨S, p2, e2, h2⟩ : ∃ S p2 e2, textStep l p1 e1 8 = (S, p2, e2) := ⟨_, _, _, rfl⟩
  simp only [rStep, h1, h2, Prod.mk.injEq] at h
  obtain ⟨rfl, rfl, rfl⟩ := h
  obtain ⟨rfl, d2, q2⟩ := text_backN h2
  obtain ⟨rfl, k0, k1, k2, d1, q1⟩ := num_back2 h1
  have hn : numL (domB V).data.toList = V.toNat := by show numL (domL V) = _; rw [numL_domL _ k1 k2]
  refine ⟨rfl, ?_, ?_⟩
  · simp only [putR, hn]
    rw [d1, d2, List.append_assoc]
  · simp only [putR, hn]
    rw [q2, q1, List.length_append]; (try dsimp only); omega
theorem rollsStep_back : Back l (rollsStep l) rollsB := by
  intro p e x q h
  obtain ⟨V, p1, e1, h1⟩ : ∃ V p1 e1, numStep l p e 0 4 = (V, p1, e1) := ⟨_, _, _, rfl⟩
  have hl := many_len (rStep l) V.toNat p1 e1
  simp only [rollsStep, h1] at h
  rw [h] at hl
  dsimp only at hl
  obtain ⟨rfl, d2, q2⟩ := many_back rStep_back _ _ _ _ _ h
  obtain ⟨rfl, k0, k1, k2, d1, q1⟩ := num_back2 h1
  refine ⟨rfl, ?_, ?_⟩
  · rw [d1, d2, rollsB, ← hl, List.append_assoc]
  · rw [q2, q1, rollsB, ← hl, List.length_append]; (try dsimp only); omega
theorem idStep_back : Back l (idStep l) fun x => enc x.1.toNat ++ enc x.2.toNat := by
  intro p e x q h
  obtain ⟨V, p1, e1, h1⟩ : ∃ V p1 e1, numStep l p e 1 16 = (V, p1, e1) := ⟨_, _, _, rfl⟩
  obtain ⟨S, p2, e2, h2⟩ : ∃ S p2 e2, numStep l p1 e1 1 4000 = (S, p2, e2) := ⟨_, _, _, rfl⟩
  simp only [idStep, h1, h2, Prod.mk.injEq] at h
  obtain ⟨rfl, rfl, rfl⟩ := h
  obtain ⟨rfl, _, _, _, d2, q2⟩ := num_back2 h2
  obtain ⟨rfl, k0, k1, k2, d1, q1⟩ := num_back2 h1
  refine ⟨rfl, ?_, ?_⟩
  · rw [d1, d2, List.append_assoc]
  · rw [q2, q1, List.length_append]; (try dsimp only); omega
theorem cavStep_back : Back l (cavStep l) cavB := by
  intro p e x q h
  obtain ⟨V, p1, e1, h1⟩ : ∃ V p1 e1, numStep l p e 1 3 = (V, p1, e1) := ⟨_, _, _, rfl⟩
  simp only [cavStep, h1] at h
  unfold cavTail at h
  split at h
  · rename_i hk
    subst hk
    obtain ⟨S, p2, e2, h2⟩ : ∃ S p2 e2, rollsStep l p1 e1 = (S, p2, e2) := ⟨_, _, _, rfl⟩
    simp only [h2, Prod.mk.injEq] at h
    obtain ⟨rfl, rfl, rfl⟩ := h
    obtain ⟨rfl, d2, q2⟩ := rollsStep_back _ _ _ _ h2
    obtain ⟨rfl, k0, k1, k2, d1, q1⟩ := num_back2 h1
    refine ⟨rfl, ?_, ?_⟩
    · rw [d1, d2, cavB, if_pos rfl, List.append_assoc]
    · rw [q2, q1, cavB, if_pos rfl, List.length_append]; (try dsimp only); omega
  · split at h
    · rename_i _ hk
      subst hk
      obtain ⟨S, p2, e2, h2⟩ : ∃ S p2 e2, numStep l p1 e1 0 1099511627776 = (S, p2, e2) := ⟨_, _, _, rfl⟩
      simp only [h2, Prod.mk.injEq] at h
      obtain ⟨rfl, rfl, rfl⟩ := h
      obtain ⟨rfl, _, _, _, d2, q2⟩ := num_back2 h2
      obtain ⟨rfl, k0, k1, k2, d1, q1⟩ := num_back2 h1
      refine ⟨rfl, ?_, ?_⟩
      · rw [d1, d2, cavB, if_neg (by simp), if_pos rfl, List.append_assoc]
      · rw [q2, q1, cavB, if_neg (by simp), if_pos rfl, List.length_append]; (try dsimp only); omega
    · split at h
      · rename_i _ _ hk
        subst hk
        obtain ⟨S, p2, e2, h2⟩ : ∃ S p2 e2, textStep l p1 e1 8 = (S, p2, e2) := ⟨_, _, _, rfl⟩
        simp only [h2, Prod.mk.injEq] at h
        obtain ⟨rfl, rfl, rfl⟩ := h
        obtain ⟨rfl, d2, q2⟩ := text_backN h2
        obtain ⟨rfl, k0, k1, k2, d1, q1⟩ := num_back2 h1
        refine ⟨rfl, ?_, ?_⟩
        · rw [d1, d2, cavB, if_neg (by simp), if_neg (by simp), List.append_assoc]
        · rw [q2, q1, cavB, if_neg (by simp), if_neg (by simp), List.length_append]; (try dsimp only); omega
      · simp only [Prod.mk.injEq] at h
        obtain ⟨rfl, rfl, rfl⟩ := h
        obtain ⟨_, k0, k1, k2, _⟩ := num_back2 h1
        omega
theorem rawT_back {p : Nat} {t : Tok} {e : Int} {q : Nat} (h : rawT l p e = (t, q, 0)) : e = 0 ∧ l.drop p = putT t ++ l.drop q ∧ q = p + (putT t).length := by
  obtain ⟨v1, p1, e1, h1⟩ : ∃ V p1 e1, numStep l p e 1 16 = (V, p1, e1) := ⟨_, _, _, rfl⟩
  obtain ⟨v2, p2, e2, h2⟩ : ∃ x' p' e', numStep l p1 e1 1 1000 = (x', p', e') := ⟨_, _, _, rfl⟩
  obtain ⟨v3, p3, e3, h3⟩ : ∃ x' p' e', numStep l p2 e2 1 1099511627776 = (x', p', e') := ⟨_, _, _, rfl⟩
  obtain ⟨v4, p4, e4, h4⟩ : ∃ x' p' e', textStep l p3 e3 8 = (x', p', e') := ⟨_, _, _, rfl⟩
  obtain ⟨v5, p5, e5, h5⟩ : ∃ x' p' e', rollsStep l p4 e4 = (x', p', e') := ⟨_, _, _, rfl⟩
  obtain ⟨v6, p6, e6, h6⟩ : ∃ x' p' e', numStep l p5 e5 0 1099511627776 = (x', p', e') := ⟨_, _, _, rfl⟩
  obtain ⟨v7, p7, e7, h7⟩ : ∃ x' p' e', numStep l p6 e6 0 64 = (x', p', e') := ⟨_, _, _, rfl⟩
  obtain ⟨v8, p8, e8, h8⟩ : ∃ x' p' e', many (idStep l) v7.toNat p7 e7 = (x', p', e') := ⟨_, _, _, rfl⟩
  obtain ⟨v9, p9, e9, h9⟩ : ∃ x' p' e', numStep l p8 e8 0 6 = (x', p', e') := ⟨_, _, _, rfl⟩
  obtain ⟨va, pa, ea, ha⟩ : ∃ x' p' e', many (cavStep l) v9.toNat p9 e9 = (x', p', e') := ⟨_, _, _, rfl⟩
  obtain ⟨vb, pb, eb, hb⟩ : ∃ x' p' e', textStep l pa ea 32 = (x', p', e') := ⟨_, _, _, rfl⟩
  have l8 := many_len (idStep l) v7.toNat p7 e7
  have la := many_len (cavStep l) v9.toNat p9 e9
  rw [h8] at l8
  rw [ha] at la
  simp only [rawT, idsStep, cavsStep, h1, h2, h3, h4, h5, h6, h7, h8, h9, ha, hb, Prod.mk.injEq] at h
  obtain ⟨rfl, rfl, rfl⟩ := h
  obtain ⟨rfl, db, qb⟩ := text_backN hb
  obtain ⟨rfl, da, qa⟩ := many_back cavStep_back _ _ _ _ _ ha
  obtain ⟨rfl, _, _, _, d9, q9⟩ := num_back2 h9
  obtain ⟨rfl, d8, q8⟩ := many_back idStep_back _ _ _ _ _ h8
  obtain ⟨rfl, _, _, _, d7, q7⟩ := num_back2 h7
  obtain ⟨rfl, _, _, _, d6, q6⟩ := num_back2 h6
  obtain ⟨rfl, d5, q5⟩ := rollsStep_back _ _ _ _ h5
  obtain ⟨rfl, d4, q4⟩ := text_backN h4
  obtain ⟨rfl, _, _, _, d3, q3⟩ := num_back2 h3
  obtain ⟨rfl, _, _, _, d2, q2⟩ := num_back2 h2
  obtain ⟨rfl, _, _, _, d1, q1⟩ := num_back2 h1
  refine ⟨rfl, ?_, ?_⟩
  · rw [d1, d2, d3, d4, d5, d6, d7, d8, d9, da, db]
    simp only [putT, headB, l8, la, List.append_assoc]
  · simp only [putT, headB, l8, la, List.length_append]
    dsimp only at q8 qa
    omega
theorem readT_back {t : Tok} {p : Nat} (h : readT l 0 0 = (t, p, 0)) : OkTok t ∧ l.take p = putT t ∧ p ≤ l.length := by
  unfold readT at h
  simp only [Prod.mk.injEq] at h
  obtain ⟨h1, h2, h3⟩ := h
  rw [if_pos h3] at h1
  have hok : OkTok (rawT l 0 0).1 := by
    by_cases hk : OkTok (rawT l 0 0).1
    · exact hk
    · unfold readE at h3
      rw [if_neg hk] at h3
      split at h3
      · simp at h3
      · rename_i hne; exact absurd h3 hne
  unfold readE at h3
  rw [if_pos hok] at h3
  obtain ⟨_, d, q⟩ := rawT_back (l := l) (p := 0) (e := 0) (t := t) (q := p) (by rw [← h1, ← h2]; exact Prod.ext rfl (Prod.ext rfl h3))
  rw [List.drop_zero] at d
  rw [Nat.zero_add] at q
  have hp : l.length = (putT t).length + (l.length - p) := by
    have := congrArg List.length d
    rw [List.length_append, List.length_drop] at this
    exact this
  refine ⟨h1 ▸ hok, ?_, by omega⟩
  conv => lhs; rw [d]
  rw [q, List.take_left']
  rfl
/-- What is read, and zero, has few of all. -/
theorem rolls_len (p : Nat) (e : Int) : (rollsStep l p e).1.length ≤ 4 := by
  unfold rollsStep
  have := numStep_bound l p e 0 4 (by omega)
  simp only [many_len]
  omega
theorem rawT_lens (p : Nat) (e : Int) : (rawT l p e).1.roles.length ≤ 4 ∧ (rawT l p e).1.sup.length ≤ 64 ∧ (rawT l p e).1.cavs.length ≤ 6 ∧ (rawT l p e).1.tag.length ≤ 32 := by
  refine ⟨rolls_len _ _, ?_, ?_, textStep_len l _ _ 32⟩
  · show (idsStep l _ _).1.length ≤ 64
    unfold idsStep
    simp only [many_len]
    exact Int.toNat_le.2 (numStep_bound l _ _ 0 64 (by omega)).2
  · show (cavsStep l _ _).1.length ≤ 6
    unfold cavsStep
    simp only [many_len]
    exact Int.toNat_le.2 (numStep_bound l _ _ 0 6 (by omega)).2
theorem many_all {α : Type} {f : Nat → Int → α × Nat × Int} {P : α → Prop} (h : ∀ p e, P (f p e).1) (k p : Nat) (e : Int) : ∀ x ∈ (many f k p e).1, P x := by
  induction k with
  | zero => intro x hx; simp [many] at hx
  | succ k ih =>
    intro x hx
    rcases List.mem_append.1 hx with hx | hx
    · exact ih x hx
    · rw [List.mem_singleton.1 hx]; exact h _ _
theorem cavTail_len (k : Int) (p : Nat) (e : Int) : (cavTail l k p e).1.roles.length ≤ 4 := by
  unfold cavTail
  split
  · exact rolls_len _ _
  · split
    · exact Nat.zero_le _
    · split
      · exact Nat.zero_le _
      · exact Nat.zero_le _
theorem cavs_len (k p : Nat) (e : Int) : ∀ c ∈ (many (cavStep l) k p e).1, c.roles.length ≤ 4 := many_all (P := fun c : Cav => c.roles.length ≤ 4) (fun p e => cavTail_len _ _ _) k p e
end
end Go.Proofs.YtaadmgbmaekicaaGreatDoor.Sh
/-
  The document's own readRoles, by contract.
-/
namespace Go.Proofs.YtaadmgbmaekicaaGreatDoor.Sh
open Go Go.RowKit

set_option linter.unusedSimpArgs false
set_option linter.unusedVariables false
theorem gro_ownT {w w1 w2 : World} {row r2 : Option Nat} (h : w.grownBy w1 row) (hg : w1.grownBy w2 r2) (hb : ∀ b, r2 = some b → w.heap.size ≤ b) : w.grownBy w2 row :=
  ⟨hg.os.trans h.os, hg.tape.trans h.tape, hg.output.trans h.output, Nat.le_trans h.size hg.size, fun i hi hne => (hg.block i (Nat.lt_of_lt_of_le hi h.size) (fun e => by have := hb i e.symm; omega)).trans (h.block i hi hne)⟩
section
variable {T : TypeId} {w w' : World} {lo hi g n c p : Nat} {A : Option Addr} {l : List UInt8} {e : Int}
theorem Cu.ownT {v : Value} (h : Cu T w lo hi g A n c l p e) (hg : w.grownBy w' v.ownBlock) (hb : ∀ b, v.ownBlock = some b → g < b) : Cu T w' lo hi g A n c l p e := by
  have hh := h.hi
  cases hv : v.ownBlock with
  | none =>
    rw [hv] at hg
    exact h.other (g' := g + 1) (hg.but _) (by omega) (.inr (by omega))
  | some b =>
    rw [hv] at hg
    have := hb b hv
    exact h.other hg (by omega) (.inr (by omega))
theorem Cu.allocT (h : Cu T w lo hi g A n c l p e) (o : Obj) : Cu T (w.alloc o) lo hi g A n c l p e := h.below (B := w.heap.size) ((Below.refl _ _).alloc (Nat.le_refl _) _) h.lt
end
/-- What reads a row of elements answers: the row new, the cursor behind it. -/
def StepO {α : Type} (E : Enc α) (TE T : TypeId) (w w' : World) (lo hi g : Nat) (A : Option Addr) (n c : Nat) (l : List UInt8) (er : Ending) (x : List α × Nat × Int) : Prop :=
  ∃ (A' : Option Addr) (m c' : Nat), er = .returned (.slice A' m c') ∧ x.1.length = m ∧ Own (E := E) w' w.heap.size TE (.slice A' m c') x.1 ∧ Cu T w' lo hi g A n c l x.2.1 x.2.2 ∧ w.grownBy w' (some g)
theorem Own.cuT {α : Type} {E : Enc α} {w w' : World} {B g : Nat} {TE : TypeId} {v : Value} {l : List α} (h : Own (E := E) w B TE v l) (hg : w.grownBy w' (some g)) (hb : g < B) : Own (E := E) w' B TE v l :=
  h.kept fun b hv => hg.block b (h.lt b hv).2 (fun e => by injection e with e; have := (h.lt b hv).1; omega)
set_option maxHeartbeats 4000000 in
theorem refReadRoles_any {w : World} {lo hi g n c p : Nat} {A : Option Addr} {l : List UInt8} {e : Int} (h : Cu 41 w lo hi g A n c l p e) :
    Calls Tryz.prog 46 #[.pointer (some ⟨g, 0, none⟩)] w fun er w' => StepO encR 69 41 w w' lo hi g A n c l er (rollsStep l p e) := by
  obtain ⟨Z, hZ⟩ : ∃ Z, numStep l p e 0 4 = Z := ⟨_, rfl⟩
  have hb := numStep_bound l p e 0 4 (by omega)
  have HN := hid (rcu_number h 0 4)
  rw [hZ] at hb HN
  obtain ⟨z, p1, e1⟩ := Z
  obtain ⟨k, hk⟩ : ∃ k : Nat, z = (k : Int) := ⟨z.toNat, by simp only at hb; omega⟩
  subst hk
  simp only at hb HN
  have hk4 : k ≤ 4 := by omega
  have HRV : Hid (rollsStep l p e = many (rStep l) k p1 e1) := hid (by unfold rollsStep; simp only [hZ]; rfl)
  have HGL : Hid (g < w.heap.size) := hid h.lt
  clear h hZ hb
  go_enter Tryz.func46, Tryz.ntmps46
  go_wp2_with fail
  refine HN.out.mono ?_
  rintro er w1 ⟨rfl, hc1, hg1⟩
  have HC1 := hid hc1
  have HG1 := hid hg1
  clear hc1 hg1
  go_wp2_with fail
  go_loopw [3, 5] (fun v i wr => ∃ (A1 : Option Addr) (c1 j : Nat), v = .slice A1 j c1 ∧ i = .int .i64 (j : Int) ∧ j ≤ k ∧ Hid (Own (E := encR) wr w.heap.size 69 (.slice A1 j c1) (many (rStep l) j p1 e1).1) ∧ Hid (Cu 41 wr lo hi g A n c l (many (rStep l) j p1 e1).2.1 (many (rStep l) j p1 e1).2.2) ∧ Hid (w.grownBy wr (some g))) (fun _ i _ => k - (intOf i).toNat)
  case atStart => exact ⟨none, 0, 0, rfl, rfl, Nat.zero_le _, hid (Own.nil _ _ _), HC1, HG1⟩
  case round =>
    obtain ⟨wj, hwj⟩ : ∃ x, x = wr := ⟨_, rfl⟩
    subst hwj
    obtain ⟨A1, c1, j, rfl, rfl, hj, HO, HC, HG⟩ := hrel
    have hj0 : (0 : Int) ≤ (j : Int) := Int.natCast_nonneg _
    by_cases hlt : j < k
    · have hj1 : (j : Int) < (k : Int) := by omega
      have hml := many_len (rStep l) j p1 e1
      have hmx : many (rStep l) (j + 1) p1 e1 = ((many (rStep l) j p1 e1).1 ++ [(rStep l (many (rStep l) j p1 e1).2.1 (many (rStep l) j p1 e1).2.2).1], (rStep l (many (rStep l) j p1 e1).2.1 (many (rStep l) j p1 e1).2.2).2) := rfl
      generalize many (rStep l) j p1 e1 = M at HO HC hml hmx
      obtain ⟨L, pj, ej⟩ := M
      simp only at HO HC hml hmx
      obtain ⟨V, p2, e2, hx⟩ : ∃ V p2 e2, numStep l pj ej 1 16 = (V, p2, e2) := ⟨_, _, _, rfl⟩
      obtain ⟨S, p3, e3, hy⟩ : ∃ S p3 e3, textStep l p2 e2 8 = (S, p3, e3) := ⟨_, _, _, rfl⟩
      have HNX : Hid (many (rStep l) (j + 1) p1 e1 = (L ++ [(⟨(domL V).toArray⟩, ⟨S.toArray⟩)], p3, e3)) := hid (by rw [hmx]; simp only [rStep, hx, hy]; rfl)
      have HV : Hid (0 ≤ V ∧ V ≤ 16) := hid (by have := numStep_bound l pj ej 1 16 (by omega); rw [hx] at this; exact this)
      have hfl : L.length ≤ 1000000000000 := by omega
      have HUL : Hid (L.length = j) := hid hml
      have HNJ := hid (rcu_number HC.out 1 16)
      rw [hx] at HNJ
      clear hmx hml hx
      go_wp2_with fail
      refine HNJ.out.mono ?_
      rintro er w2 ⟨rfl, hc2, hg2⟩
      have HC2 := hid hc2
      have HO2 := hid (HO.out.cuT hg2 HGL.out)
      have HG2 := hid (gro_trans HG.out hg2)
      clear hc2 hg2 HNJ HC HO HG
      go_wp2_with fail
      refine (refDomain_any V (by have := HV.out; omega) (by have := HV.out; omega) w2).mono ?_
      rintro er w3 ⟨rfl, bb⟩
      have HC3 := hid (HC2.out.below bb HC2.out.lt)
      have HO3 := hid (HO2.out.below bb)
      have HG3 := hid (gro_below HG2.out bb)
      have HT := hid (rcu_text HC3.out 8)
      rw [hy] at HT
      clear bb HC2 HO2 HG2 HC3 hy
      go_wp2_with fail
      refine HT.out.mono ?_
      rintro er w4 ⟨rfl, hc4, hg4⟩
      have HO4 := hid (HO3.out.cuT hg4 HGL.out)
      have HG4 := hid (gro_trans HG3.out hg4)
      have HOA := hid (HO4.out.alloc (.cells #[.string ⟨(domL V).toArray⟩, .string ⟨S.toArray⟩] 69))
      have HCA := hid (hc4.allocT (.cells #[.string ⟨(domL V).toArray⟩, .string ⟨S.toArray⟩] 69))
      have HRD := hid (reads_new w4 #[.string ⟨(domL V).toArray⟩, .string ⟨S.toArray⟩] 69 (0, 0))
      have HGA := hid (gro_alloc HG4.out (.cells #[.string ⟨(domL V).toArray⟩, .string ⟨S.toArray⟩] 69))
      have hbs : w.heap.size ≤ (w4.alloc (.cells #[.string ⟨(domL V).toArray⟩, .string ⟨S.toArray⟩] 69)).heap.size := HGA.out.size
      clear hc4 hg4 HT HO3 HG3 HO4 HG4
      go_wp2_with (first | (at_builtin; refine wpList_app1 (E := encR) rfl slkR (.tmp 17) (.tmp 22) rfl (B := w.heap.size) (v := .slice A1 j c1) (l := L) HOA.out rfl (ad := ⟨w4.heap.size, 0, none⟩) (c := 1) (⟨(domL V).toArray⟩, ⟨S.toArray⟩) rfl HRD.out hfl (by omega) hbs ?_; intro A9 c9 w9 ho9 hg9 he9; have HO9 := hid ho9; have HC9 := hid (HCA.out.ownT hg9 (fun b hb => Nat.lt_of_lt_of_le HGL.out (HOA.out.lt b hb).1)); have HG9 := hid (gro_ownT HGA.out hg9 (fun b hb => (HOA.out.lt b hb).1)); clear ho9 hg9 he9) | go_in)
      rw [HUL.out] at HO9 ⊢
      go_roundw
      case rel => exact ⟨A9, c9, j + 1, rfl, by go_num, by omega, hid (by rw [HNX.out]; exact HO9.out), hid (by rw [HNX.out]; exact HC9.out), HG9⟩
      case measure => simp [intOf]; omega
    · obtain rfl : j = k := by omega
      have hk1 : ¬ (j : Int) < (j : Int) := by omega
      go_wp2_with fail
      go_ret
      rw [HRV.out]
      exact ⟨A1, j, c1, rfl, many_len _ _ _ _, HO.out, HC.out, HG.out⟩
end Go.Proofs.YtaadmgbmaekicaaGreatDoor.Sh
