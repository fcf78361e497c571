/-
  What spreads: the rounds keep what is said, and at the end nothing is wanting. Pure.
-/
import Derived.Test.YtfbapbpggicfbaaGreatDoorJz4
set_option linter.unusedVariables false
set_option linter.unusedSimpArgs false
namespace Go.Proofs.YtfbapbpggicfbaaGreatDoor.Sh
open Go Go.RowKit

def Popped (s : St) (p : Pr) : Prop := p ∈ s.kn ∧ p ∉ s.fr
/-- s' has the static parts of s. -/
structure SameR (s s' : St) : Prop where
  giv : s'.giv = s.giv
  bth : s'.bth = s.bth
  lnk : s'.lnk = s.lnk
  keys : s'.keys = s.keys
theorem SameR.refl (s : St) : SameR s s := ⟨rfl, rfl, rfl, rfl⟩
theorem SameR.trans {a b c : St} (h : SameR a b) (h' : SameR b c) : SameR a c := ⟨h'.giv.trans h.giv, h'.bth.trans h.bth, h'.lnk.trans h.lnk, h'.keys.trans h.keys⟩
theorem add_known {s : St} {p : Pr} (h : p ∈ s.kn) : s.add p = s := if_pos h
theorem add_new {s : St} {p : Pr} (h : p ∉ s.kn) : s.add p = { s with kn := s.kn ++ [p], fr := s.fr ++ [p] } := if_neg h
theorem add_same (s : St) (p : Pr) : SameR s (s.add p) := by unfold St.add; split <;> exact ⟨rfl, rfl, rfl, rfl⟩
theorem add_inc (s : St) (p : Pr) : (s.add p).inc = s.inc := by unfold St.add; split <;> rfl
theorem add_ic (s : St) (p : Pr) : (s.add p).ic = s.ic := by unfold St.add; split <;> rfl
theorem add_mem {s : St} {p q : Pr} : q ∈ (s.add p).kn ↔ q ∈ s.kn ∨ q = p := by
  unfold St.add
  split
  · rename_i h
    constructor
    · exact fun h' => .inl h'
    · rintro (h' | rfl)
      · exact h'
      · exact h
  · simp
/-- What holds all along: E.. : pairs for which a rule has not been asked yet. -/
structure Spr (S : Crd → Prop) (X : ByteArray → Prop) (EI EB EL : Pr → Prop) (s : St) : Prop where
  nd : s.kn.Nodup
  fnd : s.fr.Nodup
  sub : ∀ p ∈ s.fr, p ∈ s.kn
  snd : ∀ p ∈ s.kn, Imp S p ∧ X p.2
  incS : ∀ r g, g ∈ s.inc r → ∀ x, Imp S (r, x) → Imp S (g, x)
  bthS : ∀ r b, b ∈ s.bth r → ∀ x, Imp S (r, x) → Imp S (b.1, x) → Imp S (b.2, x)
  lnkS : ∀ r k, k ∈ s.lnk r → ∀ y x, isD y → Imp S (r, y) → Imp S ((y, k.1), x) → Imp S (k.2, x)
  dI : ∀ p, Popped s p → ¬ EI p → ∀ g ∈ s.inc p.1, (g, p.2) ∈ s.kn
  dB : ∀ p, Popped s p → ¬ EB p → ∀ b ∈ s.bth p.1, Popped s (b.1, p.2) → ¬ EB (b.1, p.2) → (b.2, p.2) ∈ s.kn
  bsym : ∀ r b, b ∈ s.bth r → (r, b.2) ∈ s.bth b.1
  dL : ∀ p, Popped s p → ¬ EL p → ∀ k ∈ s.lnk p.1, k.2 ∈ s.inc (p.2, k.1)
theorem popped_add {s : St} (_hs : ∀ p ∈ s.fr, p ∈ s.kn) (x p : Pr) : Popped (s.add x) p ↔ Popped s p := by
  by_cases h : x ∈ s.kn
  · rw [add_known h]
  · rw [add_new h]
    unfold Popped
    simp only [List.mem_append, List.mem_singleton, not_or]
    constructor
    · rintro ⟨h1 | h1, h2, h3⟩
      · exact ⟨h1, h2⟩
      · exact absurd h1 h3
    · rintro ⟨h1, h2⟩
      exact ⟨.inl h1, h2, fun e => h (e ▸ h1)⟩
section
variable {S : Crd → Prop} {X : ByteArray → Prop} {EI EB EL : Pr → Prop} {s : St}
theorem Spr.add (h : Spr S X EI EB EL s) {x : Pr} (hx : Imp S x) (hX : X x.2) : Spr S X EI EB EL (s.add x) := by
  have hp := popped_add h.sub x
  by_cases hk : x ∈ s.kn
  · rw [add_known hk]; exact h
  have hm : ∀ {q : Pr}, q ∈ s.kn → q ∈ (s.add x).kn := fun hq => add_mem.2 (.inl hq)
  refine ⟨?_, ?_, ?_, ?_, ?_, ?_, ?_, ?_, ?_, ?_, ?_⟩
  · rw [add_new hk]
    exact List.nodup_append.2 ⟨h.nd, by simp, fun a ha b hb e => by simp at hb; subst hb; exact hk (e ▸ ha)⟩
  · rw [add_new hk]
    exact List.nodup_append.2 ⟨h.fnd, by simp, fun a ha b hb e => by simp at hb; subst hb; exact hk (e ▸ h.sub a ha)⟩
  · rw [add_new hk]
    intro p hp
    rcases List.mem_append.1 hp with hp | hp
    · exact List.mem_append.2 (.inl (h.sub p hp))
    · exact List.mem_append.2 (.inr hp)
  · intro p hp
    rcases add_mem.1 hp with hp | rfl
    · exact h.snd p hp
    · exact ⟨hx, hX⟩
  · rw [add_inc]; exact h.incS
  · rw [(add_same s x).bth]; exact h.bthS
  · rw [(add_same s x).lnk]; exact h.lnkS
  · intro p hpp hE g hg
    rw [add_inc] at hg
    exact hm (h.dI p ((hp p).1 hpp) hE g hg)
  · intro p hpp hE b hb hb1 hE1
    rw [(add_same s x).bth] at hb
    exact hm (h.dB p ((hp p).1 hpp) hE b hb ((hp _).1 hb1) hE1)
  · rw [(add_same s x).bth]; exact h.bsym
  · intro p hpp hE k hk'
    rw [(add_same s x).lnk] at hk'
    rw [add_inc]
    exact h.dL p ((hp p).1 hpp) hE k hk'
end
/-- What grows in a round. -/
structure Grew (s s' : St) : Prop where
  same : SameR s s'
  kn : ∀ p ∈ s.kn, p ∈ s'.kn
  inc : ∀ r g, g ∈ s.inc r → g ∈ s'.inc r
  pop : ∀ p, Popped s' p ↔ Popped s p
  len : s'.kn.length + s.fr.length = s.kn.length + s'.fr.length
theorem Grew.refl (s : St) : Grew s s := ⟨.refl s, fun _ h => h, fun _ _ h => h, fun _ => Iff.rfl, rfl⟩
theorem Grew.trans {a b c : St} (h : Grew a b) (h' : Grew b c) : Grew a c :=
  ⟨h.same.trans h'.same, fun p hp => h'.kn p (h.kn p hp), fun r g hg => h'.inc r g (h.inc r g hg), fun p => (h'.pop p).trans (h.pop p), by have := h.len; have := h'.len; omega⟩
theorem Grew.add {s : St} (hs : ∀ p ∈ s.fr, p ∈ s.kn) (x : Pr) : Grew s (s.add x) :=
  ⟨add_same s x, fun _ hp => add_mem.2 (.inl hp), fun r g hg => by rw [add_inc]; exact hg, popped_add hs x, by
    by_cases h : x ∈ s.kn
    · rw [add_known h]
    · rw [add_new h]; simp; omega⟩
section
variable {S : Crd → Prop} {X : ByteArray → Prop} {EI EB EL : Pr → Prop}
theorem adds_spr (x : ByteArray) (hX : X x) : ∀ (l : List Rl) {s : St} (_ : Spr S X EI EB EL s) (_ : ∀ r ∈ l, Imp S (r, x)),
    Spr S X EI EB EL (l.foldl (fun s r => s.add (r, x)) s) ∧ Grew s (l.foldl (fun s r => s.add (r, x)) s) ∧ (l.foldl (fun s r => s.add (r, x)) s).inc = s.inc ∧ (l.foldl (fun s r => s.add (r, x)) s).ic = s.ic ∧ ∀ r ∈ l, (r, x) ∈ (l.foldl (fun s r => s.add (r, x)) s).kn
  | [], s, h, _ => ⟨h, .refl s, rfl, rfl, fun _ h => by cases h⟩
  | r :: l, s, h, hl => by
    have h1 := h.add (hl r (by simp)) hX
    obtain ⟨a1, a2, a3, a4, a5⟩ := adds_spr x hX l h1 (fun r' hr => hl r' (by simp [hr]))
    refine ⟨a1, (Grew.add h.sub _).trans a2, a3.trans (add_inc _ _), a4.trans (add_ic _ _), ?_⟩
    intro r' hr
    rcases List.mem_cons.1 hr with rfl | hr
    · exact a2.kn _ (add_mem.2 (.inr rfl))
    · exact a5 r' hr
theorem boths_spr (q : Pr) (hX : X q.2) (hq : Imp S q) : ∀ (l : List (Rl × Rl)) {s : St} (_ : Spr S X EI EB EL s) (_ : ∀ b ∈ l, b ∈ s.bth q.1),
    Spr S X EI EB EL (l.foldl (St.bothO q) s) ∧ Grew s (l.foldl (St.bothO q) s) ∧ (l.foldl (St.bothO q) s).inc = s.inc ∧ (l.foldl (St.bothO q) s).ic = s.ic ∧ ∀ b ∈ l, (b.1, q.2) ∈ s.kn → (b.2, q.2) ∈ (l.foldl (St.bothO q) s).kn
  | [], s, h, _ => ⟨h, .refl s, rfl, rfl, fun _ h => by cases h⟩
  | b :: l, s, h, hl => by
    have key : Spr S X EI EB EL (St.bothO q s b) ∧ Grew s (St.bothO q s b) ∧ (St.bothO q s b).inc = s.inc ∧ (St.bothO q s b).ic = s.ic ∧ ((b.1, q.2) ∈ s.kn → (b.2, q.2) ∈ (St.bothO q s b).kn) := by
      unfold St.bothO
      split
      · rename_i hk
        exact ⟨h.add (h.bthS q.1 b (hl b (by simp)) q.2 hq (h.snd _ hk).1) hX, .add h.sub _, add_inc _ _, add_ic _ _, fun _ => add_mem.2 (.inr rfl)⟩
      · rename_i hk
        exact ⟨h, .refl s, rfl, rfl, fun h' => absurd h' hk⟩
    obtain ⟨k1, k2, k3, k4, k5⟩ := key
    obtain ⟨a1, a2, a3, a4, a5⟩ := boths_spr q hX hq l k1 (fun b' hb => by rw [k2.same.bth]; exact hl b' (by simp [hb]))
    refine ⟨a1, k2.trans a2, a3.trans k3, a4.trans k4, ?_⟩
    intro b' hb hk
    rcases List.mem_cons.1 hb with rfl | hb
    · exact a2.kn _ (k5 hk)
    · exact a5 b' hb (k2.kn _ hk)
theorem linkD_spr (r g : Rl) (hX : ∀ y, isD y → X y) (hg : ∀ x, Imp S (r, x) → Imp S (g, x)) : ∀ (l : List Nat) {s : St} (_ : Spr S X EI EB EL s) (_ : ∀ n ∈ l, n < 16),
    Spr S X EI EB EL (l.foldl (St.linkD r g) s) ∧ Grew s (l.foldl (St.linkD r g) s) ∧ (l.foldl (St.linkD r g) s).inc = s.inc ∧ (l.foldl (St.linkD r g) s).ic = s.ic ∧
      ∀ n ∈ l, (r, domB ((n : Int) + 1)) ∈ s.kn → (g, domB ((n : Int) + 1)) ∈ (l.foldl (St.linkD r g) s).kn
  | [], s, h, _ => ⟨h, .refl s, rfl, rfl, fun _ h => by cases h⟩
  | n :: l, s, h, hl => by
    have key : Spr S X EI EB EL (St.linkD r g s n) ∧ Grew s (St.linkD r g s n) ∧ (St.linkD r g s n).inc = s.inc ∧ (St.linkD r g s n).ic = s.ic ∧ ((r, domB ((n : Int) + 1)) ∈ s.kn → (g, domB ((n : Int) + 1)) ∈ (St.linkD r g s n).kn) := by
      unfold St.linkD
      split
      · rename_i hk
        exact ⟨h.add (hg _ (h.snd _ hk).1) (hX _ ((isD_iff _).2 ⟨n, hl n (by simp), rfl⟩)), .add h.sub _, add_inc _ _, add_ic _ _, fun _ => add_mem.2 (.inr rfl)⟩
      · rename_i hk
        exact ⟨h, .refl s, rfl, rfl, fun h' => absurd h' hk⟩
    obtain ⟨k1, k2, k3, k4, k5⟩ := key
    obtain ⟨a1, a2, a3, a4, a5⟩ := linkD_spr r g hX hg l k1 (fun m hm => hl m (by simp [hm]))
    refine ⟨a1, k2.trans a2, a3.trans k3, a4.trans k4, ?_⟩
    intro m hm hk
    rcases List.mem_cons.1 hm with rfl | hm
    · exact a2.kn _ (k5 hk)
    · exact a5 m hm (k2.kn _ hk)
end
def none' : Pr → Prop := fun _ => False

section
variable {S : Crd → Prop} {EB EL : Pr → Prop}
/-- A new Include row, and what the domains make of it. -/
theorem linkO_spr (q : Pr) (hq : Imp S q) (hD : isD q.2) (k : ByteArray × Rl) {s : St} (h : Spr S isD none' EB EL s) (hk : k ∈ s.lnk q.1) :
    Spr S isD none' EB EL (St.linkO q s k) ∧ Grew s (St.linkO q s k) ∧ (St.linkO q s k).ic = s.ic + 1 ∧ k.2 ∈ (St.linkO q s k).inc (q.2, k.1) := by
  have hg : ∀ x, Imp S ((q.2, k.1), x) → Imp S (k.2, x) := fun x hx => h.lnkS q.1 k hk q.2 x hD hq hx
  have h1 : Spr S isD (fun p => p.1 = (q.2, k.1)) EB EL (s.addInc (q.2, k.1) k.2) := by
    refine ⟨h.nd, h.fnd, h.sub, h.snd, ?_, h.bthS, h.lnkS, ?_, h.dB, h.bsym, ?_⟩
    · intro r g hr x hx
      rcases upd_mem.1 hr with hr | ⟨rfl, rfl⟩
      · exact h.incS r g hr x hx
      · exact hg x hx
    · intro p hp hE g hr
      rcases upd_mem.1 hr with hr | ⟨hr, _⟩
      · exact h.dI p hp id g hr
      · exact absurd hr hE
    · intro p hp hE k' hk'
      exact upd_mem.2 (.inl (h.dL p hp hE k' hk'))
  obtain ⟨a1, a2, a3, a4, a5⟩ := linkD_spr (q.2, k.1) k.2 (fun _ h => h) hg (List.range 16) h1 (fun n hn => List.mem_range.1 hn)
  have e : St.linkO q s k = (List.range 16).foldl (St.linkD (q.2, k.1) k.2) (s.addInc (q.2, k.1) k.2) := rfl
  rw [← e] at a1 a2 a3 a4 a5
  have hmem : k.2 ∈ (St.linkO q s k).inc (q.2, k.1) := by rw [a3]; exact upd_mem.2 (.inr ⟨rfl, rfl⟩)
  refine ⟨⟨a1.nd, a1.fnd, a1.sub, a1.snd, a1.incS, a1.bthS, a1.lnkS, ?_, a1.dB, a1.bsym, a1.dL⟩, ⟨⟨a2.same.giv, a2.same.bth, a2.same.lnk, a2.same.keys⟩, a2.kn, fun r g hr => a2.inc r g (upd_mem.2 (.inl hr)), a2.pop, a2.len⟩, a4, hmem⟩
  intro p hp _ g hr
  by_cases hE : p.1 = (q.2, k.1)
  · rw [a3] at hr
    rcases upd_mem.1 hr with hr | ⟨_, rfl⟩
    · exact a2.kn _ (h.dI p ((a2.pop p).1 hp) id g hr)
    · have hpk := ((a2.pop p).1 hp).1
      obtain ⟨n, hn, e2⟩ := (isD_iff _).1 (h.snd p hpk).2
      rw [e2]
      refine a5 n (List.mem_range.2 hn) ?_
      rw [← e2, ← hE]
      exact hpk
  · exact a1.dI p hp hE g hr
theorem links_spr (q : Pr) (hq : Imp S q) (hD : isD q.2) : ∀ (l : List (ByteArray × Rl)) {s : St} (_ : Spr S isD none' EB EL s) (_ : ∀ k ∈ l, k ∈ s.lnk q.1),
    Spr S isD none' EB EL (l.foldl (St.linkO q) s) ∧ Grew s (l.foldl (St.linkO q) s) ∧ (l.foldl (St.linkO q) s).ic = s.ic + l.length ∧ ∀ k ∈ l, k.2 ∈ (l.foldl (St.linkO q) s).inc (q.2, k.1)
  | [], s, h, _ => ⟨h, .refl s, rfl, fun _ h => by cases h⟩
  | k :: l, s, h, hl => by
    obtain ⟨k1, k2, k3, k4⟩ := linkO_spr q hq hD k h (hl k (by simp))
    obtain ⟨a1, a2, a3, a4⟩ := links_spr q hq hD l k1 (fun k' hk => by rw [k2.same.lnk]; exact hl k' (by simp [hk]))
    rw [List.foldl_cons]
    refine ⟨a1, k2.trans a2, by rw [a3, k3, List.length_cons]; omega, ?_⟩
    intro k' hk
    rcases List.mem_cons.1 hk with rfl | hk
    · exact a2.inc _ _ k4
    · exact a4 k' hk
end
/-! ### a turn -/
theorem pop_last {s : St} {q : Pr} {f0 : List Pr} (h : s.fr = f0 ++ [q]) : s.pop = { s with fr := f0 } := by
  unfold St.pop
  rw [h]
  simp
section
variable {S : Crd → Prop} {X : ByteArray → Prop} {EL : Pr → Prop} {s : St} {q : Pr} {f0 : List Pr}
theorem popped_pop (hn : s.fr.Nodup) (hs : ∀ p ∈ s.fr, p ∈ s.kn) (h : s.fr = f0 ++ [q]) (p : Pr) : Popped s.pop p ↔ Popped s p ∨ p = q := by
  rw [pop_last h]
  unfold Popped
  simp only
  have hq : q ∉ f0 := by
    rw [h] at hn
    exact fun hq => (List.nodup_append.1 hn).2.2 q hq q (by simp) rfl
  constructor
  · rintro ⟨h1, h2⟩
    by_cases e : p = q
    · exact .inr e
    · exact .inl ⟨h1, by rw [h]; simp [h2, e]⟩
  · rintro (⟨h1, h2⟩ | rfl)
    · exact ⟨h1, fun h' => h2 (by rw [h]; simp [h'])⟩
    · exact ⟨hs _ (by rw [h]; simp), hq⟩
theorem Spr.pop (h : Spr S X none' none' none' s) (hf : s.fr = f0 ++ [q]) : Spr S X (· = q) (· = q) (· = q) s.pop ∧ Imp S q ∧ X q.2 := by
  have hp := popped_pop h.fnd h.sub hf
  have hq := h.snd q (h.sub q (by rw [hf]; simp))
  refine ⟨⟨?_, ?_, ?_, ?_, ?_, ?_, ?_, ?_, ?_, ?_, ?_⟩, hq⟩
  · rw [pop_last hf]; exact h.nd
  · rw [pop_last hf]; have := h.fnd; rw [hf] at this; exact (List.nodup_append.1 this).1
  · rw [pop_last hf]; exact fun p hp => h.sub p (by rw [hf]; simp [show p ∈ f0 from hp])
  · rw [pop_last hf]; exact h.snd
  · rw [pop_last hf]; exact h.incS
  · rw [pop_last hf]; exact h.bthS
  · rw [pop_last hf]; exact h.lnkS
  · intro p hpp hE
    rcases (hp p).1 hpp with h1 | h1
    · rw [pop_last hf]; exact h.dI p h1 id
    · exact absurd h1 hE
  · intro p hpp hE b hb hb1 hE1
    rcases (hp p).1 hpp with h1 | h1
    · rcases (hp _).1 hb1 with h2 | h2
      · rw [pop_last hf] at hb ⊢; exact h.dB p h1 id b hb h2 id
      · exact absurd h2 hE1
    · exact absurd h1 hE
  · rw [pop_last hf]; exact h.bsym
  · intro p hpp hE
    rcases (hp p).1 hpp with h1 | h1
    · rw [pop_last hf]; exact h.dL p h1 id
    · exact absurd h1 hE
/-- The first two rules. -/
theorem two_spr (h : Spr S X none' none' none' s) (hf : s.fr = f0 ++ [q]) :
    Spr S X none' none' (· = q) ((s.pop.include q).both q) ∧ Grew s.pop ((s.pop.include q).both q) ∧ ((s.pop.include q).both q).ic = s.ic ∧ Imp S q ∧ X q.2 := by
  obtain ⟨h1, hq, hX⟩ := h.pop hf
  obtain ⟨a1, a2, a3, a4, a5⟩ := adds_spr q.2 hX (s.pop.inc q.1) h1 (fun r hr => h1.incS q.1 r hr q.2 hq)
  have ei : s.pop.include q = (s.pop.inc q.1).foldl (fun s r => s.add (r, q.2)) s.pop := rfl
  rw [← ei] at a1 a2 a3 a4 a5
  obtain ⟨b1, b2, b3, b4, b5⟩ := boths_spr q hX hq ((s.pop.include q).bth q.1) a1 (fun b hb => hb)
  have eb : (s.pop.include q).both q = ((s.pop.include q).bth q.1).foldl (St.bothO q) (s.pop.include q) := rfl
  rw [← eb] at b1 b2 b3 b4 b5
  have ic0 : s.pop.ic = s.ic := rfl
  have hqp : q ∈ s.pop.kn := h.sub q (by rw [hf]; simp)
  refine ⟨⟨b1.nd, b1.fnd, b1.sub, b1.snd, b1.incS, b1.bthS, b1.lnkS, ?_, ?_, b1.bsym, b1.dL⟩, a2.trans b2, by rw [b4, a4, ic0], hq, hX⟩
  · intro p hp _ g hg
    by_cases e : p = q
    · subst e
      rw [b3, a3] at hg
      exact b2.kn _ (a5 g hg)
    · exact b1.dI p hp e g hg
  · intro p hp _ b hb hb1 _
    by_cases e : p = q
    · subst e
      rw [b2.same.bth] at hb
      exact b5 b hb ((b2.pop _).1 hb1).1
    · by_cases e1 : (b.1, p.2) = q
      · have hs := b1.bsym p.1 b hb
        rw [b2.same.bth] at hs
        have e2 : b.1 = q.1 := by rw [← e1]
        have e3 : p.2 = q.2 := by rw [← e1]
        rw [e2] at hs
        have := b5 (p.1, b.2) hs (by rw [← e3]; exact ((b2.pop _).1 hp).1)
        rwa [← e3] at this
      · exact b1.dB p hp e b hb hb1 e1
end
section
variable {S : Crd → Prop} {s : St} {q : Pr} {f0 : List Pr}
theorem pop_len (h : s.fr = f0 ++ [q]) : s.pop.fr.length + 1 = s.fr.length := by rw [pop_last h, h]; simp
theorem turn3_spr (h : Spr S isD none' none' none' s) (hf : s.fr = f0 ++ [q]) :
    Spr S isD none' none' none' (s.turn true q) ∧ Grew s.pop (s.turn true q) ∧ (s.turn true q).ic = s.ic + (s.lnk q.1).length := by
  obtain ⟨c1, c2, c3, hq, hX⟩ := two_spr h hf
  obtain ⟨d1, d2, d3, d4⟩ := links_spr q hq hX (((s.pop.include q).both q).lnk q.1) c1 (fun k hk => hk)
  have el : s.turn true q = (((s.pop.include q).both q).lnk q.1).foldl (St.linkO q) ((s.pop.include q).both q) := rfl
  rw [← el] at d1 d2 d3 d4
  have e4 : s.pop.lnk = s.lnk := rfl
  refine ⟨⟨d1.nd, d1.fnd, d1.sub, d1.snd, d1.incS, d1.bthS, d1.lnkS, d1.dI, d1.dB, d1.bsym, ?_⟩, c2.trans d2, by rw [d3, c3, c2.same.lnk, e4]⟩
  intro p hp _ k hk
  by_cases e : p = q
  · subst e
    rw [d2.same.lnk] at hk
    exact d4 k hk
  · exact d1.dL p hp e k hk
end
end Go.Proofs.YtfbapbpggicfbaaGreatDoor.Sh
