/-
  The second spreading's turns; how much a turn makes. Pure.
-/
import Derived.Test.YtghejdlijcmbbaaGreatDoorJo23
import Derived.Test.YtghejdlijcmbbaaGreatDoorJo24
set_option linter.unusedVariables false
set_option linter.unusedSimpArgs false
namespace Go.Proofs.YtghejdlijcmbbaaGreatDoor.Sh
open Go Go.RowKit

def tru : Pr → Prop := fun _ => True
section
variable {S : Crd → Prop} {X : ByteArray → Prop} {s : St} {q : Pr} {f0 : List Pr}
theorem Spr.pop2 (h : Spr S X none' none' tru s) (hf : s.fr = f0 ++ [q]) : Spr S X (· = q) (· = q) tru s.pop ∧ Imp S q ∧ X q.2 := by
  have hp := popped_pop h.fnd h.sub hf
  have hq := h.snd q (h.sub q (by rw [hf]; simp))
  refine ⟨⟨?_, ?_, ?_, ?_, ?_, ?_, ?_, ?_, ?_, ?_, ?_⟩, hq⟩
  · rw [pop_last hf]; exact h.nd
  · rw [pop_last hf]; have := h.fnd; rw [hf] at this; exact (List.nodup_append.1 this).1
  · rw [pop_last hf]; exact fun p hp => h.sub p (by rw [hf]; simp [show p ∈ f0 from hp])
  · rw [pop_last hf]; exact h.snd
  · rw [pop_last hf]; exact h.incS
  · rw [pop_last hf]; exact h.bthS
  · rw [pop_last hf]; exact h.lnkS
  · intro p hpp hE
    rcases (hp p).1 hpp with h1 | h1
    · rw [pop_last hf]; exact h.dI p h1 id
    · exact absurd h1 hE
  · intro p hpp hE b hb hb1 hE1
    rcases (hp p).1 hpp with h1 | h1
    · rcases (hp _).1 hb1 with h2 | h2
      · rw [pop_last hf] at hb ⊢; exact h.dB p h1 id b hb h2 id
      · exact absurd h2 hE1
    · exact absurd h1 hE
  · rw [pop_last hf]; exact h.bsym
  · exact fun p hpp hE => absurd trivial hE
/-- The first two rules. -/
theorem two_spr2 (h : Spr S X none' none' tru s) (hf : s.fr = f0 ++ [q]) :
    Spr S X none' none' tru ((s.pop.include q).both q) ∧ Grew s.pop ((s.pop.include q).both q) ∧ ((s.pop.include q).both q).ic = s.ic ∧ Imp S q ∧ X q.2 := by
  obtain ⟨h1, hq, hX⟩ := h.pop2 hf
  obtain ⟨a1, a2, a3, a4, a5⟩ := adds_spr q.2 hX (s.pop.inc q.1) h1 (fun r hr => h1.incS q.1 r hr q.2 hq)
  have ei : s.pop.include q = (s.pop.inc q.1).foldl (fun s r => s.add (r, q.2)) s.pop := rfl
  rw [← ei] at a1 a2 a3 a4 a5
  obtain ⟨b1, b2, b3, b4, b5⟩ := boths_spr q hX hq ((s.pop.include q).bth q.1) a1 (fun b hb => hb)
  have eb : (s.pop.include q).both q = ((s.pop.include q).bth q.1).foldl (St.bothO q) (s.pop.include q) := rfl
  rw [← eb] at b1 b2 b3 b4 b5
  have ic0 : s.pop.ic = s.ic := rfl
  have hqp : q ∈ s.pop.kn := h.sub q (by rw [hf]; simp)
  refine ⟨⟨b1.nd, b1.fnd, b1.sub, b1.snd, b1.incS, b1.bthS, b1.lnkS, ?_, ?_, b1.bsym, b1.dL⟩, a2.trans b2, by rw [b4, a4, ic0], hq, hX⟩
  · intro p hp _ g hg
    by_cases e : p = q
    · subst e
      rw [b3, a3] at hg
      exact b2.kn _ (a5 g hg)
    · exact b1.dI p hp e g hg
  · intro p hp _ b hb hb1 _
    by_cases e : p = q
    · subst e
      rw [b2.same.bth] at hb
      exact b5 b hb ((b2.pop _).1 hb1).1
    · by_cases e1 : (b.1, p.2) = q
      · have hs := b1.bsym p.1 b hb
        rw [b2.same.bth] at hs
        have e2 : b.1 = q.1 := by rw [← e1]
        have e3 : p.2 = q.2 := by rw [← e1]
        rw [e2] at hs
        have := b5 (p.1, b.2) hs (by rw [← e3]; exact ((b2.pop _).1 hp).1)
        rwa [← e3] at this
      · exact b1.dB p hp e b hb hb1 e1
end

theorem include_ic (s : St) (q : Pr) : (s.include q).ic = s.ic := by
  have : ∀ (l : List Rl) (s : St), (l.foldl (fun s r => s.add (r, q.2)) s).ic = s.ic := by
    intro l
    induction l with
    | nil => exact fun _ => rfl
    | cons r l ih => exact fun s => (ih _).trans (add_ic _ _)
  exact this _ _
theorem both_ic (s : St) (q : Pr) : (s.both q).ic = s.ic := by
  have : ∀ (l : List (Rl × Rl)) (s : St), (l.foldl (St.bothO q) s).ic = s.ic := by
    intro l
    induction l with
    | nil => exact fun _ => rfl
    | cons r l ih =>
      intro s
      refine (ih _).trans ?_
      unfold St.bothO
      split
      · exact add_ic _ _
      · rfl
  exact this _ _
section
variable {w : World} {B sb b0 b1 b2 b3 b4 : Nat} {vF : Value} {col : Col} {s : St}
open Go.Maps (Keyed)
theorem Sol.incl (h : Sol w B sb b0 b1 b2 b3 b4 vF col s) {r : Rl} (hr : okR r) : (s.inc r).length ≤ s.ic := by
  obtain ⟨D, hD⟩ := h.inc
  obtain ⟨_, _, _, h2, _⟩ := hD.val r hr
  exact h2
theorem Sol.bthl (h : Sol w B sb b0 b1 b2 b3 b4 vF col s) {r : Rl} (hr : okR r) : (s.bth r).length ≤ s.ic := by
  obtain ⟨D, hD⟩ := h.bth
  obtain ⟨_, _, _, h2, _⟩ := hD.val r hr
  exact h2
/-- The last fresh pair taken off. -/
theorem Sol.popped {A : Option Addr} {c : Nat} (h : Sol w B sb b0 b1 b2 b3 b4 (.slice A s.fr.length c) col s) : Sol (w.setCell ⟨sb, 5, none⟩ (.slice A (s.fr.length - 1) c)) B sb b0 b1 b2 b3 b4 (.slice A (s.fr.length - 1) c) col s.pop ∧
    Ext Ma w (w.setCell ⟨sb, 5, none⟩ (.slice A (s.fr.length - 1) c)) col col := by
  have hs : (w.setCell ⟨sb, 5, none⟩ (.slice A (s.fr.length - 1) c)).heap.size = w.heap.size := by simp
  have hfar : ∀ g (k : Nat × Lit), col g = some k → k.1 ≠ 0 → (w.setCell ⟨sb, 5, none⟩ (.slice A (s.fr.length - 1) c)).heap[g]? = w.heap[g]? := fun g k e hk =>
    Below.heap_setCell w ⟨sb, 5, none⟩ _ g (fun e' => hk (by simp only at e'; rw [e', h.csb] at e; cases e; rfl))
  have hF : ∀ (j : Nat), j = 1 ∨ j = 2 ∨ j = 3 ∨ j = 4 → ∀ g (k : Nat × Lit), col g = some k → k.1 = j ∨ k.1 = j + 10 → (w.setCell ⟨sb, 5, none⟩ (.slice A (s.fr.length - 1) c)).heap[g]? = w.heap[g]? := fun j hj g k e hk => hfar g k e (by omega)
  have hown : Own (E := encP) w B 47 (.slice A (s.fr.length - 1) c) (s.fr.take (s.fr.length - 1)) := h.fr.short (by omega)
  refine ⟨⟨row6 h.row, h.csb, h.giv.frame (hF 1 (by omega)) (fun _ _ => rfl) (Nat.le_refl _), h.inc.frame (hF 2 (by omega)) (fun _ _ => rfl) (Nat.le_refl _), h.bth.frame (hF 3 (by omega)) (fun _ _ => rfl) (Nat.le_refl _), h.lnk.frame (hF 4 (by omega)) (fun _ _ => rfl) (Nat.le_refl _),
    h.kn.frame (fun g e => hfar g _ e (by simp)) (fun _ _ => rfl), hown.kept (fun g e => hfar g _ (h.cfr g (by cases A <;> exact e)) (by simp)), fun g e => h.cfr g (by cases A <;> exact e), h.low, by rw [hs]; exact h.base, fun g k e => by rw [hs]; exact h.dom g k e,
    ⟨h.sz.giv, h.sz.inc, h.sz.bth, h.sz.lnk, h.sz.kn, fun p hp => h.sz.fr p (List.mem_of_mem_take hp)⟩⟩, ⟨rfl, rfl, rfl, by rw [hs]; exact Nat.le_refl _, fun g _ hc => Below.heap_setCell w ⟨sb, 5, none⟩ _ g (fun e' => ?_), fun _ _ => rfl⟩⟩
  simp only at e'
  exact hc _ (by rw [e']; exact h.csb) (.inl rfl)
end
end Go.Proofs.YtghejdlijcmbbaaGreatDoor.Sh
