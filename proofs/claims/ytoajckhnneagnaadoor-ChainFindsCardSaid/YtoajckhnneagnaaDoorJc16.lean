/-
  The program's way to the rounds, in plain functions, and that it finds them. Nothing of the program's own text.
-/
import Derived.Test.YtoajckhnneagnaaDoorJc15
set_option linter.unusedVariables false
set_option linter.unusedSimpArgs false
namespace Go.Proofs.YtoajckhnneagnaaDoor.Sh
open Go Go.RowKit

set_option linter.unusedVariables false
set_option linter.unusedSimpArgs false
structure Se where
  giv : Rl → List Crd
  ask : Rl → List Crd
  lnk : Rl → List Rl
  kn : List Pr
  rn : Pr → Nat
  fr : List Pr
  /-- how many stores -/
  ic : Nat
def Se.zero : Se := ⟨fun _ => [], fun _ => [], fun _ => [], [], fun _ => 0, [], 0⟩
def Se.lt (s : Se) (n : Nat) (q : Pr) : Prop := s.rn q ≠ 0 ∧ s.rn q < n
def Se.add (s : Se) (p : Pr) (n : Nat) : Se := if s.rn p ≠ 0 then s else { s with kn := s.kn ++ [p], rn := fun q => if q = p then n else s.rn q, fr := s.fr ++ [p] }
def Se.toAsk (s : Se) (r : Rl) (c : Crd) : Se := { s with ask := upd s.ask r c, ic := s.ic + 1 }
def Se.toGiv (s : Se) (r : Rl) (c : Crd) : Se := { s with giv := upd s.giv r c, ic := s.ic + 1 }
def Se.toLnk (s : Se) (r : Rl) (g : Rl) : Se := { s with lnk := upd s.lnk r g, ic := s.ic + 1 }
def Se.take (pe : List ByteArray) (s : Se) (c : Crd) : Se :=
  if c.kd = 1 then (if c.wh ∈ pe then (s.add (roleOf c, c.wh) 1).toGiv (roleOf c) c else s)
  else if c.kd = 2 then (s.toAsk (c.ao, c.an) c).toGiv (roleOf c) c
  else if c.kd = 3 then (s.toAsk (firstOf c) c).toGiv (roleOf c) c
  else if c.kd = 4 then ((s.toAsk (c.ao, c.an) c).toAsk (c.bo, c.bn) c).toGiv (roleOf c) c
  else s.toGiv (roleOf c) c
open Classical in
noncomputable def Se.openX (n : Nat) (r o : Rl) (s : Se) (x : ByteArray) : Se := if s.lt n (o, x) then s.add (r, x) n else s
open Classical in
noncomputable def Se.opn (pe : List ByteArray) (s : Se) (c : Crd) (y : ByteArray) (n : Nat) : Se :=
  if isD y then pe.foldl (Se.openX n (roleOf c) (y, c.bn)) (s.toLnk (y, c.bn) (roleOf c)) else s
open Classical in
noncomputable def Se.folO (pe : List ByteArray) (x : ByteArray) (n : Nat) (s : Se) (c : Crd) : Se :=
  if c.kd = 3 then s.opn pe c x n else if Der c (s.lt n) (roleOf c, x) then s.add (roleOf c, x) n else s
noncomputable def Se.folA (pe : List ByteArray) (s : Se) (p : Pr) (n : Nat) : Se := (s.ask p.1).foldl (Se.folO pe p.2 n) s
def Se.folL (s : Se) (p : Pr) (n : Nat) : Se := (s.lnk p.1).foldl (fun s r => s.add (r, p.2) n) s
noncomputable def Se.follow (pe : List ByteArray) (n : Nat) (s : Se) (p : Pr) : Se := (s.folA pe p n).folL p n
noncomputable def Se.round (pe : List ByteArray) (n : Nat) (s : Se) : Se := s.fr.foldl (Se.follow pe n) { s with fr := [] }

def Asks (c : Crd) (r : Rl) : Prop := (c.kd = 2 ∧ r = (c.ao, c.an)) ∨ (c.kd = 3 ∧ r = firstOf c) ∨ (c.kd = 4 ∧ (r = (c.ao, c.an) ∨ r = (c.bo, c.bn)))
def mat (pe : List ByteArray) (c : Crd) : Bool := !(decide (c.kd = 1) && !decide (c.wh ∈ pe))
structure Tk (pe : List ByteArray) (cs : List Crd) (s : Se) : Prop where
  kn : ∀ q, q ∈ s.kn ↔ s.rn q ≠ 0
  rn : ∀ q, s.rn q ≠ 0 ↔ ∃ c ∈ cs, c.kd = 1 ∧ c.wh ∈ pe ∧ q = (roleOf c, c.wh)
  one : ∀ q, s.rn q ≠ 0 → s.rn q = 1
  fr : s.fr = s.kn
  giv : ∀ r, s.giv r = cs.filter fun c => mat pe c && decide (roleOf c = r)
  ask : ∀ r c, c ∈ s.ask r ↔ c ∈ cs ∧ Asks c r
  lnk : ∀ r, s.lnk r = []
  nd : s.kn.Nodup
  ic : s.ic ≤ 3 * cs.length
  len : s.kn.length ≤ cs.length
section
variable {pe : List ByteArray} {cs : List Crd} {s : Se}
theorem Tk.zero : Tk pe [] Se.zero := ⟨fun q => by simp [Se.zero], fun q => by simp [Se.zero], fun q h => absurd rfl h, rfl, fun r => rfl, fun r c => by simp [Se.zero], fun r => rfl, List.nodup_nil, Nat.le_refl _, Nat.le_refl _⟩
theorem add_old {p : Pr} {n : Nat} (h : s.rn p ≠ 0) : s.add p n = s := if_pos h
theorem add_new' {p : Pr} {n : Nat} (h : s.rn p = 0) : s.add p n = { s with kn := s.kn ++ [p], rn := fun q => if q = p then n else s.rn q, fr := s.fr ++ [p] } := if_neg (fun e => e h)
theorem adds_lnk (p : Pr) (n : Nat) : (s.add p n).lnk = s.lnk := by unfold Se.add; split <;> rfl
theorem adds_ask (p : Pr) (n : Nat) : (s.add p n).ask = s.ask := by unfold Se.add; split <;> rfl
theorem adds_giv (p : Pr) (n : Nat) : (s.add p n).giv = s.giv := by unfold Se.add; split <;> rfl
theorem adds_ic (p : Pr) (n : Nat) : (s.add p n).ic = s.ic := by unfold Se.add; split <;> rfl
theorem upd_app {κ α : Type} [DecidableEq κ] (f : κ → List α) (k : κ) (x : α) (j : κ) : upd f k x j = f j ++ (if j = k then [x] else []) := by
  unfold upd; split <;> simp
theorem Tk.take {c : Crd} (h : Tk pe cs s) (hk : 1 ≤ c.kd ∧ c.kd ≤ 4) : Tk pe (cs ++ [c]) (s.take pe c) := by
  have hg : ∀ (t : Se), t.giv = s.giv → (c.kd = 1 → c.wh ∈ pe) → ∀ r, (t.toGiv (roleOf c) c).giv r = (cs ++ [c]).filter fun c => mat pe c && decide (roleOf c = r) := by
    intro t ht hw r
    have hm : mat pe c = true := by
      unfold mat
      by_cases h1 : c.kd = 1
      · simp [h1, hw h1]
      · simp [h1]
    show upd t.giv (roleOf c) c r = _
    rw [upd_app, ht, h.giv, List.filter_append]
    congr 1
    by_cases hr : r = roleOf c
    · subst hr; simp [hm]
    · rw [if_neg hr, List.filter_cons_of_neg (by simp [hm]; exact fun e => hr e.symm)]; rfl
  by_cases h1 : c.kd = 1
  · by_cases hw : c.wh ∈ pe
    · have e : s.take pe c = (s.add (roleOf c, c.wh) 1).toGiv (roleOf c) c := by unfold Se.take; rw [if_pos h1, if_pos hw]
      rw [e]
      have hnA : ∀ r, ¬ Asks c r := fun r ha => by unfold Asks at ha; omega
      have hask : ∀ r c', c' ∈ ((s.add (roleOf c, c.wh) 1).toGiv (roleOf c) c).ask r ↔ c' ∈ cs ++ [c] ∧ Asks c' r := fun r c' => by
        show c' ∈ (s.add (roleOf c, c.wh) 1).ask r ↔ _
        rw [adds_ask, h.ask, List.mem_append, List.mem_singleton]
        constructor
        · rintro ⟨a, b⟩; exact ⟨.inl a, b⟩
        · rintro ⟨a | a, b⟩
          · exact ⟨a, b⟩
          · subst a; exact absurd b (hnA r)
      have hrn : ∀ q, (∃ c' ∈ cs ++ [c], c'.kd = 1 ∧ c'.wh ∈ pe ∧ q = (roleOf c', c'.wh)) ↔ s.rn q ≠ 0 ∨ q = (roleOf c, c.wh) := fun q => by
        rw [h.rn]
        constructor
        · rintro ⟨c', hc, a, b, d⟩
          rcases List.mem_append.1 hc with h2 | h2
          · exact .inl ⟨c', h2, a, b, d⟩
          · rw [List.mem_singleton] at h2; subst h2; exact .inr d
        · rintro (⟨c', hc, a⟩ | a)
          · exact ⟨c', List.mem_append_left _ hc, a⟩
          · exact ⟨c, by simp, h1, hw, a⟩
      by_cases h0 : s.rn (roleOf c, c.wh) = 0
      · have e2 := add_new' (s := s) (n := 1) h0
        refine ⟨fun q => ?_, fun q => ?_, fun q hq => ?_, ?_, hg _ (adds_giv _ _) (fun _ => hw), hask, fun r => ?_, ?_, ?_, ?_⟩
        · show q ∈ (s.add _ 1).kn ↔ (s.add _ 1).rn q ≠ 0
          rw [e2]
          simp only [List.mem_append, List.mem_singleton]
          rw [h.kn]
          by_cases hq : q = (roleOf c, c.wh)
          · simp [hq]
          · simp [hq]
        · rw [hrn]
          show (s.add _ 1).rn q ≠ 0 ↔ _
          rw [e2]
          simp only
          by_cases hq : q = (roleOf c, c.wh)
          · simp [hq]
          · simp [hq]
        · change (s.add _ 1).rn q ≠ 0 at hq
          show (s.add _ 1).rn q = 1
          rw [e2] at hq ⊢
          simp only at hq ⊢
          split
          · rfl
          · rename_i h3
            rw [if_neg h3] at hq
            exact h.one q hq
        · show (s.add _ 1).fr = (s.add _ 1).kn
          rw [e2]
          simp only [h.fr]
        · show (s.add _ 1).lnk r = []
          rw [adds_lnk]; exact h.lnk r
        · show (s.add _ 1).kn.Nodup
          rw [e2]
          refine List.nodup_append.2 ⟨h.nd, by simp, fun a ha b hb e => ?_⟩
          rw [List.mem_singleton] at hb
          subst hb; subst e
          exact ((h.kn _).1 ha) h0
        · show (s.add _ 1).ic + 1 ≤ _
          rw [adds_ic, List.length_append, List.length_singleton]
          have := h.ic; omega
        · show (s.add _ 1).kn.length ≤ _
          rw [e2, List.length_append, List.length_append, List.length_singleton, List.length_singleton]
          have := h.len; omega
      · have e2 := add_old (s := s) (n := 1) h0
        rw [e2] at hask ⊢
        refine ⟨h.kn, fun q => ?_, h.one, h.fr, hg _ rfl (fun _ => hw), hask, h.lnk, h.nd, ?_, ?_⟩
        · rw [hrn]
          show s.rn q ≠ 0 ↔ _
          constructor
          · exact .inl
          · rintro (h3 | h3)
            · exact h3
            · rw [h3]; exact h0
        · show s.ic + 1 ≤ _
          rw [List.length_append, List.length_singleton]
          have := h.ic; omega
        · show s.kn.length ≤ _
          rw [List.length_append, List.length_singleton]
          have := h.len; omega
    · have e : s.take pe c = s := by unfold Se.take; rw [if_pos h1, if_neg hw]
      rw [e]
      have hm : mat pe c = false := by unfold mat; simp [h1, hw]
      have hnA : ∀ r, ¬ Asks c r := fun r ha => by unfold Asks at ha; omega
      refine ⟨h.kn, fun q => ?_, h.one, h.fr, fun r => ?_, fun r c' => ?_, h.lnk, h.nd, ?_, ?_⟩
      · rw [h.rn]
        constructor
        · rintro ⟨c', hc, a⟩; exact ⟨c', List.mem_append_left _ hc, a⟩
        · rintro ⟨c', hc, a, b, d⟩
          rcases List.mem_append.1 hc with h2 | h2
          · exact ⟨c', h2, a, b, d⟩
          · rw [List.mem_singleton] at h2; subst h2; exact absurd b hw
      · rw [h.giv, List.filter_append, List.filter_cons_of_neg (by simp [hm])]; simp
      · rw [h.ask, List.mem_append, List.mem_singleton]
        constructor
        · rintro ⟨a, b⟩; exact ⟨.inl a, b⟩
        · rintro ⟨a | a, b⟩
          · exact ⟨a, b⟩
          · subst a; exact absurd b (hnA r)
      · rw [List.length_append, List.length_singleton]; have := h.ic; omega
      · rw [List.length_append, List.length_singleton]; have := h.len; omega
  · have hrn : ∀ q, s.rn q ≠ 0 ↔ ∃ c' ∈ cs ++ [c], c'.kd = 1 ∧ c'.wh ∈ pe ∧ q = (roleOf c', c'.wh) := fun q => by
      rw [h.rn]
      constructor
      · rintro ⟨c', hc, a⟩; exact ⟨c', List.mem_append_left _ hc, a⟩
      · rintro ⟨c', hc, a, b, d⟩
        rcases List.mem_append.1 hc with h2 | h2
        · exact ⟨c', h2, a, b, d⟩
        · rw [List.mem_singleton] at h2; subst h2; exact absurd a h1
    have fin : ∀ t : Se, t.giv = s.giv → t.kn = s.kn → t.rn = s.rn → t.fr = s.fr → t.lnk = s.lnk → t.ic ≤ s.ic + 2 → (∀ r c', c' ∈ t.ask r ↔ c' ∈ s.ask r ∨ (c' = c ∧ Asks c r)) → Tk pe (cs ++ [c]) (t.toGiv (roleOf c) c) := by
      intro t t1 t2 t3 t4 t5 t6 t7
      refine ⟨fun q => ?_, fun q => ?_, fun q hq => ?_, ?_, hg t t1 (fun e => absurd e h1), fun r c' => ?_, fun r => ?_, ?_, ?_, ?_⟩
      · show q ∈ t.kn ↔ t.rn q ≠ 0
        rw [t2, t3]; exact h.kn q
      · show t.rn q ≠ 0 ↔ _
        rw [t3]; exact hrn q
      · change t.rn q ≠ 0 at hq
        show t.rn q = 1
        rw [t3] at hq ⊢; exact h.one q hq
      · show t.fr = t.kn
        rw [t2, t4]; exact h.fr
      · show c' ∈ t.ask r ↔ _
        rw [t7, h.ask, List.mem_append, List.mem_singleton]
        constructor
        · rintro (⟨a, b⟩ | ⟨a, b⟩)
          · exact ⟨.inl a, b⟩
          · exact ⟨.inr a, by rw [a]; exact b⟩
        · rintro ⟨a | a, b⟩
          · exact .inl ⟨a, b⟩
          · exact .inr ⟨a, by rw [← a]; exact b⟩
      · show t.lnk r = []
        rw [t5]; exact h.lnk r
      · show t.kn.Nodup
        rw [t2]; exact h.nd
      · show t.ic + 1 ≤ _
        rw [List.length_append, List.length_singleton]
        have := h.ic; omega
      · show t.kn.length ≤ _
        rw [t2, List.length_append, List.length_singleton]
        have := h.len; omega
    have hk4 : c.kd = 2 ∨ c.kd = 3 ∨ c.kd = 4 := by omega
    rcases hk4 with h2 | h2 | h2
    · have e : s.take pe c = (s.toAsk (c.ao, c.an) c).toGiv (roleOf c) c := by unfold Se.take; rw [if_neg h1, if_pos h2]
      rw [e]
      refine fin _ rfl rfl rfl rfl rfl (Nat.le_succ _) fun r c' => ?_
      show c' ∈ upd s.ask (c.ao, c.an) c r ↔ _
      rw [upd_mem]
      unfold Asks
      constructor
      · rintro (a | ⟨a, b⟩)
        · exact .inl a
        · exact .inr ⟨b, .inl ⟨h2, a⟩⟩
      · rintro (a | ⟨a, b | b | b⟩)
        · exact .inl a
        · exact .inr ⟨b.2, a⟩
        · omega
        · omega
    · have e : s.take pe c = (s.toAsk (firstOf c) c).toGiv (roleOf c) c := by unfold Se.take; rw [if_neg h1, if_neg (by omega), if_pos h2]
      rw [e]
      refine fin _ rfl rfl rfl rfl rfl (Nat.le_succ _) fun r c' => ?_
      show c' ∈ upd s.ask (firstOf c) c r ↔ _
      rw [upd_mem]
      unfold Asks
      constructor
      · rintro (a | ⟨a, b⟩)
        · exact .inl a
        · exact .inr ⟨b, .inr (.inl ⟨h2, a⟩)⟩
      · rintro (a | ⟨a, b | b | b⟩)
        · exact .inl a
        · omega
        · exact .inr ⟨b.2, a⟩
        · omega
    · have e : s.take pe c = ((s.toAsk (c.ao, c.an) c).toAsk (c.bo, c.bn) c).toGiv (roleOf c) c := by unfold Se.take; rw [if_neg h1, if_neg (by omega), if_neg (by omega), if_pos h2]
      rw [e]
      refine fin _ rfl rfl rfl rfl rfl (Nat.le_refl _) fun r c' => ?_
      show c' ∈ upd (upd s.ask (c.ao, c.an) c) (c.bo, c.bn) c r ↔ _
      rw [upd_mem, upd_mem]
      unfold Asks
      constructor
      · rintro ((a | ⟨a, b⟩) | ⟨a, b⟩)
        · exact .inl a
        · exact .inr ⟨b, .inr (.inr ⟨h2, .inl a⟩)⟩
        · exact .inr ⟨b, .inr (.inr ⟨h2, .inr a⟩)⟩
      · rintro (a | ⟨a, b | b | ⟨b, d | d⟩⟩)
        · exact .inl (.inl a)
        · omega
        · omega
        · exact .inl (.inr ⟨d, a⟩)
        · exact .inr ⟨d, a⟩
end
end Go.Proofs.YtoajckhnneagnaaDoor.Sh
