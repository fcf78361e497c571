/-
  The program's rounds are the document's. Nothing of the program's own text.
-/
import Derived.Test.YtoajckhnneagnaaDoorJd16
set_option linter.unusedVariables false
set_option linter.unusedSimpArgs false
namespace Go.Proofs.YtoajckhnneagnaaDoor.Sh
open Go Go.RowKit

set_option linter.unusedVariables false
set_option linter.unusedSimpArgs false
structure Gd (cs : List Crd) (pe : List ByteArray) (n : Nat) (s : Se) : Prop where
  snd : ∀ q, s.rn q ≠ 0 → q.2 ∈ pe ∧ s.rn q = rd cs q ∧ rd cs q ≤ n
  low : ∀ q, q.2 ∈ pe → rd cs q ≠ 0 → rd cs q < n → s.rn q ≠ 0
  kn : ∀ q, q ∈ s.kn ↔ s.rn q ≠ 0
  fr : ∀ q, q ∈ s.fr ↔ s.rn q = n
  nd : s.kn.Nodup
structure Ge (s s' : Se) : Prop where
  rn : ∀ q, s.rn q ≠ 0 → s'.rn q = s.rn q
  ask : s'.ask = s.ask
  giv : s'.giv = s.giv
  lnk : ∀ r g, g ∈ s.lnk r → g ∈ s'.lnk r
section
variable {cs : List Crd} {pe : List ByteArray} {n : Nat} {s s' s'' : Se}
theorem Ge.refl (s : Se) : Ge s s := ⟨fun _ _ => rfl, rfl, rfl, fun _ _ h => h⟩
theorem Ge.trans (h : Ge s s') (k : Ge s' s'') : Ge s s'' := ⟨fun q hq => (k.rn q (by rw [h.rn q hq]; exact hq)).trans (h.rn q hq), k.ask.trans h.ask, k.giv.trans h.giv, fun r g hg => k.lnk r g (h.lnk r g hg)⟩
theorem Ge.has (h : Ge s s') {q : Pr} (hq : s.rn q ≠ 0) : s'.rn q ≠ 0 := by rw [h.rn q hq]; exact hq
theorem ge_add (p : Pr) (n : Nat) : Ge s (s.add p n) := by
  by_cases h : s.rn p = 0
  · refine ⟨fun q hq => ?_, adds_ask _ _, adds_giv _ _, fun r g hg => by rw [adds_lnk]; exact hg⟩
    rw [add_new' h]
    have : q ≠ p := fun e => hq (by rw [e]; exact h)
    exact if_neg this
  · rw [add_old h]; exact .refl _
theorem has_add {p : Pr} (hn : n ≠ 0) : (s.add p n).rn p ≠ 0 := by
  by_cases h : s.rn p = 0
  · rw [add_new' h]
    simp only [if_true]
    exact hn
  · rw [add_old h]; exact h
theorem Gd.lt (h : Gd cs pe n s) (hpe : ∀ i, i < 16 → domN i ∈ pe) {q : Pr} (hq : q.2 ∈ pe) : s.lt n q ↔ Lv cs (n - 1) q := by
  unfold Se.lt
  rw [rd_lv]
  constructor
  · rintro ⟨h1, h2⟩
    obtain ⟨_, h4, _⟩ := h.snd q h1
    rw [h4] at h1 h2
    exact ⟨h1, by omega⟩
  · rintro ⟨h1, h2⟩
    have h3 : rd cs q < n := by omega
    have h4 := h.low q hq h1 h3
    exact ⟨h4, by rw [(h.snd q h4).2.1]; exact h3⟩
theorem Gd.add (h : Gd cs pe n s) {q : Pr} (hq : q.2 ∈ pe) (hl : Lv cs n q) (hn : n ≠ 0) : Gd cs pe n (s.add q n) := by
  obtain ⟨h1, h2⟩ := rd_lv.1 hl
  by_cases h0 : s.rn q = 0
  · have hr : rd cs q = n := by
      rcases Nat.lt_or_ge (rd cs q) n with h3 | h3
      · exact absurd h0 (h.low q hq h1 h3)
      · omega
    rw [add_new' h0]
    refine ⟨fun t ht => ?_, fun t h3 h4 h5 => ?_, fun t => ?_, fun t => ?_, ?_⟩
    · simp only at ht ⊢
      by_cases e : t = q
      · subst e; rw [if_pos rfl]; exact ⟨hq, hr.symm, h2⟩
      · rw [if_neg e] at ht ⊢; exact h.snd t ht
    · simp only
      by_cases e : t = q
      · rw [if_pos e]; exact hn
      · rw [if_neg e]; exact h.low t h3 h4 h5
    · simp only [List.mem_append, List.mem_singleton]
      by_cases e : t = q
      · simp [e, hn]
      · simp [e, h.kn]
    · simp only [List.mem_append, List.mem_singleton]
      by_cases e : t = q
      · simp [e]
      · simp [e, h.fr]
    · refine List.nodup_append.2 ⟨h.nd, by simp, fun a ha b hb e => ?_⟩
      rw [List.mem_singleton] at hb
      subst hb; subst e
      exact ((h.kn _).1 ha) h0
  · rw [add_old h0]; exact h
theorem openX_step (hpe : ∀ i, i < 16 → domN i ∈ pe) (h : Gd cs pe n s) (hn : n ≠ 0) {c : Crd} (hc : c ∈ cs) (hk : c.kd = 3) {y x : ByteArray} (hy : isD y) (ha : Lv cs (n - 1) (firstOf c, y)) (hx : x ∈ pe) :
    Gd cs pe n (Se.openX n (roleOf c) (y, c.bn) s x) ∧ Ge s (Se.openX n (roleOf c) (y, c.bn) s x) ∧ (Se.openX n (roleOf c) (y, c.bn) s x).lnk = s.lnk ∧ (Lv cs (n - 1) ((y, c.bn), x) → (Se.openX n (roleOf c) (y, c.bn) s x).rn (roleOf c, x) ≠ 0) := by
  unfold Se.openX
  have e := h.lt hpe (q := ((y, c.bn), x)) hx
  by_cases hl : s.lt n ((y, c.bn), x)
  · rw [if_pos hl]
    have h2 : Lv cs n (roleOf c, x) := by
      obtain ⟨m, rfl⟩ : ∃ m, n = m + 1 := ⟨n - 1, by omega⟩
      exact .inr ⟨c, hc, rfl, .inr (.inr (.inl ⟨hk, y, ha, hy, e.1 hl⟩))⟩
    exact ⟨h.add hx h2 hn, ge_add _ _, adds_lnk _ _, fun _ => has_add hn⟩
  · rw [if_neg hl]
    exact ⟨h, .refl _, rfl, fun h3 => absurd (e.2 h3) hl⟩
theorem openX_all (hpe : ∀ i, i < 16 → domN i ∈ pe) (hn : n ≠ 0) {c : Crd} (hc : c ∈ cs) (hk : c.kd = 3) {y : ByteArray} (hy : isD y) (ha : Lv cs (n - 1) (firstOf c, y)) :
    ∀ (l : List ByteArray), (∀ x ∈ l, x ∈ pe) → ∀ s, Gd cs pe n s → Gd cs pe n (l.foldl (Se.openX n (roleOf c) (y, c.bn)) s) ∧ Ge s (l.foldl (Se.openX n (roleOf c) (y, c.bn)) s) ∧ (l.foldl (Se.openX n (roleOf c) (y, c.bn)) s).lnk = s.lnk ∧ ∀ x ∈ l, Lv cs (n - 1) ((y, c.bn), x) → (l.foldl (Se.openX n (roleOf c) (y, c.bn)) s).rn (roleOf c, x) ≠ 0
  | [], _, s, h => ⟨h, .refl _, rfl, fun x hx => by simp at hx⟩
  | a :: l, hl, s, h => by
    obtain ⟨h1, h2, h3, h4⟩ := openX_step hpe h hn hc hk hy ha (hl a (by simp))
    obtain ⟨g1, g2, g3, g4⟩ := openX_all hpe hn hc hk hy ha l (fun x hx => hl x (List.mem_cons_of_mem _ hx)) _ h1
    refine ⟨g1, h2.trans g2, g3.trans h3, fun x hx hv => ?_⟩
    rcases List.mem_cons.1 hx with e | e
    · subst e; exact g2.has (h4 hv)
    · exact g4 x e hv
theorem gd_lnk {f : Rl → List Rl} {k : Nat} (h : Gd cs pe n s) : Gd cs pe n { s with lnk := f, ic := k } := ⟨h.snd, h.low, h.kn, h.fr, h.nd⟩
def OpnL (cs' : List Crd) (x : ByteArray) (s s' : Se) : Prop := ∀ r g, g ∈ s'.lnk r ↔ g ∈ s.lnk r ∨ ∃ c ∈ cs', c.kd = 3 ∧ isD x ∧ r = (x, c.bn) ∧ g = roleOf c
theorem folO_step (hpe : ∀ i, i < 16 → domN i ∈ pe) (h : Gd cs pe n s) (hn : n ≠ 0) {p : Pr} (hp : rd cs p = n - 1) (hp0 : rd cs p ≠ 0) (hpp : p.2 ∈ pe) {c : Crd} (hc : c ∈ cs) (ha : Asks c p.1) :
    Gd cs pe n (Se.folO pe p.2 n s c) ∧ Ge s (Se.folO pe p.2 n s c) ∧ OpnL [c] p.2 s (Se.folO pe p.2 n s c) ∧
      (c.kd ≠ 3 → Der c (Lv cs (n - 1)) (roleOf c, p.2) → (Se.folO pe p.2 n s c).rn (roleOf c, p.2) ≠ 0) ∧
      (c.kd = 3 → isD p.2 → ∀ x ∈ pe, Lv cs (n - 1) ((p.2, c.bn), x) → (Se.folO pe p.2 n s c).rn (roleOf c, x) ≠ 0) := by
  have hlp : Lv cs (n - 1) p := rd_lv.2 ⟨hp0, by omega⟩
  unfold Se.folO
  by_cases hk : c.kd = 3
  · rw [if_pos hk]
    have hf : p.1 = firstOf c := by
      rcases ha with h1 | h1 | h1
      · omega
      · exact h1.2
      · omega
    have hlp2 : Lv cs (n - 1) (firstOf c, p.2) := by rw [← hf]; exact hlp
    unfold Se.opn
    by_cases hd : isD p.2
    · rw [if_pos hd]
      obtain ⟨g1, g2, g3, g4⟩ := openX_all hpe hn hc hk hd hlp2 pe (fun x hx => hx) (s.toLnk (p.2, c.bn) (roleOf c)) (gd_lnk h)
      have hl : Ge s (s.toLnk (p.2, c.bn) (roleOf c)) := ⟨fun _ _ => rfl, rfl, rfl, fun r g hg => upd_mem.2 (.inl hg)⟩
      refine ⟨g1, hl.trans g2, fun r g => ?_, fun h5 => absurd hk h5, fun _ _ x hx hv => g4 x hx hv⟩
      rw [g3]
      show g ∈ upd s.lnk (p.2, c.bn) (roleOf c) r ↔ _
      rw [upd_mem]
      constructor
      · rintro (a | ⟨a, b⟩)
        · exact .inl a
        · exact .inr ⟨c, by simp, hk, hd, a, b⟩
      · rintro (a | ⟨c', hc', _, _, a, b⟩)
        · exact .inl a
        · rw [List.mem_singleton] at hc'; subst hc'; exact .inr ⟨a, b⟩
    · rw [if_neg hd]
      refine ⟨h, .refl _, fun r g => ?_, fun h5 => absurd hk h5, fun _ h5 => absurd h5 hd⟩
      constructor
      · exact .inl
      · rintro (a | ⟨c', _, _, a, _⟩)
        · exact a
        · exact absurd a hd
  · rw [if_neg hk]
    have hO : ∀ t : Se, t.lnk = s.lnk → OpnL [c] p.2 s t := fun t ht r g => by
      rw [ht]
      constructor
      · exact .inl
      · rintro (a | ⟨c', hc', a, _⟩)
        · exact a
        · rw [List.mem_singleton] at hc'; subst hc'; exact absurd a hk
    have e : Der c (s.lt n) (roleOf c, p.2) ↔ Der c (Lv cs (n - 1)) (roleOf c, p.2) := by
      constructor
      · exact fun h1 => h1.imp fun q hq hl => (h.lt hpe (by
          rcases hq with hq | hq
          · rw [hq]; exact hpp
          · obtain ⟨i, hi, e⟩ := (isD_iff _).1 hq
            rw [e]; exact hpe i hi)).1 hl
      · exact fun h1 => h1.imp fun q hq hl => (h.lt hpe (by
          rcases hq with hq | hq
          · rw [hq]; exact hpp
          · obtain ⟨i, hi, e⟩ := (isD_iff _).1 hq
            rw [e]; exact hpe i hi)).2 hl
    by_cases hd : Der c (s.lt n) (roleOf c, p.2)
    · rw [if_pos hd]
      have h2 : Lv cs n (roleOf c, p.2) := by
        obtain ⟨m, rfl⟩ : ∃ m, n = m + 1 := ⟨n - 1, by omega⟩
        exact .inr ⟨c, hc, e.1 hd⟩
      exact ⟨h.add hpp h2 hn, ge_add _ _, hO _ (adds_lnk _ _), fun _ _ => has_add hn, fun h5 => absurd h5 hk⟩
    · rw [if_neg hd]
      exact ⟨h, .refl _, hO _ rfl, fun _ h5 => absurd (e.2 h5) hd, fun h5 => absurd h5 hk⟩
theorem folO_all (hpe : ∀ i, i < 16 → domN i ∈ pe) (hn : n ≠ 0) {p : Pr} (hp : rd cs p = n - 1) (hp0 : rd cs p ≠ 0) (hpp : p.2 ∈ pe) :
    ∀ (l : List Crd), (∀ c ∈ l, c ∈ cs ∧ Asks c p.1) → ∀ s, Gd cs pe n s →
    Gd cs pe n (l.foldl (Se.folO pe p.2 n) s) ∧ Ge s (l.foldl (Se.folO pe p.2 n) s) ∧ OpnL l p.2 s (l.foldl (Se.folO pe p.2 n) s) ∧
      (∀ c ∈ l, c.kd ≠ 3 → Der c (Lv cs (n - 1)) (roleOf c, p.2) → (l.foldl (Se.folO pe p.2 n) s).rn (roleOf c, p.2) ≠ 0) ∧
      (∀ c ∈ l, c.kd = 3 → isD p.2 → ∀ x ∈ pe, Lv cs (n - 1) ((p.2, c.bn), x) → (l.foldl (Se.folO pe p.2 n) s).rn (roleOf c, x) ≠ 0)
  | [], _, s, h => ⟨h, .refl _, fun r g => by simp, fun c hc => by simp at hc, fun c hc => by simp at hc⟩
  | a :: l, hl, s, h => by
    obtain ⟨h1, h2, h3, h4, h5⟩ := folO_step hpe h hn hp hp0 hpp (hl a (by simp)).1 (hl a (by simp)).2
    obtain ⟨g1, g2, g3, g4, g5⟩ := folO_all hpe hn hp hp0 hpp l (fun x hx => hl x (List.mem_cons_of_mem _ hx)) _ h1
    refine ⟨g1, h2.trans g2, fun r g => ?_, fun c hc => ?_, fun c hc => ?_⟩
    · rw [List.foldl_cons, g3, h3]
      constructor
      · rintro ((b | ⟨c, hc, b⟩) | ⟨c, hc, b⟩)
        · exact .inl b
        · exact .inr ⟨c, by rw [List.mem_singleton] at hc; subst hc; simp, b⟩
        · exact .inr ⟨c, List.mem_cons_of_mem _ hc, b⟩
      · rintro (b | ⟨c, hc, b⟩)
        · exact .inl (.inl b)
        · rcases List.mem_cons.1 hc with e | e
          · subst e; exact .inl (.inr ⟨c, by simp, b⟩)
          · exact .inr ⟨c, e, b⟩
    · rcases List.mem_cons.1 hc with e | e
      · subst e; exact fun a b => g2.has (h4 a b)
      · exact g4 c e
    · rcases List.mem_cons.1 hc with e | e
      · subst e; exact fun a b x hx hv => g2.has (h5 a b x hx hv)
      · exact g5 c e
theorem folL_all (hn : n ≠ 0) {x : ByteArray} (hx : x ∈ pe) : ∀ (l : List Rl), (∀ g ∈ l, Lv cs n (g, x)) → ∀ s, Gd cs pe n s →
    Gd cs pe n (l.foldl (fun s r => s.add (r, x) n) s) ∧ Ge s (l.foldl (fun s r => s.add (r, x) n) s) ∧ (l.foldl (fun s r => s.add (r, x) n) s).lnk = s.lnk ∧ ∀ g ∈ l, (l.foldl (fun s r => s.add (r, x) n) s).rn (g, x) ≠ 0
  | [], _, s, h => ⟨h, .refl _, rfl, fun x hx => by simp at hx⟩
  | a :: l, hl, s, h => by
    obtain ⟨g1, g2, g3, g4⟩ := folL_all hn hx l (fun x hx => hl x (List.mem_cons_of_mem _ hx)) _ (h.add (q := (a, x)) hx (hl a (by simp)) hn)
    refine ⟨g1, (ge_add _ _).trans g2, g3.trans (adds_lnk _ _), fun g hg => ?_⟩
    rcases List.mem_cons.1 hg with e | e
    · subst e; exact g2.has (has_add hn)
    · exact g4 g e
end
structure Md (cs : List Crd) (pe : List ByteArray) (n : Nat) (done : List Pr) (s : Se) : Prop where
  gd : Gd cs pe n s
  dn : ∀ p ∈ done, rd cs p = n - 1 ∧ rd cs p ≠ 0
  ask : ∀ r c, c ∈ s.ask r ↔ c ∈ cs ∧ Asks c r
  giv : ∀ r, s.giv r = cs.filter fun c => mat pe c && decide (roleOf c = r)
  lnk : ∀ r g, g ∈ s.lnk r ↔ ∃ c ∈ cs, c.kd = 3 ∧ ∃ y, isD y ∧ r = (y, c.bn) ∧ g = roleOf c ∧ ((rd cs (firstOf c, y) ≠ 0 ∧ rd cs (firstOf c, y) + 1 < n) ∨ (firstOf c, y) ∈ done)
  c1 : ∀ c ∈ cs, ∀ p ∈ done, Asks c p.1 → c.kd ≠ 3 → Der c (Lv cs (n - 1)) (roleOf c, p.2) → s.rn (roleOf c, p.2) ≠ 0
  c2 : ∀ c ∈ cs, ∀ p ∈ done, c.kd = 3 → p.1 = firstOf c → isD p.2 → ∀ x ∈ pe, Lv cs (n - 1) ((p.2, c.bn), x) → s.rn (roleOf c, x) ≠ 0
  c3 : ∀ c ∈ cs, ∀ p ∈ done, c.kd = 3 → ∀ y, isD y → p.1 = (y, c.bn) → rd cs (firstOf c, y) ≠ 0 → rd cs (firstOf c, y) + 1 < n → s.rn (roleOf c, p.2) ≠ 0
structure Rs (cs : List Crd) (pe : List ByteArray) (n : Nat) (s : Se) : Prop where
  snd : ∀ q, s.rn q ≠ 0 → q.2 ∈ pe ∧ s.rn q = rd cs q ∧ rd cs q < n
  low : ∀ q, q.2 ∈ pe → rd cs q ≠ 0 → rd cs q < n → s.rn q ≠ 0
  kn : ∀ q, q ∈ s.kn ↔ s.rn q ≠ 0
  nd : s.kn.Nodup
  fr : ∀ q, q ∈ s.fr ↔ s.rn q = n - 1
  ask : ∀ r c, c ∈ s.ask r ↔ c ∈ cs ∧ Asks c r
  giv : ∀ r, s.giv r = cs.filter fun c => mat pe c && decide (roleOf c = r)
  lnk : ∀ r g, g ∈ s.lnk r ↔ ∃ c ∈ cs, c.kd = 3 ∧ ∃ y, isD y ∧ r = (y, c.bn) ∧ g = roleOf c ∧ rd cs (firstOf c, y) ≠ 0 ∧ rd cs (firstOf c, y) + 1 < n
section
variable {cs : List Crd} {pe : List ByteArray} {n : Nat} {s : Se} {done : List Pr}
theorem Md.start (h : Rs cs pe n s) (hn : n ≠ 0) : Md cs pe n [] { s with fr := [] } := by
  refine ⟨⟨fun q hq => ?_, h.low, h.kn, fun q => ?_, h.nd⟩, fun p hp => by simp at hp, h.ask, h.giv, fun r g => ?_, fun _ _ p hp => by simp at hp, fun _ _ p hp => by simp at hp, fun _ _ p hp => by simp at hp⟩
  · obtain ⟨h1, h2, h3⟩ := h.snd q hq
    exact ⟨h1, h2, by omega⟩
  · constructor
    · intro hq; simp at hq
    · intro hq
      obtain ⟨h1, h2, h3⟩ := h.snd q (by show s.rn q ≠ 0; change s.rn q = n at hq; omega)
      change s.rn q = n at hq
      omega
  · show g ∈ s.lnk r ↔ _
    rw [h.lnk]
    simp
theorem Md.follow (hpe : ∀ i, i < 16 → domN i ∈ pe) (h : Md cs pe n done s) (hn : n ≠ 0) {p : Pr} (hp : rd cs p = n - 1) (hp0 : rd cs p ≠ 0) (hpp : p.2 ∈ pe) : Md cs pe n (done ++ [p]) (s.follow pe n p) := by
  have hlp : Lv cs (n - 1) p := rd_lv.2 ⟨hp0, by omega⟩
  obtain ⟨g1, g2, g3, g4, g5⟩ := folO_all hpe hn hp hp0 hpp (s.ask p.1) (fun c hc => (h.ask p.1 c).1 hc) s h.gd
  obtain ⟨t, ht⟩ : ∃ t, s.folA pe p n = t := ⟨_, rfl⟩
  change (s.ask p.1).foldl (Se.folO pe p.2 n) s = t at ht
  rw [ht] at g1 g2 g3 g4 g5
  have lk : ∀ r g, g ∈ t.lnk r ↔ ∃ c ∈ cs, c.kd = 3 ∧ ∃ y, isD y ∧ r = (y, c.bn) ∧ g = roleOf c ∧ ((rd cs (firstOf c, y) ≠ 0 ∧ rd cs (firstOf c, y) + 1 < n) ∨ (firstOf c, y) ∈ done ++ [p]) := fun r g => by
    rw [g3, h.lnk]
    constructor
    · rintro (⟨c, hc, hk, y, a, b, d, e⟩ | ⟨c, hc, hk, hd, a, b⟩)
      · refine ⟨c, hc, hk, y, a, b, d, ?_⟩
        rcases e with e | e
        · exact .inl e
        · exact .inr (List.mem_append_left _ e)
      · obtain ⟨h1, h2⟩ := (h.ask p.1 c).1 hc
        refine ⟨c, h1, hk, p.2, hd, a, b, .inr ?_⟩
        have : p.1 = firstOf c := by
          rcases h2 with h2 | h2 | h2
          · omega
          · exact h2.2
          · omega
        rw [← this]; simp
    · rintro ⟨c, hc, hk, y, a, b, d, e⟩
      rcases e with e | e
      · exact .inl ⟨c, hc, hk, y, a, b, d, .inl e⟩
      · rcases List.mem_append.1 e with e | e
        · exact .inl ⟨c, hc, hk, y, a, b, d, .inr e⟩
        · rw [List.mem_singleton] at e
          subst e
          exact .inr ⟨c, (h.ask _ c).2 ⟨hc, .inr (.inl ⟨hk, rfl⟩)⟩, hk, a, b, d⟩
  have hlv : ∀ g ∈ t.lnk p.1, Lv cs n (g, p.2) := fun g hg => by
    obtain ⟨c, hc, hk, y, a, b, d, e⟩ := (lk p.1 g).1 hg
    obtain ⟨m, rfl⟩ : ∃ m, n = m + 1 := ⟨n - 1, by omega⟩
    refine .inr ⟨c, hc, d, .inr (.inr (.inl ⟨hk, y, ?_, a, ?_⟩))⟩
    · rcases e with ⟨e1, e2⟩ | e
      · exact rd_lv.2 ⟨e1, by omega⟩
      · rcases List.mem_append.1 e with e | e
        · exact rd_lv.2 ⟨(h.dn _ e).2, by have := (h.dn _ e).1; omega⟩
        · rw [List.mem_singleton] at e; rw [e]; exact hlp
    · show Lv cs m ((y, c.bn), p.2)
      rw [← b]; exact hlp
  obtain ⟨f1, f2, f3, f4⟩ := folL_all hn hpp (t.lnk p.1) hlv t g1
  have hfin : s.follow pe n p = (t.lnk p.1).foldl (fun s r => s.add (r, p.2) n) t := by unfold Se.follow Se.folL; rw [show s.folA pe p n = t from ht]
  rw [← hfin] at f1 f2 f3 f4
  have hge := g2.trans f2
  refine ⟨f1, fun q hq => ?_, fun r c => ?_, fun r => ?_, fun r g => ?_, fun c hc q hq ha hk hd => ?_, fun c hc q hq hk he hd x hx hv => ?_, fun c hc q hq hk y hd he hr hr2 => ?_⟩
  · rcases List.mem_append.1 hq with e | e
    · exact h.dn q e
    · rw [List.mem_singleton] at e; subst e; exact ⟨hp, hp0⟩
  · rw [hge.ask]; exact h.ask r c
  · rw [hge.giv]; exact h.giv r
  · rw [f3]; exact lk r g
  · rcases List.mem_append.1 hq with e | e
    · exact hge.has (h.c1 c hc q e ha hk hd)
    · rw [List.mem_singleton] at e; subst e
      exact f2.has (g4 c ((h.ask _ c).2 ⟨hc, ha⟩) hk hd)
  · rcases List.mem_append.1 hq with e | e
    · exact hge.has (h.c2 c hc q e hk he hd x hx hv)
    · rw [List.mem_singleton] at e; subst e
      exact f2.has (g5 c ((h.ask _ c).2 ⟨hc, .inr (.inl ⟨hk, he⟩)⟩) hk hd x hx hv)
  · rcases List.mem_append.1 hq with e | e
    · exact hge.has (h.c3 c hc q e hk y hd he hr hr2)
    · rw [List.mem_singleton] at e; subst e
      exact f4 (roleOf c) ((lk _ _).2 ⟨c, hc, hk, y, hd, he, rfl, .inl ⟨hr, hr2⟩⟩)
theorem Md.all (hpe : ∀ i, i < 16 → domN i ∈ pe) (hn : n ≠ 0) : ∀ (l : List Pr), (∀ p ∈ l, rd cs p = n - 1 ∧ rd cs p ≠ 0 ∧ p.2 ∈ pe) → ∀ done s, Md cs pe n done s → Md cs pe n (done ++ l) (l.foldl (Se.follow pe n) s)
  | [], _, done, s, h => by simpa using h
  | a :: l, hl, done, s, h => by
    obtain ⟨h1, h2, h3⟩ := hl a (by simp)
    have := Md.all hpe hn l (fun x hx => hl x (List.mem_cons_of_mem _ hx)) _ _ (h.follow hpe hn h1 h2 h3)
    rw [List.append_assoc] at this
    exact this
theorem rd_pred {m : Nat} {q : Pr} (h : rd cs q = m + 2) : ∃ c ∈ cs, q.1 = roleOf c ∧
    ((c.kd ≠ 3 ∧ Der c (Lv cs (m + 1)) q ∧ ∃ p, rd cs p = m + 1 ∧ p.2 = q.2 ∧ Asks c p.1) ∨
     (c.kd = 3 ∧ ∃ y, isD y ∧ Lv cs (m + 1) (firstOf c, y) ∧ Lv cs (m + 1) ((y, c.bn), q.2) ∧ (rd cs (firstOf c, y) = m + 1 ∨ (rd cs ((y, c.bn), q.2) = m + 1 ∧ rd cs (firstOf c, y) ≠ m + 1)))) := by
  obtain ⟨c, hc, hd⟩ := rd_der h
  obtain ⟨h1, h2⟩ := rd_eq.1 h
  have hno : ¬ Der c (Lv cs m) q := fun hd2 => h2 (.inr ⟨c, hc, hd2⟩)
  have key : ∀ p, Lv cs (m + 1) p → ¬ Lv cs m p → rd cs p = m + 1 := fun p a b => rd_eq.2 ⟨a, b⟩
  refine ⟨c, hc, hd.1, ?_⟩
  have hq := hd.1
  rcases hd.2 with ⟨hk, h3⟩ | ⟨hk, h3⟩ | ⟨hk, y, h3, hy, h4⟩ | ⟨hk, h3, h4⟩
  · exact absurd ⟨hq, .inl ⟨hk, h3⟩⟩ hno
  · refine .inl ⟨by omega, hd, _, key _ h3 fun h5 => hno ⟨hq, .inr (.inl ⟨hk, h5⟩)⟩, rfl, .inl ⟨hk, rfl⟩⟩
  · refine .inr ⟨hk, y, hy, h3, h4, ?_⟩
    by_cases h5 : Lv cs m (firstOf c, y)
    · refine .inr ⟨key _ h4 fun h6 => hno ⟨hq, .inr (.inr (.inl ⟨hk, y, h5, hy, h6⟩))⟩, fun e => ?_⟩
      have := (rd_lv.1 h5).2
      omega
    · exact .inl (key _ h3 h5)
  · by_cases h5 : Lv cs m ((c.ao, c.an), q.2)
    · exact .inl ⟨by omega, hd, ((c.bo, c.bn), q.2), key _ h4 fun h6 => hno ⟨hq, .inr (.inr (.inr ⟨hk, h5, h6⟩))⟩, rfl, .inr (.inr ⟨hk, .inr rfl⟩)⟩
    · exact .inl ⟨by omega, hd, ((c.ao, c.an), q.2), key _ h3 h5, rfl, .inr (.inr ⟨hk, .inl rfl⟩)⟩
theorem pe_isD (hpe : ∀ i, i < 16 → domN i ∈ pe) {y : ByteArray} (hy : isD y) : y ∈ pe := by
  obtain ⟨i, hi, e⟩ := (isD_iff _).1 hy
  rw [e]; exact hpe i hi
theorem Md.fin (hpe : ∀ i, i < 16 → domN i ∈ pe) (hn : 2 ≤ n) (h : Md cs pe n done s) (hd : ∀ p, p ∈ done ↔ p.2 ∈ pe ∧ rd cs p = n - 1) : Rs cs pe (n + 1) s := by
  refine ⟨fun q hq => ?_, fun q h1 h2 h3 => ?_, h.gd.kn, h.gd.nd, h.gd.fr, h.ask, h.giv, fun r g => ?_⟩
  · obtain ⟨a, b, c⟩ := h.gd.snd q hq
    exact ⟨a, b, by omega⟩
  · rcases Nat.lt_or_ge (rd cs q) n with h4 | h4
    · exact h.gd.low q h1 h2 h4
    · obtain ⟨m, rfl⟩ : ∃ m, n = m + 2 := ⟨n - 2, by omega⟩
      have he : rd cs q = m + 2 := by omega
      obtain ⟨c, hc, hr, h5⟩ := rd_pred he
      have hq : q = (roleOf c, q.2) := by rw [← hr]
      rw [hq]
      rcases h5 with ⟨hk, hdr, p, hp, hpq, ha⟩ | ⟨hk, y, hy, h6, h7, h8⟩
      · have := h.c1 c hc p ((hd p).2 ⟨by rw [hpq]; exact h1, by omega⟩) ha hk
        rw [hpq] at this
        rw [hq] at hdr
        exact this hdr
      · rcases h8 with h8 | ⟨h8, h9⟩
        · exact h.c2 c hc (firstOf c, y) ((hd _).2 ⟨pe_isD hpe hy, by show rd cs (firstOf c, y) = _; omega⟩) hk rfl hy q.2 h1 h7
        · obtain ⟨a1, a2⟩ := rd_lv.1 h6
          exact h.c3 c hc ((y, c.bn), q.2) ((hd _).2 ⟨h1, by show rd cs ((y, c.bn), q.2) = _; omega⟩) hk y hy rfl a1 (by omega)
  · rw [h.lnk]
    constructor
    · rintro ⟨c, hc, hk, y, a, b, d, e⟩
      refine ⟨c, hc, hk, y, a, b, d, ?_⟩
      rcases e with ⟨e1, e2⟩ | e
      · exact ⟨e1, by omega⟩
      · have := (hd _).1 e
        have h2 := h.dn _ e
        exact ⟨h2.2, by omega⟩
    · rintro ⟨c, hc, hk, y, a, b, d, e1, e2⟩
      refine ⟨c, hc, hk, y, a, b, d, ?_⟩
      rcases Nat.lt_or_ge (rd cs (firstOf c, y) + 1) n with e3 | e3
      · exact .inl ⟨e1, e3⟩
      · exact .inr ((hd _).2 ⟨pe_isD hpe a, by omega⟩)
theorem Rs.round (hpe : ∀ i, i < 16 → domN i ∈ pe) (hn : 2 ≤ n) (h : Rs cs pe n s) : Rs cs pe (n + 1) (s.round pe n) := by
  have hf : ∀ p, p ∈ s.fr ↔ p.2 ∈ pe ∧ rd cs p = n - 1 := fun p => by
    rw [h.fr]
    constructor
    · intro e
      obtain ⟨a, b, c⟩ := h.snd p (by omega)
      exact ⟨a, by omega⟩
    · rintro ⟨a, b⟩
      have := h.low p a (by omega) (by omega)
      rw [(h.snd p this).2.1]; exact b
  have h1 := Md.all hpe (by omega : n ≠ 0) s.fr (fun p hp => ⟨((hf p).1 hp).2, by have := ((hf p).1 hp).2; omega, ((hf p).1 hp).1⟩) [] _ (Md.start h (by omega))
  exact h1.fin hpe hn (fun p => by rw [List.nil_append]; exact hf p)
theorem Tk.rs (h : Tk pe cs s) (hk : ∀ c ∈ cs, 1 ≤ c.kd ∧ c.kd ≤ 4) : Rs cs pe 2 s := by
  have h1 : ∀ q, s.rn q ≠ 0 ↔ q.2 ∈ pe ∧ rd cs q = 1 := fun q => by
    rw [h.rn]
    constructor
    · rintro ⟨c, hc, a, b, rfl⟩
      refine ⟨b, ?_⟩
      have : Lv cs 1 (roleOf c, c.wh) := .inr ⟨c, hc, rfl, .inl ⟨a, rfl⟩⟩
      have := rd_lv.1 this
      omega
    · rintro ⟨a, b⟩
      obtain ⟨c, hc, e, hd⟩ := rd_der (n := 0) b
      rcases hd with ⟨hk, h3⟩ | ⟨hk, h3⟩ | ⟨hk, y, h3, hy, h4⟩ | ⟨hk, h3, h4⟩
      · refine ⟨c, hc, hk, by rw [← h3]; exact a, ?_⟩
        rw [← e, ← h3]
      · exact h3.elim
      · exact h3.elim
      · exact h3.elim
  refine ⟨fun q hq => ?_, fun q h2 h3 h4 => (h1 q).2 ⟨h2, by omega⟩, h.kn, h.nd, fun q => ?_, h.ask, h.giv, fun r g => ?_⟩
  · obtain ⟨a, b⟩ := (h1 q).1 hq
    exact ⟨a, by rw [h.one q hq, b], by omega⟩
  · rw [h.fr, h.kn]
    exact ⟨h.one q, fun e => by omega⟩
  · rw [h.lnk]
    constructor
    · intro e; simp at e
    · rintro ⟨c, hc, hk, y, a, b, d, e1, e2⟩; omega
theorem Rs.stop (hpe : ∀ i, i < 16 → domN i ∈ pe) (hn : 2 ≤ n) (h : Rs cs pe n s) (hf : s.fr = []) : ∀ q, q.2 ∈ pe → s.rn q = rd cs q := by
  have key : ∀ k q, q.2 ∈ pe → rd cs q ≠ n - 1 + k := by
    intro k
    induction k with
    | zero =>
      intro q hq e
      have h1 := h.low q hq (by omega) (by omega)
      have : q ∈ s.fr := (h.fr q).2 (by rw [(h.snd q h1).2.1]; omega)
      rw [hf] at this
      cases this
    | succ k ih =>
      intro q hq e
      obtain ⟨m, rfl⟩ : ∃ m, n = m + 2 := ⟨n - 2, by omega⟩
      obtain ⟨c, hc, hr, h5⟩ := rd_pred (m := m + k) (q := q) (cs := cs) (by omega)
      rcases h5 with ⟨hk, hdr, p, hp, hpq, ha⟩ | ⟨hk, y, hy, h6, h7, h8⟩
      · exact ih p (by rw [hpq]; exact hq) (by omega)
      · rcases h8 with h8 | ⟨h8, h9⟩
        · exact ih (firstOf c, y) (pe_isD hpe hy) (by omega)
        · exact ih ((y, c.bn), q.2) hq (by omega)
  intro q hq
  rcases Nat.lt_or_ge (rd cs q) n with h1 | h1
  · by_cases h0 : s.rn q = 0
    · by_cases h2 : rd cs q = 0
      · rw [h0, h2]
      · exact absurd h0 (h.low q hq h2 h1)
    · exact (h.snd q h0).2.1
  · exact absurd (show rd cs q = n - 1 + (rd cs q - (n - 1)) by omega) (key _ q hq)
end
end Go.Proofs.YtoajckhnneagnaaDoor.Sh
namespace Go.Proofs.YtoajckhnneagnaaDoor.Sh
open Go Go.RowKit

set_option linter.unusedVariables false
set_option linter.unusedSimpArgs false
theorem nodup_lenA {α : Type} [DecidableEq α] : ∀ {a b : List α}, a.Nodup → (∀ x ∈ a, x ∈ b) → a.length ≤ b.length
  | [], _, _, _ => Nat.zero_le _
  | x :: t, b, h, hs => by
    obtain ⟨h1, h2⟩ := List.nodup_cons.1 h
    have hx := hs x (by simp)
    have := nodup_lenA (b := b.erase x) h2 (fun y hy => (List.mem_erase_of_ne (fun e => h1 (by rw [← e]; exact hy))).2 (hs y (by simp [hy])))
    rw [List.length_erase_of_mem hx] at this
    have := List.length_pos_of_mem hx
    simp only [List.length_cons]
    omega
def Hds (cs : List Crd) (pe : List ByteArray) : List Pr := cs.flatMap fun c => pe.map fun x => (roleOf c, x)
section
variable {cs : List Crd} {pe : List ByteArray} {q : Pr} {s s' s'' : Se} {n : Nat}
theorem hds_len : (Hds cs pe).length = cs.length * pe.length := by
  unfold Hds
  induction cs with
  | nil => simp
  | cons c t ih => rw [List.flatMap_cons, List.length_append, ih, List.length_map, List.length_cons, Nat.succ_mul, Nat.add_comm]
theorem rd_role (h : rd cs q ≠ 0) : ∃ c ∈ cs, q.1 = roleOf c := by
  obtain ⟨c, hc, hd⟩ := rd_der (p := q) (cs := cs) (n := rd cs q - 1) (by omega)
  exact ⟨c, hc, hd.1⟩
theorem in_hds (h : rd cs q ≠ 0) (hq : q.2 ∈ pe) : q ∈ Hds cs pe := by
  obtain ⟨c, hc, e⟩ := rd_role h
  exact List.mem_flatMap.2 ⟨c, hc, List.mem_map.2 ⟨q.2, hq, by rw [← e]⟩⟩
theorem rd_chain (hpe : ∀ i, i < 16 → domN i ∈ pe) : ∀ m q, q.2 ∈ pe → rd cs q = m → ∃ l : List Pr, l.length = m ∧ l.Nodup ∧ ∀ p ∈ l, p.2 ∈ pe ∧ rd cs p ≠ 0 ∧ rd cs p ≤ m := by
  intro m
  induction m with
  | zero => exact fun q _ _ => ⟨[], rfl, List.nodup_nil, by simp⟩
  | succ m ih =>
    intro q hq e
    have key : ∀ l : List Pr, l.length = m → l.Nodup → (∀ p ∈ l, p.2 ∈ pe ∧ rd cs p ≠ 0 ∧ rd cs p ≤ m) → ∃ l : List Pr, l.length = m + 1 ∧ l.Nodup ∧ ∀ p ∈ l, p.2 ∈ pe ∧ rd cs p ≠ 0 ∧ rd cs p ≤ m + 1 := fun l h1 h2 h3 =>
      ⟨q :: l, by rw [List.length_cons, h1], List.nodup_cons.2 ⟨fun hm => by have := (h3 q hm).2.2; omega, h2⟩, fun p hp => by
        rcases List.mem_cons.1 hp with e2 | e2
        · rw [e2]; exact ⟨hq, by omega, by omega⟩
        · have := h3 p e2; exact ⟨this.1, this.2.1, by omega⟩⟩
    cases m with
    | zero => exact key [] rfl List.nodup_nil (by simp)
    | succ k =>
      obtain ⟨c, hc, hr, h5⟩ := rd_pred e
      have : ∃ p : Pr, p.2 ∈ pe ∧ rd cs p = k + 1 := by
        rcases h5 with ⟨_, _, p, hp, hpq, _⟩ | ⟨_, y, hy, _, _, h8⟩
        · exact ⟨p, by rw [hpq]; exact hq, hp⟩
        · rcases h8 with h8 | ⟨h8, _⟩
          · exact ⟨_, pe_isD hpe hy, h8⟩
          · exact ⟨((y, c.bn), q.2), hq, h8⟩
      obtain ⟨p, hp, he⟩ := this
      obtain ⟨l, h1, h2, h3⟩ := ih p hp he
      exact key l h1 h2 h3
theorem rd_bound (hpe : ∀ i, i < 16 → domN i ∈ pe) (hq : q.2 ∈ pe) : rd cs q ≤ cs.length * pe.length := by
  obtain ⟨l, h1, h2, h3⟩ := rd_chain hpe _ q hq rfl
  rw [← h1, ← hds_len]
  exact nodup_lenA h2 fun p hp => in_hds (h3 p hp).2.1 (h3 p hp).1
theorem Gd.knl (h : Gd cs pe n s) : s.kn.length ≤ cs.length * pe.length := by
  rw [← hds_len]
  refine nodup_lenA h.nd fun p hp => ?_
  have h1 := (h.kn p).1 hp
  obtain ⟨a, b, c⟩ := h.snd p h1
  exact in_hds (by rw [← b]; exact h1) a
theorem Rs.knl (h : Rs cs pe n s) : s.kn.length ≤ cs.length * pe.length := by
  rw [← hds_len]
  refine nodup_lenA h.nd fun p hp => ?_
  have h1 := (h.kn p).1 hp
  obtain ⟨a, b, c⟩ := h.snd p h1
  exact in_hds (by rw [← b]; exact h1) a
structure Gw (k : Nat) (s s' : Se) : Prop where
  app : ∃ new, s'.kn = s.kn ++ new ∧ s'.fr = s.fr ++ new
  ic : s'.ic ≤ s.ic + k
theorem Gw.refl (s : Se) : Gw 0 s s := ⟨⟨[], by simp, by simp⟩, Nat.le_refl _⟩
theorem Gw.trans {k j : Nat} (h : Gw k s s') (g : Gw j s' s'') : Gw (k + j) s s'' := by
  obtain ⟨⟨a, a1, a2⟩, a3⟩ := h
  obtain ⟨⟨b, b1, b2⟩, b3⟩ := g
  exact ⟨⟨a ++ b, by rw [b1, a1, List.append_assoc], by rw [b2, a2, List.append_assoc]⟩, by omega⟩
theorem Gw.more {k j : Nat} (h : Gw k s s') (hj : k ≤ j) : Gw j s s' := ⟨h.app, by have := h.ic; omega⟩
theorem Gw.fl {k : Nat} (h : Gw k s s') (hl : s.fr.length ≤ s.kn.length) : s'.fr.length ≤ s'.kn.length := by
  obtain ⟨⟨a, a1, a2⟩, _⟩ := h
  rw [a1, a2, List.length_append, List.length_append]; omega
theorem gw_add (p : Pr) (n : Nat) : Gw 0 s (s.add p n) := by
  by_cases h : s.rn p = 0
  · rw [add_new' h]; exact ⟨⟨[p], rfl, rfl⟩, Nat.le_refl _⟩
  · rw [add_old h]; exact .refl _
theorem gw_fold {α : Type} (f : Se → α → Se) (k : Nat) (hf : ∀ s a, Gw k s (f s a)) : ∀ (l : List α) (s : Se), Gw (l.length * k) s (l.foldl f s)
  | [], s => (Gw.refl s).more (by simp)
  | a :: l, s => ((hf s a).trans (gw_fold f k hf l (f s a))).more (by rw [List.length_cons, Nat.succ_mul]; omega)
theorem gw_openX (r o : Rl) (x : ByteArray) : Gw 0 s (Se.openX n r o s x) := by
  unfold Se.openX; split
  · exact gw_add _ _
  · exact .refl _
theorem gw_opn (c : Crd) (y : ByteArray) : Gw 1 s (s.opn pe c y n) := by
  unfold Se.opn; split
  · have h1 : Gw 1 s (s.toLnk (y, c.bn) (roleOf c)) := ⟨⟨[], (List.append_nil _).symm, (List.append_nil _).symm⟩, Nat.le_refl _⟩
    exact (h1.trans (gw_fold _ 0 (fun s x => gw_openX _ _ x) pe _)).more (by simp)
  · exact (Gw.refl s).more (by omega)
theorem gw_folO (x : ByteArray) (c : Crd) : Gw 1 s (Se.folO pe x n s c) := by
  unfold Se.folO; split
  · exact gw_opn c x
  · split
    · exact (gw_add _ _).more (by omega)
    · exact (Gw.refl s).more (by omega)
theorem gw_folA (p : Pr) : Gw (s.ask p.1).length s (s.folA pe p n) := (gw_fold _ 1 (fun s c => gw_folO _ c) _ s).more (by rw [Nat.mul_one]; exact Nat.le_refl _)
theorem gw_folL (p : Pr) : Gw 0 s (s.folL p n) := (gw_fold _ 0 (fun s r => gw_add _ _) _ s).more (by simp)
theorem gw_follow (p : Pr) : Gw (s.ask p.1).length s (s.follow pe n p) := ((gw_folA p).trans (gw_folL p)).more (by omega)
end
abbrev WhyM := Pr → Option ((Int × Int) × List Pr)
def ReOk (cs : List Crd) (re : WhyM) : Prop := ∀ q i ps, re q = some (i, ps) → ∃ c, fs cs q = some (c, ps) ∧ i = (c.d, c.q)
structure Exp (cs : List Crd) (P : Pr → Prop) (re re' : WhyM) : Prop where
  old : ∀ q, re q ≠ none → re' q = re q
  ok : ReOk cs re'
  rch : ∀ q, re q = none → re' q ≠ none → Rch cs P q
  shut : ∀ q i ps, re q = none → re' q = some (i, ps) → ∀ r ∈ ps, re' r ≠ none
def Shut (re : WhyM) : Prop := ∀ q i ps, re q = some (i, ps) → ∀ r ∈ ps, re r ≠ none
section
variable {cs : List Crd} {P Q : Pr → Prop} {re re' re'' : WhyM}
theorem Exp.refl (h : ReOk cs re) : Exp cs P re re := ⟨fun _ _ => rfl, h, fun q h1 h2 => absurd h1 h2, fun q i ps h1 h2 => by rw [h1] at h2; cases h2⟩
theorem Exp.has (h : Exp cs P re re') {q : Pr} (hq : re q ≠ none) : re' q ≠ none := by rw [h.old q hq]; exact hq
theorem Exp.trans (h : Exp cs P re re') (g : Exp cs P re' re'') : Exp cs P re re'' := by
  refine ⟨fun q hq => (g.old q (h.has hq)).trans (h.old q hq), g.ok, fun q h1 h2 => ?_, fun q i ps h1 h2 r hr => ?_⟩
  · by_cases e : re' q = none
    · exact g.rch q e h2
    · exact h.rch q h1 e
  · by_cases e : re' q = none
    · exact g.shut q i ps e h2 r hr
    · rw [g.old q e] at h2
      exact g.has (h.shut q i ps h1 h2 r hr)
theorem Rch.bind (hPQ : ∀ p, P p → Rch cs Q p) {q : Pr} (h : Rch cs P q) : Rch cs Q q := by
  induction h with
  | base h => exact hPQ _ h
  | step _ h2 h3 ih => exact .step ih h2 h3
theorem Exp.to (h : Exp cs P re re') (hPQ : ∀ p, P p → Rch cs Q p) : Exp cs Q re re' := ⟨h.old, h.ok, fun q h1 h2 => (h.rch q h1 h2).bind hPQ, h.shut⟩
theorem Exp.shuts (h : Exp cs P re re') (hs : Shut re) : Shut re' := fun q i ps hq r hr => by
  by_cases e : re q = none
  · exact h.shut q i ps e hq r hr
  · rw [h.old q e] at hq
    exact h.has (hs q i ps hq r hr)
def WhyM.set (re : WhyM) (p : Pr) (i : Int × Int) (ps : List Pr) : WhyM := fun q => if q = p then some (i, ps) else re q
theorem exp_set {p : Pr} {c : Crd} {ps : List Pr} (h : ReOk cs re) (hp : re p = none) (hf : fs cs p = some (c, ps)) {re' : WhyM} (g : Exp cs (· ∈ ps) (re.set p (c.d, c.q) ps) re') (ha : ∀ r ∈ ps, re' r ≠ none) : Exp cs (· = p) re re' ∧ re' p ≠ none := by
  have hset : re.set p (c.d, c.q) ps p = some ((c.d, c.q), ps) := if_pos rfl
  have hp' : re' p = some ((c.d, c.q), ps) := (g.old p (by rw [hset]; simp)).trans hset
  refine ⟨⟨fun q hq => ?_, g.ok, fun q h1 h2 => ?_, fun q i qs h1 h2 r hr => ?_⟩, by rw [hp']; simp⟩
  · have hne : q ≠ p := fun e => hq (by rw [e]; exact hp)
    have : re.set p (c.d, c.q) ps q = re q := if_neg hne
    rw [g.old q (by rw [this]; exact hq), this]
  · by_cases e : q = p
    · rw [e]; exact .base rfl
    · have : re.set p (c.d, c.q) ps q = none := by rw [← h1]; exact if_neg e
      exact Rch.bind (Q := (· = p)) (fun r hr => .step (P := (· = p)) (.base rfl) hf hr) (g.rch q this h2)
  · by_cases e : q = p
    · subst e
      rw [hp'] at h2
      cases h2
      exact ha r hr
    · have : re.set p (c.d, c.q) ps q = none := by rw [← h1]; exact if_neg e
      exact g.shut q i qs this h2 r hr
theorem reok_set {p : Pr} {c : Crd} {ps : List Pr} (h : ReOk cs re) (hf : fs cs p = some (c, ps)) : ReOk cs (re.set p (c.d, c.q) ps) := fun q i qs hq => by
  unfold WhyM.set at hq
  split at hq
  · rename_i e; subst e; cases hq; exact ⟨c, hf, rfl⟩
  · exact h q i qs hq
theorem shut_rch (hok : ReOk cs re) (hs : Shut re) (hP : ∀ p, P p → re p ≠ none) {q : Pr} (h : Rch cs P q) : re q ≠ none := by
  induction h with
  | base h => exact hP _ h
  | step h1 h2 h3 ih =>
    rename_i p q c ps
    cases e : re p with
    | none => exact absurd e ih
    | some x =>
      obtain ⟨i, ps'⟩ := x
      obtain ⟨c', h4, _⟩ := hok p i ps' e
      rw [h2] at h4; cases h4
      exact hs p i ps e _ h3
theorem fst1_filter {pe : List ByteArray} {L : Pr → Prop} {p : Pr} (hp : p.2 ∈ pe) : fst1 (cs.filter fun c => mat pe c && decide (roleOf c = p.1)) L p = fst1 cs L p := by
  unfold fst1
  induction cs with
  | nil => rfl
  | cons c t ih =>
    by_cases h : (mat pe c && decide (roleOf c = p.1)) = true
    · rw [List.filter_cons, if_pos h, List.findSome?_cons, List.findSome?_cons, ih]
    · rw [List.filter_cons, if_neg h, List.findSome?_cons, ih]
      have : why c L p = none := why_none.2 fun hd => by
        apply h
        rw [Bool.and_eq_true]
        refine ⟨?_, decide_eq_true hd.1.symm⟩
        unfold mat
        rw [Bool.not_eq_true']
        cases hk : decide (c.kd = 1) with
        | false => rfl
        | true =>
          have hk1 := of_decide_eq_true hk
          rcases hd.2 with h1 | h1 | h1 | h1
          · rw [← h1.2]; simp [hp]
          · omega
          · omega
          · omega
      rw [this]; rfl
end
end Go.Proofs.YtoajckhnneagnaaDoor.Sh
