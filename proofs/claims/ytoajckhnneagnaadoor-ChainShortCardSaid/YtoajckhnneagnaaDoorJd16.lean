/-
  Rounds: in how many of them a pair is said; the proof of a pair. Nothing of the program's own text.
-/
import Derived.Test.YtoajckhnneagnaaDoorJd15
set_option linter.unusedVariables false
set_option linter.unusedSimpArgs false
namespace Go.Proofs.YtoajckhnneagnaaDoor.Sh
open Go Go.RowKit

set_option linter.unusedVariables false
set_option linter.unusedSimpArgs false
def Der (c : Crd) (L : Pr → Prop) (p : Pr) : Prop :=
  p.1 = roleOf c ∧ ((c.kd = 1 ∧ p.2 = c.wh) ∨ (c.kd = 2 ∧ L ((c.ao, c.an), p.2)) ∨ (c.kd = 3 ∧ ∃ y, L (firstOf c, y) ∧ isD y ∧ L ((y, c.bn), p.2)) ∨ (c.kd = 4 ∧ L ((c.ao, c.an), p.2) ∧ L ((c.bo, c.bn), p.2)))
theorem Der.imp {c : Crd} {L L' : Pr → Prop} {p : Pr} (h : Der c L p) (hL : ∀ q, q.2 = p.2 ∨ isD q.2 → L q → L' q) : Der c L' p := by
  obtain ⟨h1, h2⟩ := h
  refine ⟨h1, ?_⟩
  rcases h2 with h3 | ⟨hk, h3⟩ | ⟨hk, y, h3, hd, h4⟩ | ⟨hk, h3, h4⟩
  · exact .inl h3
  · exact .inr (.inl ⟨hk, hL _ (.inl rfl) h3⟩)
  · exact .inr (.inr (.inl ⟨hk, y, hL _ (.inr hd) h3, hd, hL _ (.inl rfl) h4⟩))
  · exact .inr (.inr (.inr ⟨hk, hL _ (.inl rfl) h3, hL _ (.inl rfl) h4⟩))
def Lv (cs : List Crd) : Nat → Pr → Prop
  | 0 => fun _ => False
  | n + 1 => fun p => Lv cs n p ∨ ∃ c ∈ cs, Der c (Lv cs n) p
section
variable {cs : List Crd} {p : Pr}
theorem lv_mono {m n : Nat} (h : m ≤ n) (hp : Lv cs m p) : Lv cs n p := by
  induction n with
  | zero => obtain rfl : m = 0 := by omega
            exact hp
  | succ n ih =>
    rcases Nat.eq_or_lt_of_le h with e | e
    · subst e; exact hp
    · exact .inl (ih (by omega))
theorem lv_imp {n : Nat} (h : Lv cs n p) : Imp (· ∈ cs) p := by
  induction n generalizing p with
  | zero => exact h.elim
  | succ n ih =>
    rcases h with h | ⟨c, hc, h1, h2⟩
    · exact ih h
    · obtain ⟨r, x⟩ := p
      simp only at h1 h2
      subst h1
      rcases h2 with ⟨hk, rfl⟩ | ⟨hk, h3⟩ | ⟨hk, y, h3, hd, h4⟩ | ⟨hk, h3, h4⟩
      · exact Imp.mem (S := (· ∈ cs)) hc hk
      · exact Imp.inc (S := (· ∈ cs)) hc hk (ih h3)
      · exact Imp.lnk (S := (· ∈ cs)) hc hk (ih h3) hd (ih h4)
      · exact Imp.bth (S := (· ∈ cs)) hc hk (ih h3) (ih h4)
theorem imp_lv (h : Imp (· ∈ cs) p) : ∃ n, Lv cs n p := by
  induction h with
  | mem hs hk => exact ⟨1, .inr ⟨_, hs, rfl, .inl ⟨hk, rfl⟩⟩⟩
  | inc hs hk _ ih =>
    obtain ⟨n, hn⟩ := ih
    exact ⟨n + 1, .inr ⟨_, hs, rfl, .inr (.inl ⟨hk, hn⟩)⟩⟩
  | lnk hs hk _ hd _ ih1 ih2 =>
    obtain ⟨n, hn⟩ := ih1
    obtain ⟨m, hm⟩ := ih2
    exact ⟨max n m + 1, .inr ⟨_, hs, rfl, .inr (.inr (.inl ⟨hk, _, lv_mono (Nat.le_max_left _ _) hn, hd, lv_mono (Nat.le_max_right _ _) hm⟩))⟩⟩
  | bth hs hk _ _ ih1 ih2 =>
    obtain ⟨n, hn⟩ := ih1
    obtain ⟨m, hm⟩ := ih2
    exact ⟨max n m + 1, .inr ⟨_, hs, rfl, .inr (.inr (.inr ⟨hk, lv_mono (Nat.le_max_left _ _) hn, lv_mono (Nat.le_max_right _ _) hm⟩))⟩⟩
theorem least_of {P : Nat → Prop} : ∀ n, P n → ∃ k, P k ∧ ∀ m, m < k → ¬ P m := fun n => by
  induction n using Nat.strongRecOn with
  | ind n ih =>
    intro h
    by_cases hx : ∃ m, m < n ∧ P m
    · obtain ⟨m, hm, h2⟩ := hx
      exact ih m hm h2
    · exact ⟨n, h, fun m hm h2 => hx ⟨m, hm, h2⟩⟩
end
open Classical in
/-- The round of a pair; none: 0. -/
noncomputable def rd (cs : List Crd) (p : Pr) : Nat := if h : ∃ n, Lv cs n p ∧ ∀ m, m < n → ¬ Lv cs m p then Classical.choose h else 0
section
variable {cs : List Crd} {p : Pr}
theorem rd_lv {n : Nat} : Lv cs n p ↔ rd cs p ≠ 0 ∧ rd cs p ≤ n := by
  unfold rd
  constructor
  · intro h
    have hx : ∃ n, Lv cs n p ∧ ∀ m, m < n → ¬ Lv cs m p := least_of n h
    rw [dif_pos hx]
    have hc := Classical.choose_spec hx
    generalize Classical.choose hx = k at hc
    refine ⟨fun e => ?_, ?_⟩
    · subst e; exact hc.1.elim
    · rcases Nat.lt_or_ge n k with h1 | h1
      · exact absurd h (hc.2 n h1)
      · exact h1
  · rintro ⟨h1, h2⟩
    split at h2
    · rename_i hx
      exact lv_mono h2 (Classical.choose_spec hx).1
    · rename_i hx
      rw [dif_neg hx] at h1
      exact absurd rfl h1
theorem rd_imp : rd cs p ≠ 0 ↔ Imp (· ∈ cs) p := ⟨fun h => lv_imp (rd_lv.2 ⟨h, Nat.le_refl _⟩), fun h => by obtain ⟨n, hn⟩ := imp_lv h; exact (rd_lv.1 hn).1⟩
theorem rd_eq {n : Nat} : rd cs p = n + 1 ↔ Lv cs (n + 1) p ∧ ¬ Lv cs n p := by
  rw [rd_lv, rd_lv]; omega
theorem rd_der {n : Nat} (h : rd cs p = n + 1) : ∃ c ∈ cs, Der c (Lv cs n) p := by
  obtain ⟨h1, h2⟩ := rd_eq.1 h
  rcases h1 with h1 | h1
  · exact absurd h1 h2
  · exact h1
theorem rd_le {n : Nat} {c : Crd} (hc : c ∈ cs) (h : Der c (Lv cs n) p) : rd cs p ≠ 0 ∧ rd cs p ≤ n + 1 := rd_lv.1 (.inr ⟨c, hc, h⟩)
end
def domN (i : Nat) : ByteArray := domB ((i : Int) + 1)
theorem domN_isD {i : Nat} (h : i < 16) : isD (domN i) := (isD_iff _).2 ⟨i, h, rfl⟩
open Classical in
/-- By which pairs a credential brings a pair about. -/
noncomputable def why (c : Crd) (L : Pr → Prop) (p : Pr) : Option (List Pr) :=
  if p.1 = roleOf c then
    if c.kd = 1 then (if p.2 = c.wh then some [] else none)
    else if c.kd = 2 then (if L ((c.ao, c.an), p.2) then some [((c.ao, c.an), p.2)] else none)
    else if c.kd = 3 then ((List.range 16).find? fun i => decide (L (firstOf c, domN i) ∧ L ((domN i, c.bn), p.2))).map fun i => [(firstOf c, domN i), ((domN i, c.bn), p.2)]
    else if c.kd = 4 then (if L ((c.ao, c.an), p.2) ∧ L ((c.bo, c.bn), p.2) then some [((c.ao, c.an), p.2), ((c.bo, c.bn), p.2)] else none)
    else none
  else none
section
variable {c : Crd} {L L' : Pr → Prop} {p : Pr} {ps : List Pr}
theorem why_iff : why c L p = some ps ↔ p.1 = roleOf c ∧
    ((c.kd = 1 ∧ p.2 = c.wh ∧ ps = []) ∨ (c.kd = 2 ∧ L ((c.ao, c.an), p.2) ∧ ps = [((c.ao, c.an), p.2)]) ∨
     (c.kd = 3 ∧ ∃ i, i < 16 ∧ L (firstOf c, domN i) ∧ L ((domN i, c.bn), p.2) ∧ (∀ j, j < i → ¬ (L (firstOf c, domN j) ∧ L ((domN j, c.bn), p.2))) ∧ ps = [(firstOf c, domN i), ((domN i, c.bn), p.2)]) ∨
     (c.kd = 4 ∧ L ((c.ao, c.an), p.2) ∧ L ((c.bo, c.bn), p.2) ∧ ps = [((c.ao, c.an), p.2), ((c.bo, c.bn), p.2)])) := by
  classical
  unfold why
  by_cases h0 : p.1 = roleOf c
  · rw [if_pos h0]
    by_cases h1 : c.kd = 1
    · rw [if_pos h1]
      simp only [h0, h1, true_and]
      by_cases h2 : p.2 = c.wh
      · simp [h2, eq_comm]
      · simp [h2]
    · rw [if_neg h1]
      by_cases h2 : c.kd = 2
      · rw [if_pos h2]
        simp only [h0, h2, true_and]
        by_cases h3 : L ((c.ao, c.an), p.2)
        · simp [h3, eq_comm]
        · simp [h3]
      · rw [if_neg h2]
        by_cases h3 : c.kd = 3
        · rw [if_pos h3]
          simp only [h0, h3, true_and]
          rw [Option.map_eq_some_iff]
          constructor
          · rintro ⟨i, hi, rfl⟩
            rw [List.find?_range_eq_some] at hi
            obtain ⟨ha, hb, hc⟩ := hi
            refine .inr (.inr (.inl ⟨i, List.mem_range.1 hb, (of_decide_eq_true ha).1, (of_decide_eq_true ha).2, fun j hj hh => ?_, rfl⟩))
            have := hc j hj
            rw [decide_eq_true hh] at this
            cases this
          · rintro (h4 | h4 | ⟨i, hi, ha, hb, hc, rfl⟩ | h4)
            · exact absurd h4.1 (by decide)
            · exact absurd h4.1 (by decide)
            · refine ⟨i, ?_, rfl⟩
              rw [List.find?_range_eq_some]
              exact ⟨decide_eq_true ⟨ha, hb⟩, List.mem_range.2 hi, fun j hj => by rw [decide_eq_false (hc j hj)]; rfl⟩
            · exact absurd h4.1 (by decide)
        · rw [if_neg h3]
          by_cases h4 : c.kd = 4
          · rw [if_pos h4]
            simp only [h0, h4, true_and]
            by_cases h5 : L ((c.ao, c.an), p.2) ∧ L ((c.bo, c.bn), p.2)
            · rw [if_pos h5]; simp [h5.1, h5.2, eq_comm]
            · rw [if_neg h5]
              constructor
              · intro h6; cases h6
              · rintro (h6 | h6 | h6 | h6)
                · exact absurd h6.1 (by decide)
                · exact absurd h6.1 (by decide)
                · exact absurd h6.1 (by decide)
                · exact absurd ⟨h6.1, h6.2.1⟩ h5
          · rw [if_neg h4]
            constructor
            · intro h6; cases h6
            · rintro ⟨-, h6 | h6 | h6 | h6⟩
              · exact absurd h6.1 h1
              · exact absurd h6.1 h2
              · exact absurd h6.1 h3
              · exact absurd h6.1 h4
  · rw [if_neg h0]
    constructor
    · intro h6; cases h6
    · rintro ⟨h6, -⟩; exact absurd h6 h0
theorem why_der (h : why c L p = some ps) : Der c L p := by
  obtain ⟨h0, h1⟩ := why_iff.1 h
  refine ⟨h0, ?_⟩
  rcases h1 with ⟨hk, h2, -⟩ | ⟨hk, h2, -⟩ | ⟨hk, i, hi, h2, h3, -⟩ | ⟨hk, h2, h3, -⟩
  · exact .inl ⟨hk, h2⟩
  · exact .inr (.inl ⟨hk, h2⟩)
  · exact .inr (.inr (.inl ⟨hk, _, h2, domN_isD hi, h3⟩))
  · exact .inr (.inr (.inr ⟨hk, h2, h3⟩))
theorem der_why (h : Der c L p) : ∃ ps, why c L p = some ps := by
  obtain ⟨h0, h1⟩ := h
  rcases h1 with ⟨hk, h2⟩ | ⟨hk, h2⟩ | ⟨hk, y, h2, hd, h3⟩ | ⟨hk, h2, h3⟩
  · exact ⟨_, why_iff.2 ⟨h0, .inl ⟨hk, h2, rfl⟩⟩⟩
  · exact ⟨_, why_iff.2 ⟨h0, .inr (.inl ⟨hk, h2, rfl⟩)⟩⟩
  · obtain ⟨n, hn, rfl⟩ := (isD_iff y).1 hd
    obtain ⟨k, ⟨hk1, hk2⟩, hk3⟩ := least_of (P := fun i => L (firstOf c, domN i) ∧ L ((domN i, c.bn), p.2)) n ⟨h2, h3⟩
    have : k < 16 := by
      rcases Nat.lt_or_ge n k with h4 | h4
      · exact absurd ⟨h2, h3⟩ (hk3 n h4)
      · omega
    exact ⟨_, why_iff.2 ⟨h0, .inr (.inr (.inl ⟨hk, k, this, hk1, hk2, hk3, rfl⟩))⟩⟩
  · exact ⟨_, why_iff.2 ⟨h0, .inr (.inr (.inr ⟨hk, h2, h3, rfl⟩))⟩⟩
theorem why_none : why c L p = none ↔ ¬ Der c L p := by
  constructor
  · intro h hd
    obtain ⟨ps, h2⟩ := der_why hd
    rw [h] at h2; cases h2
  · intro h
    cases h2 : why c L p with
    | none => rfl
    | some ps => exact absurd (why_der h2) h
theorem why_mem (h : why c L p = some ps) : ∀ q ∈ ps, L q ∧ (q.2 = p.2 ∨ isD q.2) := by
  obtain ⟨-, h1⟩ := why_iff.1 h
  rcases h1 with ⟨hk, h2, rfl⟩ | ⟨hk, h2, rfl⟩ | ⟨hk, i, hi, h2, h3, -, rfl⟩ | ⟨hk, h2, h3, rfl⟩
  · simp
  · intro q hq
    rw [List.mem_singleton] at hq; subst hq
    exact ⟨h2, .inl rfl⟩
  · intro q hq
    simp only [List.mem_cons, List.not_mem_nil, or_false] at hq
    rcases hq with rfl | rfl
    · exact ⟨h2, .inr (domN_isD hi)⟩
    · exact ⟨h3, .inl rfl⟩
  · intro q hq
    simp only [List.mem_cons, List.not_mem_nil, or_false] at hq
    rcases hq with rfl | rfl
    · exact ⟨h2, .inl rfl⟩
    · exact ⟨h3, .inl rfl⟩
theorem why_len (h : why c L p = some ps) : ps.length ≤ 2 := by
  obtain ⟨-, h1⟩ := why_iff.1 h
  rcases h1 with ⟨hk, h2, rfl⟩ | ⟨hk, h2, rfl⟩ | ⟨hk, i, hi, h2, h3, -, rfl⟩ | ⟨hk, h2, h3, rfl⟩ <;> simp
theorem why_congr (hL : ∀ q, q.2 = p.2 ∨ isD q.2 → (L q ↔ L' q)) : why c L p = why c L' p := by
  classical
  unfold why
  have e1 : ∀ r, L (r, p.2) = L' (r, p.2) := fun r => propext (hL _ (.inl rfl))
  have e2 : ∀ i, i < 16 → ∀ r, L (r, domN i) = L' (r, domN i) := fun i hi r => propext (hL _ (.inr (domN_isD hi)))
  have e3 : ((List.range 16).find? fun i => decide (L (firstOf c, domN i) ∧ L ((domN i, c.bn), p.2))) = (List.range 16).find? fun i => decide (L' (firstOf c, domN i) ∧ L' ((domN i, c.bn), p.2)) := by
    have key : ∀ l : List Nat, (∀ i ∈ l, i < 16) → (l.find? fun i => decide (L (firstOf c, domN i) ∧ L ((domN i, c.bn), p.2))) = l.find? fun i => decide (L' (firstOf c, domN i) ∧ L' ((domN i, c.bn), p.2)) := by
      intro l hl
      induction l with
      | nil => rfl
      | cons a t ih =>
        rw [List.find?_cons, List.find?_cons, ih (fun i hi => hl i (List.mem_cons_of_mem _ hi))]
        simp only [e1, e2 a (hl a (by simp))]
    exact key _ fun i hi => List.mem_range.1 hi
  rw [e3]
  simp only [e1]
end
noncomputable def fst1 (cs : List Crd) (L : Pr → Prop) (p : Pr) : Option (Crd × List Pr) := cs.findSome? fun c => (why c L p).map fun ps => (c, ps)
section
variable {cs : List Crd} {L L' : Pr → Prop} {p : Pr} {c : Crd} {ps : List Pr}
theorem fst1_some (h : fst1 cs L p = some (c, ps)) : c ∈ cs ∧ why c L p = some ps := by
  unfold fst1 at h
  rw [List.findSome?_eq_some_iff] at h
  obtain ⟨l1, a, l2, h1, h2, -⟩ := h
  rw [Option.map_eq_some_iff] at h2
  obtain ⟨ps', h3, h4⟩ := h2
  cases h4
  exact ⟨by rw [h1]; simp, h3⟩
theorem fst1_ex (hc : c ∈ cs) (h : Der c L p) : ∃ c' ps, fst1 cs L p = some (c', ps) := by
  cases h2 : fst1 cs L p with
  | some x => exact ⟨x.1, x.2, rfl⟩
  | none =>
    unfold fst1 at h2
    rw [List.findSome?_eq_none_iff] at h2
    have := h2 c hc
    rw [Option.map_eq_none_iff, why_none] at this
    exact absurd h this
end
noncomputable def fs (cs : List Crd) (p : Pr) : Option (Crd × List Pr) := fst1 cs (Lv cs (rd cs p - 1)) p
section
variable {cs : List Crd} {p : Pr} {c : Crd} {ps : List Pr}
theorem fs_ex (h : rd cs p ≠ 0) : ∃ c ps, fs cs p = some (c, ps) := by
  obtain ⟨c, hc, hd⟩ := rd_der (p := p) (cs := cs) (n := rd cs p - 1) (by omega)
  exact fst1_ex hc hd
theorem fs_mem (h : fs cs p = some (c, ps)) : c ∈ cs := (fst1_some h).1
theorem fs_why (h : fs cs p = some (c, ps)) : why c (Lv cs (rd cs p - 1)) p = some ps := (fst1_some h).2
theorem fs_lt (h : fs cs p = some (c, ps)) : ∀ q ∈ ps, rd cs q ≠ 0 ∧ rd cs q < rd cs p ∧ (q.2 = p.2 ∨ isD q.2) := fun q hq => by
  obtain ⟨h1, h2⟩ := why_mem (fs_why h) q hq
  obtain ⟨h3, h4⟩ := rd_lv.1 h1
  exact ⟨h3, by omega, h2⟩
theorem fs_rd (h : fs cs p = some (c, ps)) : rd cs p ≠ 0 := by
  have h1 := why_der (fs_why h)
  exact (rd_le (fs_mem h) h1).1
theorem fs_len (h : fs cs p = some (c, ps)) : ps.length ≤ 2 := why_len (fs_why h)
end
inductive Can (cs : List Crd) : PT → Prop
  | mk {p : PT} {c : Crd} {ps : List Pr} : fs cs p.pr = some (c, ps) → p.d = c.d → p.q = c.q → p.ps.map PT.pr = ps → (∀ a ∈ p.ps, Can cs a) → Can cs p
section
variable {cs : List Crd}
theorem pr_eq {p : PT} {r : Rl} {x : ByteArray} : p.pr = (r, x) ↔ (p.o, p.n) = r ∧ p.x = x := by
  unfold PT.pr; simp
theorem map_one {l : List PT} {q : Pr} (h : l.map PT.pr = [q]) : ∃ a, l = [a] ∧ a.pr = q := by
  match l, h with
  | [a], h => simp at h; exact ⟨a, rfl, h⟩
theorem map_two {l : List PT} {q r : Pr} (h : l.map PT.pr = [q, r]) : ∃ a b, l = [a, b] ∧ a.pr = q ∧ b.pr = r := by
  match l, h with
  | [a, b], h => simp at h; exact ⟨a, b, rfl, h.1, h.2⟩
theorem Can.cor {p : PT} (h : Can cs p) : Cor cs p := by
  induction h with
  | mk h1 h2 h3 h4 h5 ih =>
    rename_i p c ps
    refine .mk ?_ ih
    obtain ⟨h6, h7⟩ := why_iff.1 (fs_why h1)
    refine ⟨c, fs_mem h1, h2.symm, h3.symm, h6.symm, ?_⟩
    rcases h7 with ⟨hk, h8, rfl⟩ | ⟨hk, h8, rfl⟩ | ⟨hk, i, hi, h8, h9, -, rfl⟩ | ⟨hk, h8, h9, rfl⟩
    · exact .inl ⟨hk, h8, List.map_eq_nil_iff.1 h4⟩
    · obtain ⟨a, ha, hb⟩ := map_one h4
      exact .inr (.inl ⟨hk, a, ha, hb⟩)
    · obtain ⟨a, b, ha, hb, hc⟩ := map_two h4
      have hx : a.x = domN i := (pr_eq.1 hb).2
      refine .inr (.inr (.inl ⟨hk, a, b, ha, ?_, ?_, ?_⟩))
      · rw [hx]; exact hb
      · rw [hx]; exact domN_isD hi
      · rw [hx]; exact hc
    · obtain ⟨a, b, ha, hb, hc⟩ := map_two h4
      exact .inr (.inr (.inr ⟨hk, a, b, ha, hb, hc⟩))
theorem foldl_max_le {ps : List PT} {m k : Nat} : ps.foldl (fun n p => max n (p.deep + 1)) m ≤ k ↔ m ≤ k ∧ ∀ a ∈ ps, a.deep + 1 ≤ k := by
  induction ps generalizing m with
  | nil => simp
  | cons a t ih =>
    rw [List.foldl_cons, ih, Nat.max_le]
    simp only [List.mem_cons, forall_eq_or_imp]
    constructor
    · rintro ⟨⟨h1, h2⟩, h3⟩; exact ⟨h1, h2, h3⟩
    · rintro ⟨h1, h2, h3⟩; exact ⟨⟨h1, h2⟩, h3⟩
theorem deep_le {p : PT} {k : Nat} : p.deep ≤ k ↔ ∀ a ∈ p.ps, a.deep + 1 ≤ k := by
  obtain ⟨o, n, x, d, q, A, c, ps⟩ := p
  rw [PT.deep_eq, foldl_max_le]
  simp [PT.ps]
theorem cor_lv {p : PT} (h : Cor cs p) : Lv cs (p.deep + 1) p.pr := by
  induction h with
  | mk hf _ ih =>
    rename_i p _
    have hd : ∀ a ∈ p.ps, a.deep + 1 ≤ p.deep := deep_le.1 (Nat.le_refl _)
    have hl : ∀ a ∈ p.ps, Lv cs p.deep a.pr := fun a ha => lv_mono (hd a ha) (ih a ha)
    obtain ⟨c, hc, -, -, hr, hk⟩ := hf
    refine .inr ⟨c, hc, hr.symm, ?_⟩
    rcases hk with ⟨hk, hx, hps⟩ | ⟨hk, a, hps, ha⟩ | ⟨hk, a, b, hps, ha, hy, hb⟩ | ⟨hk, a, b, hps, ha, hb⟩
    · exact .inl ⟨hk, hx⟩
    · refine .inr (.inl ⟨hk, ?_⟩)
      rw [show p.pr.2 = p.x from rfl, ← ha]
      exact hl a (by rw [hps]; simp)
    · refine .inr (.inr (.inl ⟨hk, a.x, ?_, hy, ?_⟩))
      · rw [← ha]; exact hl a (by rw [hps]; simp)
      · rw [show p.pr.2 = p.x from rfl, ← hb]; exact hl b (by rw [hps]; simp)
    · refine .inr (.inr (.inr ⟨hk, ?_, ?_⟩))
      · rw [show p.pr.2 = p.x from rfl, ← ha]; exact hl a (by rw [hps]; simp)
      · rw [show p.pr.2 = p.x from rfl, ← hb]; exact hl b (by rw [hps]; simp)
theorem cor_rd {p : PT} (h : Cor cs p) : rd cs p.pr ≠ 0 ∧ rd cs p.pr ≤ p.deep + 1 := rd_lv.1 (cor_lv h)
theorem Can.deep {p : PT} (h : Can cs p) : p.deep + 1 = Sh.rd cs p.pr := by
  have h0 := cor_rd h.cor
  have h1 : p.deep + 1 ≤ Sh.rd cs p.pr := by
    clear h0
    induction h with
    | mk h1 h2 h3 h4 h5 ih =>
      rename_i p c ps
      have hr := fs_rd h1
      have : p.deep ≤ Sh.rd cs p.pr - 1 := deep_le.2 fun a ha => by
        have h6 := (fs_lt h1 a.pr (by rw [← h4]; exact List.mem_map_of_mem ha)).2.1
        have h7 := ih a ha
        omega
      omega
  omega
inductive Rch (cs : List Crd) (P : Pr → Prop) : Pr → Prop
  | base {p : Pr} : P p → Rch cs P p
  | step {p q : Pr} {c : Crd} {ps : List Pr} : Rch cs P p → fs cs p = some (c, ps) → q ∈ ps → Rch cs P q
end
end Go.Proofs.YtoajckhnneagnaaDoor.Sh
namespace Go.Proofs.YtoajckhnneagnaaDoor.Sh
open Go Go.RowKit

set_option linter.unusedVariables false
set_option linter.unusedSimpArgs false
structure Se where
  giv : Rl → List Crd
  ask : Rl → List Crd
  lnk : Rl → List Rl
  kn : List Pr
  rn : Pr → Nat
  fr : List Pr
  /-- how many stores -/
  ic : Nat
def Se.zero : Se := ⟨fun _ => [], fun _ => [], fun _ => [], [], fun _ => 0, [], 0⟩
def Se.lt (s : Se) (n : Nat) (q : Pr) : Prop := s.rn q ≠ 0 ∧ s.rn q < n
def Se.add (s : Se) (p : Pr) (n : Nat) : Se := if s.rn p ≠ 0 then s else { s with kn := s.kn ++ [p], rn := fun q => if q = p then n else s.rn q, fr := s.fr ++ [p] }
def Se.toAsk (s : Se) (r : Rl) (c : Crd) : Se := { s with ask := upd s.ask r c, ic := s.ic + 1 }
def Se.toGiv (s : Se) (r : Rl) (c : Crd) : Se := { s with giv := upd s.giv r c, ic := s.ic + 1 }
def Se.toLnk (s : Se) (r : Rl) (g : Rl) : Se := { s with lnk := upd s.lnk r g, ic := s.ic + 1 }
def Se.take (pe : List ByteArray) (s : Se) (c : Crd) : Se :=
  if c.kd = 1 then (if c.wh ∈ pe then (s.add (roleOf c, c.wh) 1).toGiv (roleOf c) c else s)
  else if c.kd = 2 then (s.toAsk (c.ao, c.an) c).toGiv (roleOf c) c
  else if c.kd = 3 then (s.toAsk (firstOf c) c).toGiv (roleOf c) c
  else if c.kd = 4 then ((s.toAsk (c.ao, c.an) c).toAsk (c.bo, c.bn) c).toGiv (roleOf c) c
  else s.toGiv (roleOf c) c
open Classical in
noncomputable def Se.openX (n : Nat) (r o : Rl) (s : Se) (x : ByteArray) : Se := if s.lt n (o, x) then s.add (r, x) n else s
open Classical in
noncomputable def Se.opn (pe : List ByteArray) (s : Se) (c : Crd) (y : ByteArray) (n : Nat) : Se :=
  if isD y then pe.foldl (Se.openX n (roleOf c) (y, c.bn)) (s.toLnk (y, c.bn) (roleOf c)) else s
open Classical in
noncomputable def Se.folO (pe : List ByteArray) (x : ByteArray) (n : Nat) (s : Se) (c : Crd) : Se :=
  if c.kd = 3 then s.opn pe c x n else if Der c (s.lt n) (roleOf c, x) then s.add (roleOf c, x) n else s
noncomputable def Se.folA (pe : List ByteArray) (s : Se) (p : Pr) (n : Nat) : Se := (s.ask p.1).foldl (Se.folO pe p.2 n) s
def Se.folL (s : Se) (p : Pr) (n : Nat) : Se := (s.lnk p.1).foldl (fun s r => s.add (r, p.2) n) s
noncomputable def Se.follow (pe : List ByteArray) (n : Nat) (s : Se) (p : Pr) : Se := (s.folA pe p n).folL p n
noncomputable def Se.round (pe : List ByteArray) (n : Nat) (s : Se) : Se := s.fr.foldl (Se.follow pe n) { s with fr := [] }

def Asks (c : Crd) (r : Rl) : Prop := (c.kd = 2 ∧ r = (c.ao, c.an)) ∨ (c.kd = 3 ∧ r = firstOf c) ∨ (c.kd = 4 ∧ (r = (c.ao, c.an) ∨ r = (c.bo, c.bn)))
def mat (pe : List ByteArray) (c : Crd) : Bool := !(decide (c.kd = 1) && !decide (c.wh ∈ pe))
structure Tk (pe : List ByteArray) (cs : List Crd) (s : Se) : Prop where
  kn : ∀ q, q ∈ s.kn ↔ s.rn q ≠ 0
  rn : ∀ q, s.rn q ≠ 0 ↔ ∃ c ∈ cs, c.kd = 1 ∧ c.wh ∈ pe ∧ q = (roleOf c, c.wh)
  one : ∀ q, s.rn q ≠ 0 → s.rn q = 1
  fr : s.fr = s.kn
  giv : ∀ r, s.giv r = cs.filter fun c => mat pe c && decide (roleOf c = r)
  ask : ∀ r c, c ∈ s.ask r ↔ c ∈ cs ∧ Asks c r
  lnk : ∀ r, s.lnk r = []
  nd : s.kn.Nodup
  ic : s.ic ≤ 3 * cs.length
  len : s.kn.length ≤ cs.length
section
variable {pe : List ByteArray} {cs : List Crd} {s : Se}
theorem Tk.zero : Tk pe [] Se.zero := ⟨fun q => by simp [Se.zero], fun q => by simp [Se.zero], fun q h => absurd rfl h, rfl, fun r => rfl, fun r c => by simp [Se.zero], fun r => rfl, List.nodup_nil, Nat.le_refl _, Nat.le_refl _⟩
theorem add_old {p : Pr} {n : Nat} (h : s.rn p ≠ 0) : s.add p n = s := if_pos h
theorem add_new' {p : Pr} {n : Nat} (h : s.rn p = 0) : s.add p n = { s with kn := s.kn ++ [p], rn := fun q => if q = p then n else s.rn q, fr := s.fr ++ [p] } := if_neg (fun e => e h)
theorem adds_lnk (p : Pr) (n : Nat) : (s.add p n).lnk = s.lnk := by unfold Se.add; split <;> rfl
theorem adds_ask (p : Pr) (n : Nat) : (s.add p n).ask = s.ask := by unfold Se.add; split <;> rfl
theorem adds_giv (p : Pr) (n : Nat) : (s.add p n).giv = s.giv := by unfold Se.add; split <;> rfl
theorem adds_ic (p : Pr) (n : Nat) : (s.add p n).ic = s.ic := by unfold Se.add; split <;> rfl
theorem upd_app {κ α : Type} [DecidableEq κ] (f : κ → List α) (k : κ) (x : α) (j : κ) : upd f k x j = f j ++ (if j = k then [x] else []) := by
  unfold upd; split <;> simp
theorem Tk.take {c : Crd} (h : Tk pe cs s) (hk : 1 ≤ c.kd ∧ c.kd ≤ 4) : Tk pe (cs ++ [c]) (s.take pe c) := by
  have hg : ∀ (t : Se), t.giv = s.giv → (c.kd = 1 → c.wh ∈ pe) → ∀ r, (t.toGiv (roleOf c) c).giv r = (cs ++ [c]).filter fun c => mat pe c && decide (roleOf c = r) := by
    intro t ht hw r
    have hm : mat pe c = true := by
      unfold mat
      by_cases h1 : c.kd = 1
      · simp [h1, hw h1]
      · simp [h1]
    show upd t.giv (roleOf c) c r = _
    rw [upd_app, ht, h.giv, List.filter_append]
    congr 1
    by_cases hr : r = roleOf c
    · subst hr; simp [hm]
    · rw [if_neg hr, List.filter_cons_of_neg (by simp [hm]; exact fun e => hr e.symm)]; rfl
  by_cases h1 : c.kd = 1
  · by_cases hw : c.wh ∈ pe
    · have e : s.take pe c = (s.add (roleOf c, c.wh) 1).toGiv (roleOf c) c := by unfold Se.take; rw [if_pos h1, if_pos hw]
      rw [e]
      have hnA : ∀ r, ¬ Asks c r := fun r ha => by unfold Asks at ha; omega
      have hask : ∀ r c', c' ∈ ((s.add (roleOf c, c.wh) 1).toGiv (roleOf c) c).ask r ↔ c' ∈ cs ++ [c] ∧ Asks c' r := fun r c' => by
        show c' ∈ (s.add (roleOf c, c.wh) 1).ask r ↔ _
        rw [adds_ask, h.ask, List.mem_append, List.mem_singleton]
        constructor
        · rintro ⟨a, b⟩; exact ⟨.inl a, b⟩
        · rintro ⟨a | a, b⟩
          · exact ⟨a, b⟩
          · subst a; exact absurd b (hnA r)
      have hrn : ∀ q, (∃ c' ∈ cs ++ [c], c'.kd = 1 ∧ c'.wh ∈ pe ∧ q = (roleOf c', c'.wh)) ↔ s.rn q ≠ 0 ∨ q = (roleOf c, c.wh) := fun q => by
        rw [h.rn]
        constructor
        · rintro ⟨c', hc, a, b, d⟩
          rcases List.mem_append.1 hc with h2 | h2
          · exact .inl ⟨c', h2, a, b, d⟩
          · rw [List.mem_singleton] at h2; subst h2; exact .inr d
        · rintro (⟨c', hc, a⟩ | a)
          · exact ⟨c', List.mem_append_left _ hc, a⟩
          · exact ⟨c, by simp, h1, hw, a⟩
      by_cases h0 : s.rn (roleOf c, c.wh) = 0
      · have e2 := add_new' (s := s) (n := 1) h0
        refine ⟨fun q => ?_, fun q => ?_, fun q hq => ?_, ?_, hg _ (adds_giv _ _) (fun _ => hw), hask, fun r => ?_, ?_, ?_, ?_⟩
        · show q ∈ (s.add _ 1).kn ↔ (s.add _ 1).rn q ≠ 0
          rw [e2]
          simp only [List.mem_append, List.mem_singleton]
          rw [h.kn]
          by_cases hq : q = (roleOf c, c.wh)
          · simp [hq]
          · simp [hq]
        · rw [hrn]
          show (s.add _ 1).rn q ≠ 0 ↔ _
          rw [e2]
          simp only
          by_cases hq : q = (roleOf c, c.wh)
          · simp [hq]
          · simp [hq]
        · change (s.add _ 1).rn q ≠ 0 at hq
          show (s.add _ 1).rn q = 1
          rw [e2] at hq ⊢
          simp only at hq ⊢
          split
          · rfl
          · rename_i h3
            rw [if_neg h3] at hq
            exact h.one q hq
        · show (s.add _ 1).fr = (s.add _ 1).kn
          rw [e2]
          simp only [h.fr]
        · show (s.add _ 1).lnk r = []
          rw [adds_lnk]; exact h.lnk r
        · show (s.add _ 1).kn.Nodup
          rw [e2]
          refine List.nodup_append.2 ⟨h.nd, by simp, fun a ha b hb e => ?_⟩
          rw [List.mem_singleton] at hb
          subst hb; subst e
          exact ((h.kn _).1 ha) h0
        · show (s.add _ 1).ic + 1 ≤ _
          rw [adds_ic, List.length_append, List.length_singleton]
          have := h.ic; omega
        · show (s.add _ 1).kn.length ≤ _
          rw [e2, List.length_append, List.length_append, List.length_singleton, List.length_singleton]
          have := h.len; omega
      · have e2 := add_old (s := s) (n := 1) h0
        rw [e2] at hask ⊢
        refine ⟨h.kn, fun q => ?_, h.one, h.fr, hg _ rfl (fun _ => hw), hask, h.lnk, h.nd, ?_, ?_⟩
        · rw [hrn]
          show s.rn q ≠ 0 ↔ _
          constructor
          · exact .inl
          · rintro (h3 | h3)
            · exact h3
            · rw [h3]; exact h0
        · show s.ic + 1 ≤ _
          rw [List.length_append, List.length_singleton]
          have := h.ic; omega
        · show s.kn.length ≤ _
          rw [List.length_append, List.length_singleton]
          have := h.len; omega
    · have e : s.take pe c = s := by unfold Se.take; rw [if_pos h1, if_neg hw]
      rw [e]
      have hm : mat pe c = false := by unfold mat; simp [h1, hw]
      have hnA : ∀ r, ¬ Asks c r := fun r ha => by unfold Asks at ha; omega
      refine ⟨h.kn, fun q => ?_, h.one, h.fr, fun r => ?_, fun r c' => ?_, h.lnk, h.nd, ?_, ?_⟩
      · rw [h.rn]
        constructor
        · rintro ⟨c', hc, a⟩; exact ⟨c', List.mem_append_left _ hc, a⟩
        · rintro ⟨c', hc, a, b, d⟩
          rcases List.mem_append.1 hc with h2 | h2
          · exact ⟨c', h2, a, b, d⟩
          · rw [List.mem_singleton] at h2; subst h2; exact absurd b hw
      · rw [h.giv, List.filter_append, List.filter_cons_of_neg (by simp [hm])]; simp
      · rw [h.ask, List.mem_append, List.mem_singleton]
        constructor
        · rintro ⟨a, b⟩; exact ⟨.inl a, b⟩
        · rintro ⟨a | a, b⟩
          · exact ⟨a, b⟩
          · subst a; exact absurd b (hnA r)
      · rw [List.length_append, List.length_singleton]; have := h.ic; omega
      · rw [List.length_append, List.length_singleton]; have := h.len; omega
  · have hrn : ∀ q, s.rn q ≠ 0 ↔ ∃ c' ∈ cs ++ [c], c'.kd = 1 ∧ c'.wh ∈ pe ∧ q = (roleOf c', c'.wh) := fun q => by
      rw [h.rn]
      constructor
      · rintro ⟨c', hc, a⟩; exact ⟨c', List.mem_append_left _ hc, a⟩
      · rintro ⟨c', hc, a, b, d⟩
        rcases List.mem_append.1 hc with h2 | h2
        · exact ⟨c', h2, a, b, d⟩
        · rw [List.mem_singleton] at h2; subst h2; exact absurd a h1
    have fin : ∀ t : Se, t.giv = s.giv → t.kn = s.kn → t.rn = s.rn → t.fr = s.fr → t.lnk = s.lnk → t.ic ≤ s.ic + 2 → (∀ r c', c' ∈ t.ask r ↔ c' ∈ s.ask r ∨ (c' = c ∧ Asks c r)) → Tk pe (cs ++ [c]) (t.toGiv (roleOf c) c) := by
      intro t t1 t2 t3 t4 t5 t6 t7
      refine ⟨fun q => ?_, fun q => ?_, fun q hq => ?_, ?_, hg t t1 (fun e => absurd e h1), fun r c' => ?_, fun r => ?_, ?_, ?_, ?_⟩
      · show q ∈ t.kn ↔ t.rn q ≠ 0
        rw [t2, t3]; exact h.kn q
      · show t.rn q ≠ 0 ↔ _
        rw [t3]; exact hrn q
      · change t.rn q ≠ 0 at hq
        show t.rn q = 1
        rw [t3] at hq ⊢; exact h.one q hq
      · show t.fr = t.kn
        rw [t2, t4]; exact h.fr
      · show c' ∈ t.ask r ↔ _
        rw [t7, h.ask, List.mem_append, List.mem_singleton]
        constructor
        · rintro (⟨a, b⟩ | ⟨a, b⟩)
          · exact ⟨.inl a, b⟩
          · exact ⟨.inr a, by rw [a]; exact b⟩
        · rintro ⟨a | a, b⟩
          · exact .inl ⟨a, b⟩
          · exact .inr ⟨a, by rw [← a]; exact b⟩
      · show t.lnk r = []
        rw [t5]; exact h.lnk r
      · show t.kn.Nodup
        rw [t2]; exact h.nd
      · show t.ic + 1 ≤ _
        rw [List.length_append, List.length_singleton]
        have := h.ic; omega
      · show t.kn.length ≤ _
        rw [t2, List.length_append, List.length_singleton]
        have := h.len; omega
    have hk4 : c.kd = 2 ∨ c.kd = 3 ∨ c.kd = 4 := by omega
    rcases hk4 with h2 | h2 | h2
    · have e : s.take pe c = (s.toAsk (c.ao, c.an) c).toGiv (roleOf c) c := by unfold Se.take; rw [if_neg h1, if_pos h2]
      rw [e]
      refine fin _ rfl rfl rfl rfl rfl (Nat.le_succ _) fun r c' => ?_
      show c' ∈ upd s.ask (c.ao, c.an) c r ↔ _
      rw [upd_mem]
      unfold Asks
      constructor
      · rintro (a | ⟨a, b⟩)
        · exact .inl a
        · exact .inr ⟨b, .inl ⟨h2, a⟩⟩
      · rintro (a | ⟨a, b | b | b⟩)
        · exact .inl a
        · exact .inr ⟨b.2, a⟩
        · omega
        · omega
    · have e : s.take pe c = (s.toAsk (firstOf c) c).toGiv (roleOf c) c := by unfold Se.take; rw [if_neg h1, if_neg (by omega), if_pos h2]
      rw [e]
      refine fin _ rfl rfl rfl rfl rfl (Nat.le_succ _) fun r c' => ?_
      show c' ∈ upd s.ask (firstOf c) c r ↔ _
      rw [upd_mem]
      unfold Asks
      constructor
      · rintro (a | ⟨a, b⟩)
        · exact .inl a
        · exact .inr ⟨b, .inr (.inl ⟨h2, a⟩)⟩
      · rintro (a | ⟨a, b | b | b⟩)
        · exact .inl a
        · omega
        · exact .inr ⟨b.2, a⟩
        · omega
    · have e : s.take pe c = ((s.toAsk (c.ao, c.an) c).toAsk (c.bo, c.bn) c).toGiv (roleOf c) c := by unfold Se.take; rw [if_neg h1, if_neg (by omega), if_neg (by omega), if_pos h2]
      rw [e]
      refine fin _ rfl rfl rfl rfl rfl (Nat.le_refl _) fun r c' => ?_
      show c' ∈ upd (upd s.ask (c.ao, c.an) c) (c.bo, c.bn) c r ↔ _
      rw [upd_mem, upd_mem]
      unfold Asks
      constructor
      · rintro ((a | ⟨a, b⟩) | ⟨a, b⟩)
        · exact .inl a
        · exact .inr ⟨b, .inr (.inr ⟨h2, .inl a⟩)⟩
        · exact .inr ⟨b, .inr (.inr ⟨h2, .inr a⟩)⟩
      · rintro (a | ⟨a, b | b | ⟨b, d | d⟩⟩)
        · exact .inl (.inl a)
        · omega
        · omega
        · exact .inl (.inr ⟨d, a⟩)
        · exact .inr ⟨d, a⟩
end
end Go.Proofs.YtoajckhnneagnaaDoor.Sh
