/-
  The order of pairs: pure, and the program's by contract. What is sorted is one.
-/
import Derived.Test.YtfbapbpggicfbaaGreatDoorJz42
import Derived.Shelf.SlSortCmp.InsertionK
import Derived.Test.YtfbapbpggicfbaaGreatDoorJz6
import Derived.Test.YtfbapbpggicfbaaGreatDoorJz33
import Derived.Test.YtfbapbpggicfbaaGreatDoorJz15
import Derived.Test.YtfbapbpggicfbaaGreatDoorJz7
set_option linter.unusedVariables false
set_option linter.unusedSimpArgs false
namespace Go.Proofs.YtfbapbpggicfbaaGreatDoor.Sh
open Go Go.RowKit Go.Sort

set_option linter.unusedSimpArgs false
theorem bl_irrefl (x : List UInt8) : Op.bytesLess x x = false := by
  induction x with
  | nil => rfl
  | cons a t ih => simp [Op.bytesLess, ih]
theorem bl_asymm : ∀ (x y : List UInt8), Op.bytesLess x y = true → Op.bytesLess y x = false
  | _, [], h => by simp [Op.bytesLess] at h
  | [], _ :: _, _ => rfl
  | a :: x, b :: y, h => by
    simp only [Op.bytesLess, Bool.or_eq_true, Bool.and_eq_true, decide_eq_true_eq, beq_iff_eq] at h
    simp only [Op.bytesLess, Bool.or_eq_false_iff, Bool.and_eq_false_iff, decide_eq_false_iff_not, beq_eq_false_iff_ne]
    rcases h with h | ⟨rfl, h⟩
    · exact ⟨UInt8.lt_asymm h, .inl (fun e => by rw [e] at h; exact UInt8.lt_irrefl _ h)⟩
    · exact ⟨UInt8.lt_irrefl _, .inr (bl_asymm x y h)⟩
theorem bl_tri : ∀ (x y : List UInt8), Op.bytesLess x y = false → Op.bytesLess y x = false → x = y
  | [], [], _, _ => rfl
  | [], _ :: _, h, _ => by simp [Op.bytesLess] at h
  | _ :: _, [], _, h => by simp [Op.bytesLess] at h
  | a :: x, b :: y, h, h2 => by
    simp only [Op.bytesLess, Bool.or_eq_false_iff, Bool.and_eq_false_iff, decide_eq_false_iff_not, beq_eq_false_iff_ne] at h h2
    have e : a = b := by
      rcases UInt8.lt_or_lt_of_ne (a := a) (b := b) |> fun f => (Classical.em (a = b)).imp id f with e | e | e
      · exact e
      · exact absurd e h.1
      · exact absurd e h2.1
    subst e
    have h3 : Op.bytesLess x y = false := h.2.resolve_left (fun k => k rfl)
    have h4 : Op.bytesLess y x = false := h2.2.resolve_left (fun k => k rfl)
    rw [bl_tri x y h3 h4]
theorem bl_trans : ∀ (x y z : List UInt8), Op.bytesLess x y = true → Op.bytesLess y z = true → Op.bytesLess x z = true
  | _, [], _, h, _ => by simp [Op.bytesLess] at h
  | _, _ :: _, [], _, h => by simp [Op.bytesLess] at h
  | [], _ :: _, _ :: _, _, _ => rfl
  | a :: x, b :: y, c :: z, h, h2 => by
    simp only [Op.bytesLess, Bool.or_eq_true, Bool.and_eq_true, decide_eq_true_eq, beq_iff_eq] at h h2 ⊢
    rcases h with h | ⟨rfl, h⟩
    · rcases h2 with h2 | ⟨rfl, _⟩
      · exact .inl (UInt8.lt_trans h h2)
      · exact .inl h
    · rcases h2 with h2 | ⟨rfl, h2⟩
      · exact .inl h2
      · exact .inr ⟨rfl, bl_trans x y z h h2⟩
def bl (a b : ByteArray) : Bool := Op.bytesLess a.data.toList b.data.toList
def lt3 (a b c a' b' c' : ByteArray) : Prop := bl a a' = true ∨ (a = a' ∧ (bl b b' = true ∨ (b = b' ∧ bl c c' = true)))
theorem lt3_irrefl (a b c : ByteArray) : ¬ lt3 a b c a b c := by
  unfold lt3 bl
  simp [bl_irrefl]
theorem lt3_trans {a b c a' b' c' a2 b2 c2 : ByteArray} (h : lt3 a b c a' b' c') (k : lt3 a' b' c' a2 b2 c2) : lt3 a b c a2 b2 c2 := by
  rcases h with h | ⟨rfl, h⟩
  · rcases k with k | ⟨rfl, k⟩
    · exact .inl (bl_trans _ _ _ h k)
    · exact .inl h
  · rcases k with k | ⟨rfl, k⟩
    · exact .inl k
    · refine .inr ⟨rfl, ?_⟩
      rcases h with h | ⟨rfl, h⟩
      · rcases k with k | ⟨rfl, k⟩
        · exact .inl (bl_trans _ _ _ h k)
        · exact .inl h
      · rcases k with k | ⟨rfl, k⟩
        · exact .inl k
        · exact .inr ⟨rfl, bl_trans _ _ _ h k⟩
theorem bl_three (a b : ByteArray) : bl a b = true ∨ a = b ∨ bl b a = true := by
  unfold bl
  cases h : Op.bytesLess a.data.toList b.data.toList with
  | true => exact .inl rfl
  | false =>
    cases h' : Op.bytesLess b.data.toList a.data.toList with
    | true => exact .inr (.inr rfl)
    | false => exact .inr (.inl (ba_eq (bl_tri _ _ h h')))
theorem lt3_three (a b c a' b' c' : ByteArray) : lt3 a b c a' b' c' ∨ (a = a' ∧ b = b' ∧ c = c') ∨ lt3 a' b' c' a b c := by
  unfold lt3
  rcases bl_three a a' with h | rfl | h
  · exact .inl (.inl h)
  · rcases bl_three b b' with h | rfl | h
    · exact .inl (.inr ⟨rfl, .inl h⟩)
    · rcases bl_three c c' with h | rfl | h
      · exact .inl (.inr ⟨rfl, .inr ⟨rfl, h⟩⟩)
      · exact .inr (.inl ⟨rfl, rfl, rfl⟩)
      · exact .inr (.inr (.inr ⟨rfl, .inr ⟨rfl, h⟩⟩))
    · exact .inr (.inr (.inr ⟨rfl, .inl h⟩))
  · exact .inr (.inr (.inl h))
/-- One pair stands before another. -/
def ltP (x y : Pr) : Prop := lt3 x.1.1 x.1.2 x.2 y.1.1 y.1.2 y.2
def cmpN (a b : ByteArray) : Int := if bl a b = true then -1 else if bl b a = true then 1 else 0
def cmpP (x y : Pr) : Int := if lessL x.1.1 x.1.2 y.1.1 y.1.2 = true then -1 else if lessL y.1.1 y.1.2 x.1.1 x.1.2 = true then 1 else cmpN x.2 y.2
theorem lessL_iff (o n o' n' : ByteArray) : lessL o n o' n' = true ↔ bl o o' = true ∨ (o = o' ∧ bl n n' = true) := by
  unfold lessL bl
  by_cases h : o = o'
  · subst h
    rw [if_pos rfl]
    simp [bl_irrefl]
  · rw [if_neg (fun e => h (ba_eq e))]
    simp [h]
theorem cmpP_lt (x y : Pr) : cmpP x y < 0 ↔ ltP x y := by
  obtain ⟨⟨o, n⟩, w⟩ := x
  obtain ⟨⟨o', n'⟩, w'⟩ := y
  unfold cmpP ltP lt3
  simp only
  by_cases h1 : lessL o n o' n' = true
  · rw [if_pos h1]
    rw [lessL_iff] at h1
    refine ⟨fun _ => ?_, fun _ => by omega⟩
    rcases h1 with h | ⟨h, k⟩
    · exact .inl h
    · exact .inr ⟨h, .inl k⟩
  · rw [if_neg h1]
    by_cases h2 : lessL o' n' o n = true
    · rw [if_pos h2]
      rw [lessL_iff] at h1 h2
      refine ⟨fun h => by omega, fun h => ?_⟩
      exfalso
      rcases h with h | ⟨rfl, h | ⟨rfl, h⟩⟩
      · exact h1 (.inl h)
      · exact h1 (.inr ⟨rfl, h⟩)
      · rcases h2 with h2 | ⟨_, h2⟩
        · unfold bl at h2; rw [bl_irrefl] at h2; cases h2
        · unfold bl at h2; rw [bl_irrefl] at h2; cases h2
    · rw [if_neg h2]
      rw [lessL_iff] at h1 h2
      have e1 : o = o' := by
        rcases bl_three o o' with h | h | h
        · exact absurd (.inl h) h1
        · exact h
        · exact absurd (.inl h) h2
      subst e1
      have e2 : n = n' := by
        rcases bl_three n n' with h | h | h
        · exact absurd (.inr ⟨rfl, h⟩) h1
        · exact h
        · exact absurd (.inr ⟨rfl, h⟩) h2
      subst e2
      unfold cmpN
      constructor
      · intro h
        refine .inr ⟨rfl, .inr ⟨rfl, ?_⟩⟩
        by_cases hb : bl w w' = true
        · exact hb
        · rw [if_neg hb] at h
          split at h <;> omega
      · intro h
        rcases h with h | ⟨_, h | ⟨_, h⟩⟩
        · unfold bl at h; rw [bl_irrefl] at h; cases h
        · unfold bl at h; rw [bl_irrefl] at h; cases h
        · rw [if_pos h]; omega
theorem ltOf_cmpP (x y : Pr) : ltOf cmpP x y = decide (cmpP x y < 0) := rfl
theorem swoP : SWO (ltOf cmpP) where
  irrefl x := by
    rw [ltOf_cmpP, decide_eq_false_iff_not, cmpP_lt]
    exact lt3_irrefl _ _ _
  trans x y z h k := by
    rw [ltOf_cmpP, decide_eq_true_eq, cmpP_lt] at *
    exact lt3_trans h k
  ntrans x y z h k := by
    rw [ltOf_cmpP, decide_eq_false_iff_not, cmpP_lt] at *
    intro hxz
    rcases lt3_three x.1.1 x.1.2 x.2 y.1.1 y.1.2 y.2 with h1 | ⟨h1, h2, h3⟩ | h1
    · exact h h1
    · refine k ?_
      unfold ltP at hxz ⊢
      rwa [← h1, ← h2, ← h3]
    · exact k (lt3_trans h1 hxz)
/-- Pairs in order, none twice. -/
def SortedP (l : List Pr) : Prop := l.Pairwise ltP
theorem sortedP_uniq : ∀ {a b : List Pr}, SortedP a → SortedP b → (∀ p, p ∈ a ↔ p ∈ b) → a = b
  | [], [], _, _, _ => rfl
  | [], y :: _, _, _, h => absurd ((h y).2 (by simp)) (by simp)
  | x :: _, [], _, _, h => absurd ((h x).1 (by simp)) (by simp)
  | x :: a, y :: b, ha, hb, h => by
    obtain ⟨ha1, ha2⟩ := List.pairwise_cons.1 ha
    obtain ⟨hb1, hb2⟩ := List.pairwise_cons.1 hb
    have hxy : x = y := by
      rcases List.mem_cons.1 ((h x).1 (by simp)) with e | e
      · exact e
      · rcases List.mem_cons.1 ((h y).2 (by simp)) with e' | e'
        · exact e'.symm
        · exact absurd (lt3_trans (ha1 y e') (hb1 x e)) (lt3_irrefl _ _ _)
    subst hxy
    rw [sortedP_uniq ha2 hb2 fun p => ?_]
    have nx : ∀ {l : List Pr}, (∀ q ∈ l, ltP x q) → x ∉ l := fun hl hm => lt3_irrefl _ _ _ (hl x hm)
    constructor
    · intro hp
      rcases List.mem_cons.1 ((h p).1 (by simp [hp])) with e | e
      · exact absurd (e ▸ hp) (nx ha1)
      · exact e
    · intro hp
      rcases List.mem_cons.1 ((h p).2 (by simp [hp])) with e | e
      · exact absurd (e ▸ hp) (nx hb1)
      · exact e
theorem SortedP.nodup {l : List Pr} (h : SortedP l) : l.Nodup := List.Pairwise.imp (fun {a b} (hab : ltP a b) (e : a = b) => by subst e; exact lt3_irrefl _ _ _ hab) h

/-! ### the program's order -/
end Go.Proofs.YtfbapbpggicfbaaGreatDoor.Sh
/-
  The document's own rules: what one credential brings about by some pairs; how far that goes. Nothing of the program's own text.
-/
namespace Go.Proofs.YtfbapbpggicfbaaGreatDoor.Sh
open Go Go.RowKit

set_option linter.unusedVariables false
set_option linter.unusedSimpArgs false
/-- What a credential brings about by some pairs. -/
def Brg (c : Crd) (l : List Pr) (p : Pr) : Prop :=
  p.1 = roleOf c ∧ ((c.kd = 1 ∧ p.2 = c.wh) ∨ (c.kd = 2 ∧ ((c.ao, c.an), p.2) ∈ l) ∨ (c.kd = 3 ∧ ∃ y, (firstOf c, y) ∈ l ∧ isD y ∧ ((y, c.bn), p.2) ∈ l) ∨ (c.kd = 4 ∧ ((c.ao, c.an), p.2) ∈ l ∧ ((c.bo, c.bn), p.2) ∈ l))
/-- A round: the pairs that were there, and what all bring about by them, each once. -/
def Rnd (cs : List Crd) (l out : List Pr) : Prop := ∃ new, out = l ++ new ∧ new.Nodup ∧ (∀ p ∈ new, p ∉ l) ∧ ∀ p, p ∈ out ↔ p ∈ l ∨ ∃ c ∈ cs, Brg c l p
/-- No rule brings more. -/
def Clos (cs : List Crd) (l : List Pr) : Prop := ∀ p, (∃ c ∈ cs, Brg c l p) → p ∈ l
theorem Rnd.len {cs : List Crd} {l out : List Pr} (h : Rnd cs l out) : l.length ≤ out.length := by
  obtain ⟨new, rfl, -⟩ := h
  rw [List.length_append]; omega
theorem Rnd.same {cs : List Crd} {l out : List Pr} (h : Rnd cs l out) (he : out.length = l.length) : out = l ∧ Clos cs l := by
  obtain ⟨new, rfl, -, -, hm⟩ := h
  rw [List.length_append] at he
  have : new = [] := List.eq_nil_of_length_eq_zero (by omega)
  subst this
  rw [List.append_nil] at hm ⊢
  exact ⟨rfl, fun p hp => (hm p).2 (.inr hp)⟩
theorem Rnd.clos {cs : List Crd} {l out : List Pr} (h : Rnd cs l out) (hc : Clos cs l) : out.length = l.length := by
  obtain ⟨new, rfl, hn, hd, hm⟩ := h
  cases new with
  | nil => rw [List.append_nil]
  | cons x t =>
    rcases (hm x).1 (by simp) with h1 | h1
    · exact absurd h1 (hd x (by simp))
    · exact absurd (hc x h1) (hd x (by simp))
/-- What is closed has all that is said. -/
theorem clos_imp {cs : List Crd} {l : List Pr} (h : Clos cs l) {p : Pr} (hp : Imp (· ∈ cs) p) : p ∈ l := by
  induction hp with
  | mem hs hk => exact h _ ⟨_, hs, rfl, .inl ⟨hk, rfl⟩⟩
  | inc hs hk _ ih => exact h _ ⟨_, hs, rfl, .inr (.inl ⟨hk, ih⟩)⟩
  | lnk hs hk _ hd _ ih1 ih2 => exact h _ ⟨_, hs, rfl, .inr (.inr (.inl ⟨hk, _, ih1, hd, ih2⟩))⟩
  | bth hs hk _ _ ih1 ih2 => exact h _ ⟨_, hs, rfl, .inr (.inr (.inr ⟨hk, ih1, ih2⟩))⟩
/-- What is brought about by what is said is said. -/
theorem brg_imp {cs : List Crd} {l : List Pr} (h : ∀ p ∈ l, Imp (· ∈ cs) p) {c : Crd} (hc : c ∈ cs) {p : Pr} (hb : Brg c l p) : Imp (· ∈ cs) p := by
  obtain ⟨r, x⟩ := p
  obtain ⟨h1, h2⟩ := hb
  simp only at h1 h2
  subst h1
  rcases h2 with ⟨hk, rfl⟩ | ⟨hk, h3⟩ | ⟨hk, y, h3, hd, h4⟩ | ⟨hk, h3, h4⟩
  · exact Imp.mem (S := (· ∈ cs)) hc hk
  · exact Imp.inc (S := (· ∈ cs)) hc hk (h _ h3)
  · exact Imp.lnk (S := (· ∈ cs)) hc hk (h _ h3) hd (h _ h4)
  · exact Imp.bth (S := (· ∈ cs)) hc hk (h _ h3) (h _ h4)
/-- What is said is closed. -/
theorem imp_clos {cs : List Crd} {l : List Pr} (h : ∀ p, p ∈ l ↔ Imp (· ∈ cs) p) : Clos cs l := fun p ⟨c, hc, hb⟩ => (h p).2 (brg_imp (fun q hq => (h q).1 hq) hc hb)
theorem Rnd.imp {cs : List Crd} {l out : List Pr} (h : Rnd cs l out) (hi : ∀ p ∈ l, Imp (· ∈ cs) p) : ∀ p ∈ out, Imp (· ∈ cs) p := fun p hp => by
  obtain ⟨new, rfl, -, -, hm⟩ := h
  rcases (hm p).1 hp with h1 | ⟨c, hc, h1⟩
  · exact hi p h1
  · exact brg_imp hi hc h1
theorem Rnd.nodup {cs : List Crd} {l out : List Pr} (h : Rnd cs l out) (hn : l.Nodup) : out.Nodup := by
  obtain ⟨new, rfl, h1, h2, -⟩ := h
  exact List.nodup_append.2 ⟨hn, h1, fun a ha b hb e => by subst e; exact h2 a hb ha⟩
/-- Whoever is brought about was there, or is a Member's. -/
def whos (cs : List Crd) (l : List Pr) : List ByteArray := cs.map (·.wh) ++ l.map (·.2)
def uniW (cs : List Crd) (ws : List ByteArray) : List Pr := (cs.map roleOf).flatMap fun r => ws.map fun x => (r, x)
theorem uniW_length (cs : List Crd) (ws : List ByteArray) : (uniW cs ws).length = cs.length * ws.length := by
  have : ∀ (a : List Rl), (a.flatMap fun r => ws.map fun x => (r, x)).length = a.length * ws.length := by
    intro a
    induction a with
    | nil => simp
    | cons r t ih => rw [List.flatMap_cons, List.length_append, ih, List.length_map, List.length_cons, Nat.succ_mul, Nat.add_comm]
  unfold uniW
  rw [this, List.length_map]
theorem brg_uni {cs : List Crd} {l : List Pr} {ws : List ByteArray} (hw : ∀ c ∈ cs, c.wh ∈ ws) (hl : ∀ p ∈ l, p.2 ∈ ws) {c : Crd} (hc : c ∈ cs) {p : Pr} (hb : Brg c l p) : p ∈ uniW cs ws ∧ p.2 ∈ ws := by
  obtain ⟨h1, h2⟩ := hb
  have hx : p.2 ∈ ws := by
    rcases h2 with ⟨_, h3⟩ | ⟨_, h3⟩ | ⟨_, y, _, _, h3⟩ | ⟨_, h3, _⟩
    · rw [h3]; exact hw c hc
    · exact hl ((c.ao, c.an), p.2) h3
    · exact hl ((y, c.bn), p.2) h3
    · exact hl ((c.ao, c.an), p.2) h3
  exact ⟨List.mem_flatMap.2 ⟨roleOf c, List.mem_map.2 ⟨c, hc, rfl⟩, List.mem_map.2 ⟨p.2, hx, by rw [← h1]⟩⟩, hx⟩
end Go.Proofs.YtfbapbpggicfbaaGreatDoor.Sh
/-
  The statements' own told and same, by contract.
-/
namespace Go.Proofs.YtfbapbpggicfbaaGreatDoor.Sh
open Go Go.RowKit

set_option linter.unusedSimpArgs false
set_option linter.unusedVariables false
theorem slQ : SlN Tryz.prog 57 59 3 48 := by
  obtain ⟨i0, hi0, hz0, hz1, hz2⟩ := info_parts (P := Tryz.prog) (e := 59) (z := .agg #[.string E0, .string E0, .string E0]) (size := 3) (bytes := 48) (by kernel_rfl)
  exact ⟨Tryz.underlying57, ⟨i0, _, hi0, hz0, hz1, hz2, rfl⟩, by omega⟩
end Go.Proofs.YtfbapbpggicfbaaGreatDoor.Sh
/-
  The document's own In, by contract.
-/
namespace Go.Proofs.YtfbapbpggicfbaaGreatDoor.Sh
open Go Go.RowKit

set_option linter.unusedSimpArgs false
set_option linter.unusedVariables false
set_option maxHeartbeats 4000000 in
theorem in_any (A : Option Addr) (l : List Pr) (n c : Nat) (hn : l.length = n) (hm : n ≤ 1000000000) (o nm who : ByteArray) (w : World) (h : Els encP w w.heap.size A l) :
    Calls Tryz.prog 21 #[.slice A n c, .agg #[.string o, .string nm, .string who]] w fun e w' => e = .returned (.bool (decide (((o, nm), who) ∈ l))) ∧ Below w.heap.size w w' := by
  have HN := hid hn
  have HY := hid h
  obtain ⟨w1, hw1⟩ : ∃ w1, w1 = w.alloc (.cells #[.string o, .string nm, .string who] 59) := ⟨_, rfl⟩
  obtain ⟨bd, hbd⟩ : ∃ bd, bd = (⟨w.heap.size, 0, none⟩ : Addr) := ⟨_, rfl⟩
  have q1 : Below w.heap.size w w1 := by rw [hw1]; exact (Below.refl _ _).alloc (Nat.le_refl _) _
  have hz1 : w1.heap.size = w.heap.size + 1 := by rw [hw1]; simp
  have r1 : ∀ W, Below w1.heap.size w1 W → W.cell? bd = some (.string o) ∧ W.cell? ⟨bd.block, bd.off + 1, none⟩ = some (.string nm) ∧ W.cell? ⟨bd.block, bd.off + 2, none⟩ = some (.string who) := fun W hW => by
    obtain ⟨ad, e, hc⟩ := reads_new w #[.string o, .string nm, .string who] 59 (0, 0) (by simp)
    injection e with e
    subst e
    rw [← hw1] at hc
    subst hbd
    have hb : ∀ k, (⟨w.heap.size, k, none⟩ : Addr).block < w1.heap.size := fun k => by rw [hz1]; exact Nat.lt_succ_self _
    exact ⟨(hW.cell (hb 0)).trans (hc 0 _ rfl), (hW.cell (hb 1)).trans (hc 1 _ rfl), (hW.cell (hb 2)).trans (hc 2 _ rfl)⟩
  have HR := hid r1
  have HQ := hid q1
  clear hn h q1 hz1 r1
  go_enter Tryz.func21, Tryz.ntmps21
  go_wp2_with fail
  rw [← hw1, ← hbd]
  clear hw1 hbd
  go_loopw [5] (fun i wr => ∃ j : Nat, j ≤ n ∧ i = .int .i64 j ∧ Hid (((o, nm), who) ∉ l.take j) ∧ Hid (∃ q, wr = w1.drewN q)) (fun i _ => n - (intOf i).toNat)
  case atStart => exact ⟨0, Nat.zero_le _, rfl, hid (by simp), hid ⟨0, rfl⟩⟩
  case round =>
    obtain ⟨j, hj, rfl, HNI, hw⟩ := hrel
    have hwr : Below w1.heap.size w1 wr := by obtain ⟨q, rfl⟩ := hw.out; exact below_drewN (Below.refl _ _) q
    by_cases hlt : j < n
    · obtain ⟨⟨⟨o2, nm2⟩, who2⟩, hx⟩ : ∃ x, l[j]? = some x := ⟨_, List.getElem?_eq_getElem (by rw [HN.out]; exact hlt)⟩
      obtain ⟨ad, aj, rfl, -, ea, -, a0, ai⟩ := ((HY.out.below HQ.out).below (hwr.mono HQ.out.size)).get hx
      have a0 := a0 _ rfl
      have a1 := ai 1 _ (by omega) rfl
      have a2 := ai 2 _ (by omega) rfl
      have ea : ad.add (j * 3) = aj := ea
      obtain ⟨b0, b1, b2⟩ := HR.out wr hwr
      have hk0 : (0 : Int) ≤ (j : Int) := Int.natCast_nonneg _
      have hk1 : (j : Int) < (n : Int) := by omega
      have HX := hid hx
      have HT : Hid (((o, nm), who) ≠ ((o2, nm2), who2) → ((o, nm), who) ∉ l.take (j + 1)) := hid (fun hne => by
        rw [take_snoc_of HX.out, List.mem_append, List.mem_singleton]
        rintro (h1 | h1)
        · exact HNI.out h1
        · exact hne h1)
      have HM : Hid (((o2, nm2), who2) ∈ l) := hid (List.mem_of_getElem? HX.out)
      clear hx hwr ai
      by_cases ho : o2 = o
      · subst ho
        by_cases hnm : nm2 = nm
        · subst hnm
          by_cases hwh : who2 = who
          · subst hwh
            go_wp2_with fail
            go_quiet (fail)
            go_wp2
            go_ret
            exact ⟨by rw [decide_eq_true HM.out]; rfl, by
              obtain ⟨q, rfl⟩ := hw.out
              exact below_drewN (below_drewN HQ.out q) _⟩
          · have HT2 := hid (HT.out (by intro e; simp only [Prod.mk.injEq] at e; exact hwh (by rw [e.2])))
            obtain ⟨x1, x2⟩ := inne hwh
            clear hwh
            go_wp2_with fail
            go_quiet (fail)
            go_wp2
            go_roundw
            case rel => exact ⟨j + 1, by omega, by go_num, HT2, by
              obtain ⟨q, rfl⟩ := hw.out
              exact hid ⟨q + nq, World.drewN_drewN _ _ _⟩⟩
            case measure => simp [intOf]; omega
        · have HT2 := hid (HT.out (by intro e; simp only [Prod.mk.injEq] at e; exact hnm (by rw [e.1.2])))
          obtain ⟨x1, x2⟩ := inne hnm
          clear hnm
          go_wp2_with fail
          go_quiet (fail)
          go_wp2
          go_roundw
          case rel => exact ⟨j + 1, by omega, by go_num, HT2, by
            obtain ⟨q, rfl⟩ := hw.out
            exact hid ⟨q + nq, World.drewN_drewN _ _ _⟩⟩
          case measure => simp [intOf]; omega
      · have HT2 := hid (HT.out (by intro e; simp only [Prod.mk.injEq] at e; exact ho (by rw [e.1.1])))
        obtain ⟨x1, x2⟩ := inne ho
        clear ho
        go_wp2_with fail
        go_quiet (fail)
        go_wp2
        go_roundw
        case rel => exact ⟨j + 1, by omega, by go_num, HT2, by
          obtain ⟨q, rfl⟩ := hw.out
          exact hid ⟨q + nq, World.drewN_drewN _ _ _⟩⟩
        case measure => simp [intOf]; omega
    · obtain rfl : j = n := by omega
      go_wp2
      go_ret
      exact ⟨by rw [decide_eq_false (by have := HNI.out; rwa [List.take_of_length_le (by rw [HN.out]; exact Nat.le_refl _)] at this)]; rfl, by
        obtain ⟨q, rfl⟩ := hw.out
        exact below_drewN HQ.out q⟩
end Go.Proofs.YtfbapbpggicfbaaGreatDoor.Sh
/-
  The document's own less and First, by contract.
-/
namespace Go.Proofs.YtfbapbpggicfbaaGreatDoor.Sh
open Go Go.RowKit

set_option linter.unusedVariables false
set_option linter.unusedSimpArgs false
def lessP (a b : Pr) : Bool := if a.1 = b.1 then Go.Op.bytesLess a.2.data.toList b.2.data.toList else lessL a.1.1 a.1.2 b.1.1 b.1.2
set_option maxHeartbeats 4000000 in
theorem lessR_any (o n x o2 n2 y : ByteArray) (w : World) :
    Calls Tryz.prog 45 #[.agg #[.string o, .string n, .string x], .agg #[.string o2, .string n2, .string y]] w fun e w' => e = .returned (.bool (lessP ((o, n), x) ((o2, n2), y))) ∧ Below w.heap.size w w' := by
  have HL := hid (fun W => refLess_any o n o2 n2 W)
  have HB := hid (((Below.refl w.heap.size w).alloc (Nat.le_refl _) (.cells #[.string o, .string n, .string x] 59)).alloc (by rw [World.size_alloc]; exact Nat.le_succ _) (.cells #[.string o2, .string n2, .string y] 59))
  by_cases ho : o = o2
  · subst ho
    by_cases hn : n = n2
    · subst hn
      have HE : Hid (lessP ((o, n), x) ((o, n), y) = Go.Op.bytesLess x.toList y.toList) := hid (by unfold lessP; rw [if_pos rfl, Lib.toList_data, Lib.toList_data])
      go_enter Tryz.func45, Tryz.ntmps45
      go_wp2_with fail
      go_ret
      exact ⟨by rw [HE.out]; rfl, HB.out⟩
    · obtain ⟨x1, x2⟩ := inne hn
      have HE : Hid (lessP ((o, n), x) ((o, n2), y) = lessL o n o n2) := hid (by unfold lessP; rw [if_neg (fun e => hn (Prod.mk.inj e).2)])
      clear hn
      go_enter Tryz.func45, Tryz.ntmps45
      go_wp2_with fail
      refine (HL.out _).mono ?_
      rintro er w2 ⟨rfl, b2⟩
      go_wp2
      go_ret
      exact ⟨by rw [HE.out]; rfl, HB.out.trans (b2.mono HB.out.size)⟩
  · obtain ⟨x1, x2⟩ := inne ho
    have HE : Hid (lessP ((o, n), x) ((o2, n2), y) = lessL o n o2 n2) := hid (by unfold lessP; rw [if_neg (fun e => ho (Prod.mk.inj e).1)])
    clear ho
    go_enter Tryz.func45, Tryz.ntmps45
    go_wp2_with fail
    refine (HL.out _).mono ?_
    rintro er w2 ⟨rfl, b2⟩
    go_wp2
    go_ret
    exact ⟨by rw [HE.out]; rfl, HB.out.trans (b2.mono HB.out.size)⟩
end Go.Proofs.YtfbapbpggicfbaaGreatDoor.Sh
/-
  The document's own First, by contract.
-/
namespace Go.Proofs.YtfbapbpggicfbaaGreatDoor.Sh
open Go Go.RowKit

set_option linter.unusedVariables false
set_option linter.unusedSimpArgs false
end Go.Proofs.YtfbapbpggicfbaaGreatDoor.Sh
