/-
  Credentials: what the document asks, in plain functions; the round trip, and the texts. Nothing of the program's own text.
-/
import Derived.Test.YtfbapbpggicfbaaGreatDoorJz2
import Derived.Test.YtfbapbpggicfbaaGreatDoorJz3
set_option linter.unusedVariables false
set_option linter.unusedSimpArgs false
namespace Go.Proofs.YtfbapbpggicfbaaGreatDoor.Sh
open Go Go.RowKit

def E0 : ByteArray := ⟨#[]⟩
structure Crd where
  d : Int
  q : Int
  nm : ByteArray
  kd : Int
  wh : ByteArray
  ao : ByteArray
  an : ByteArray
  bo : ByteArray
  bn : ByteArray
/-- The nine cells of a credential. -/
def Crd.cells (c : Crd) : List Value := [.int .i64 c.d, .int .i64 c.q, .string c.nm, .int .i64 c.kd, .string c.wh, .string c.ao, .string c.an, .string c.bo, .string c.bn]
def Crd.zero : Crd := ⟨0, 0, E0, 0, E0, E0, E0, E0, E0⟩
def mayB (s : ByteArray) : Bool := mayL s.data.toList
def roleB (o n : ByteArray) : Bool := roleL o.data.toList n.data.toList
theorem e0_list : E0.data.toList = [] := rfl
theorem ba_eq {a b : ByteArray} (h : a.data.toList = b.data.toList) : a = b := by
  rw [← Lib.mk_data a, ← Lib.mk_data b, h]
theorem mk_toList (l : List UInt8) : (⟨l.toArray⟩ : ByteArray).data.toList = l := rfl
theorem mayB_e0 : mayB E0 = false := rfl
theorem roleB_e0 (n : ByteArray) : roleB E0 n = false := by unfold roleB roleL; simp [e0_list, numL]
/-- What its kind asks. -/
def kindOk (c : Crd) : Bool :=
  if c.kd = 1 then mayB c.wh && decide (c.ao = E0 ∧ c.an = E0) && decide (c.bo = E0 ∧ c.bn = E0)
  else decide (c.wh = E0) && (if c.kd = 2 then roleB c.ao c.an && decide (c.bo = E0 ∧ c.bn = E0)
    else if c.kd = 3 then (mayB c.an && decide (c.ao = E0)) && (mayB c.bn && decide (c.bo = E0))
    else if c.kd = 4 then roleB c.ao c.an && roleB c.bo c.bn else false)
def headOk (c : Crd) : Bool := decide (1 ≤ c.d ∧ c.d ≤ 16 ∧ 1 ≤ c.q ∧ c.q ≤ 4000) && mayB c.nm
def mayC (c : Crd) : Bool := headOk c && kindOk c
/-- Its text. -/
def domB (d : Int) : ByteArray := ⟨(domL d).toArray⟩
/-! ### a step of reading -/
section
variable (d q : Int) (nm : ByteArray) (l : List UInt8) (p : Nat) (e : Int)
end

/-! ### forward -/
theorem mayL_size {s : ByteArray} (h : mayL s.data.toList = true) : s.size ≤ 8 := by
  rw [← size_list]
  cases hl : s.data.toList with
  | nil => simp
  | cons x t =>
    rw [hl, mayL_cons] at h
    simp only [Bool.and_eq_true, decide_eq_true_eq] at h
    simp; omega
theorem may_head {c : Crd} (h : mayC c = true) : 1 ≤ c.d ∧ c.d ≤ 16 ∧ 1 ≤ c.q ∧ c.q ≤ 4000 ∧ mayL c.nm.data.toList = true := by
  unfold mayC headOk mayB at h
  simp only [Bool.and_eq_true, decide_eq_true_eq] at h
  exact ⟨h.1.1.1, h.1.1.2.1, h.1.1.2.2.1, h.1.1.2.2.2, h.1.2⟩
theorem may_kind {c : Crd} (h : mayC c = true) : (c.kd = 1 ∧ mayL c.wh.data.toList = true ∧ c.ao = E0 ∧ c.an = E0 ∧ c.bo = E0 ∧ c.bn = E0) ∨
    (c.kd = 2 ∧ c.wh = E0 ∧ roleL c.ao.data.toList c.an.data.toList = true ∧ c.bo = E0 ∧ c.bn = E0) ∨
    (c.kd = 3 ∧ c.wh = E0 ∧ c.ao = E0 ∧ mayL c.an.data.toList = true ∧ c.bo = E0 ∧ mayL c.bn.data.toList = true) ∨
    (c.kd = 4 ∧ c.wh = E0 ∧ roleL c.ao.data.toList c.an.data.toList = true ∧ roleL c.bo.data.toList c.bn.data.toList = true) := by
  unfold mayC at h
  rw [Bool.and_eq_true] at h
  have h := h.2
  unfold kindOk mayB roleB at h
  split at h
  · simp only [Bool.and_eq_true, decide_eq_true_eq] at h
    rename_i hk
    exact .inl ⟨hk, h.1.1, h.1.2.1, h.1.2.2, h.2.1, h.2.2⟩
  · rw [Bool.and_eq_true, decide_eq_true_eq] at h
    obtain ⟨hw, h⟩ := h
    split at h
    · simp only [Bool.and_eq_true, decide_eq_true_eq] at h
      rename_i hk
      exact .inr (.inl ⟨hk, hw, h.1, h.2.1, h.2.2⟩)
    · split at h
      · simp only [Bool.and_eq_true, decide_eq_true_eq] at h
        rename_i hk
        exact .inr (.inr (.inl ⟨hk, hw, h.1.2, h.1.1, h.2.2, h.2.1⟩))
      · split at h
        · simp only [Bool.and_eq_true] at h
          rename_i hk
          exact .inr (.inr (.inr ⟨hk, hw, h.1, h.2⟩))
        · cases h
end Go.Proofs.YtfbapbpggicfbaaGreatDoor.Sh
/-
  Credentials: what is read was put; texts apart. Plain lemmas.
-/
namespace Go.Proofs.YtfbapbpggicfbaaGreatDoor.Sh
open Go Go.RowKit

/-! ### texts apart -/
theorem may_bytes {l : List UInt8} (h : mayL l = true) : ∀ x ∈ l, letter x = true ∨ digit x = true := by
  cases l with
  | nil => intro x hx; cases hx
  | cons y t =>
    rw [mayL_cons] at h
    simp only [Bool.and_eq_true, decide_eq_true_eq, List.all_eq_true] at h
    intro x hx
    rcases List.mem_cons.1 hx with rfl | hx
    · exact .inl h.1.1
    · have := h.1.2 x hx
      unfold okName at this
      rwa [Bool.or_eq_true] at this
theorem may_count {l : List UInt8} (h : mayL l = true) (s : UInt8) (hs : letter s = false) (hs2 : digit s = false) : l.count s = 0 := by
  rw [List.count_eq_zero]
  intro hm
  rcases may_bytes h s hm with k | k
  · rw [hs] at k; cases k
  · rw [hs2] at k; cases k
theorem dom_count (d : Int) (h1 : 1 ≤ d) (h2 : d ≤ 16) (s : UInt8) (hs : letter s = false) (hs2 : digit s = false) : (domL d).count s = 0 := may_count (domL_may d h1 h2) s hs hs2
end Go.Proofs.YtfbapbpggicfbaaGreatDoor.Sh
/-
  Credentials: unlike ones have unlike texts, but for their Seq. Plain lemmas.
-/
namespace Go.Proofs.YtfbapbpggicfbaaGreatDoor.Sh
open Go Go.RowKit

theorem l46 : letter 46 = false := rfl
theorem d46 : digit 46 = false := rfl
theorem l32 : letter 32 = false := rfl
theorem d32 : digit 32 = false := rfl
theorem domL_inj {d d' : Int} (h1 : 1 ≤ d) (h2 : d ≤ 16) (h3 : 1 ≤ d') (h4 : d' ≤ 16) (e : domL d = domL d') : d = d' := by
  have a := numL_domL d h1 h2
  have b := numL_domL d' h3 h4
  rw [e, b] at a
  omega
end Go.Proofs.YtfbapbpggicfbaaGreatDoor.Sh
/-
  Credentials in the order of their IDs: what a list sorted is, that it is one alone. Plain lemmas.
-/
namespace Go.Proofs.YtfbapbpggicfbaaGreatDoor.Sh
open Go Go.RowKit

/-- Does one credential's ID stand ahead of another's? -/
def bef (a b : Crd) : Bool := decide (a.d < b.d ∨ (a.d = b.d ∧ a.q < b.q))
def idIs (d q : Int) (c : Crd) : Bool := decide (c.d = d ∧ c.q = q)
/-- Sorted: none behind stands ahead. -/
def Sd (l : List Crd) : Prop := l.Pairwise fun a b => bef b a = false
/-- l, sorted, those of one ID in their order. -/
def SortOf (out l : List Crd) : Prop := Sd out ∧ ∀ d q, out.filter (idIs d q) = l.filter (idIs d q)
/-- Those that count: of each ID the first that may be. -/
def CountsOf (out l : List Crd) : Prop := Sd out ∧ ∀ d q, out.filter (idIs d q) = (l.filter fun c => idIs d q c && mayC c).take 1
theorem bef_irrefl (a : Crd) : bef a a = false := by unfold bef; simp
theorem bef_same {a b : Crd} (h : bef a b = false) (h' : bef b a = false) : a.d = b.d ∧ a.q = b.q := by
  unfold bef at h h'
  simp only [decide_eq_false_iff_not] at h h'
  omega
/-- Of two sorted lists with the same credentials of each ID, in the same order, one is the other. -/
theorem sd_uniq : ∀ (a b : List Crd), Sd a → Sd b → (∀ d q, a.filter (idIs d q) = b.filter (idIs d q)) → a = b
  | [], [], _, _, _ => rfl
  | [], y :: t, _, _, h => by
    have := h y.d y.q
    simp [idIs] at this
  | x :: s, [], _, _, h => by
    have := h x.d x.q
    simp [idIs] at this
  | x :: s, y :: t, ha, hb, h => by
    have hx : x ∈ y :: t := by
      have h1 := h x.d x.q
      have : x ∈ (x :: s).filter (idIs x.d x.q) := by simp [idIs]
      rw [h1] at this
      exact (List.mem_filter.1 this).1
    have hy : y ∈ x :: s := by
      have h1 := h y.d y.q
      have : y ∈ (y :: t).filter (idIs y.d y.q) := by simp [idIs]
      rw [← h1] at this
      exact (List.mem_filter.1 this).1
    have h1 : bef x y = false := by
      rcases List.mem_cons.1 hx with rfl | hm
      · exact bef_irrefl _
      · exact (List.pairwise_cons.1 hb).1 x hm
    have h2 : bef y x = false := by
      rcases List.mem_cons.1 hy with rfl | hm
      · exact bef_irrefl _
      · exact (List.pairwise_cons.1 ha).1 y hm
    obtain ⟨e1, e2⟩ := bef_same h1 h2
    have h3 := h x.d x.q
    have ex : idIs x.d x.q x = true := by simp [idIs]
    have ey : idIs x.d x.q y = true := by simp [idIs, e1, e2]
    rw [List.filter_cons_of_pos ex, List.filter_cons_of_pos ey] at h3
    simp only [List.cons.injEq] at h3
    obtain ⟨rfl, _⟩ := h3
    congr 1
    refine sd_uniq s t (List.pairwise_cons.1 ha).2 (List.pairwise_cons.1 hb).2 fun d q => ?_
    have h4 := h d q
    rw [List.filter_cons, List.filter_cons] at h4
    split at h4
    · simpa using h4
    · exact h4
theorem sort_uniq {a b l : List Crd} (ha : SortOf a l) (hb : SortOf b l) : a = b := sd_uniq a b ha.1 hb.1 fun d q => (ha.2 d q).trans (hb.2 d q).symm
theorem counts_uniq {a b l : List Crd} (ha : CountsOf a l) (hb : CountsOf b l) : a = b := sd_uniq a b ha.1 hb.1 fun d q => (ha.2 d q).trans (hb.2 d q).symm
theorem len_filter (l : List Crd) (h : ∀ d q, l.filter (idIs d q) = []) : l = [] := by
  cases l with
  | nil => rfl
  | cons x t =>
    have := h x.d x.q
    simp [idIs] at this

/-! ### the first of the least, taken away again and again -/
/-- m is the first of the least of the first k. -/
def Least (l : List Crd) (k m : Nat) : Prop := ∃ c, l[m]? = some c ∧ m < k ∧ (∀ j x, j < k → l[j]? = some x → bef x c = false) ∧ ∀ j x, j < m → l[j]? = some x → bef c x = true
theorem bef_trans {a b c : Crd} (h1 : bef a b = true) (h2 : bef b c = true) : bef a c = true := by
  unfold bef at *
  simp only [decide_eq_true_eq] at *
  omega
theorem bef_of_not {a b c : Crd} (h1 : bef a b = true) (h2 : bef c b = false) : bef a c = true := by
  unfold bef at *
  simp only [decide_eq_true_eq, decide_eq_false_iff_not] at *
  omega
theorem not_bef_trans {a b c : Crd} (h1 : bef a b = false) (h2 : bef b c = false) : bef a c = false := by
  unfold bef at *
  simp only [decide_eq_false_iff_not] at *
  omega
theorem bef_asymm {a b : Crd} (h : bef a b = true) : bef b a = false := by
  unfold bef at *
  simp only [decide_eq_true_eq, decide_eq_false_iff_not] at *
  omega
theorem least_one {l : List Crd} {c : Crd} (h : l[0]? = some c) : Least l 1 0 := by
  refine ⟨c, h, by omega, fun j x hj hx => ?_, fun j x hj => by omega⟩
  obtain rfl : j = 0 := by omega
  rw [h] at hx
  injection hx with hx
  subst hx
  exact bef_irrefl _
theorem least_take {l : List Crd} {k m : Nat} {c x : Crd} (h : Least l k m) (hc : l[m]? = some c) (hx : l[k]? = some x) (hb : bef x c = true) : Least l (k + 1) k := by
  obtain ⟨c', h1, h2, h3, h4⟩ := h
  rw [hc] at h1; injection h1 with h1; subst h1
  refine ⟨x, hx, by omega, fun j y hj hy => ?_, fun j y hj hy => ?_⟩
  · rcases Nat.lt_or_ge j k with hlt | hge
    · exact bef_asymm (bef_of_not hb (h3 j y hlt hy))
    · obtain rfl : j = k := by omega
      rw [hx] at hy; injection hy with hy; subst hy; exact bef_irrefl _
  · exact bef_of_not hb (h3 j y hj hy)
theorem least_keep {l : List Crd} {k m : Nat} {c x : Crd} (h : Least l k m) (hc : l[m]? = some c) (hx : l[k]? = some x) (hb : bef x c = false) : Least l (k + 1) m := by
  obtain ⟨c', h1, h2, h3, h4⟩ := h
  rw [hc] at h1; injection h1 with h1; subst h1
  refine ⟨c, hc, by omega, fun j y hj hy => ?_, h4⟩
  rcases Nat.lt_or_ge j k with hlt | hge
  · exact h3 j y hlt hy
  · obtain rfl : j = k := by omega
    rw [hx] at hy; injection hy with hy; subst hy; exact hb
/-- What is laid aside (out) and what is left (l) of a list all: one step on. -/
def Sel (out l all : List Crd) : Prop := Sd out ∧ (∀ a ∈ out, ∀ b ∈ l, bef b a = false) ∧ ∀ d q, out.filter (idIs d q) ++ l.filter (idIs d q) = all.filter (idIs d q)
theorem sel_start (all : List Crd) : Sel [] all all := ⟨List.Pairwise.nil, fun _ h => absurd h (by simp), fun d q => by simp⟩
theorem sel_end {out all : List Crd} (h : Sel out [] all) : SortOf out all := ⟨h.1, fun d q => by simpa using h.2.2 d q⟩
theorem sel_step {out l all : List Crd} {m : Nat} {c : Crd} (h : Sel out l all) (hl : Least l l.length m) (hc : l[m]? = some c) : Sel (out ++ [c]) (l.take m ++ l.drop (m + 1)) all := by
  obtain ⟨h1, h2, h3⟩ := h
  obtain ⟨c', g1, g2, g3, g4⟩ := hl
  rw [hc] at g1; injection g1 with g1; subst g1
  have hsplit : l = l.take m ++ c :: l.drop (m + 1) := by
    have h5 : l[m] = c := (List.getElem?_eq_some_iff.1 hc).2
    rw [← h5, List.getElem_cons_drop, List.take_append_drop]
  have hmem : ∀ b, b ∈ l.take m ++ l.drop (m + 1) → b ∈ l := fun b hb => by
    rw [hsplit]
    rcases List.mem_append.1 hb with hb | hb
    · exact List.mem_append.2 (.inl hb)
    · exact List.mem_append.2 (.inr (List.mem_cons_of_mem _ hb))
  have hcl : c ∈ l := List.mem_of_getElem? hc
  refine ⟨?_, ?_, fun d q => ?_⟩
  · refine List.pairwise_append.2 ⟨h1, List.pairwise_singleton _ _, fun a ha b hb => ?_⟩
    rw [List.mem_singleton.1 hb]
    exact h2 a ha c hcl
  · intro a ha b hb
    rcases List.mem_append.1 ha with ha | ha
    · exact h2 a ha b (hmem b hb)
    · rw [List.mem_singleton.1 ha]
      obtain ⟨j, hj⟩ := List.getElem?_of_mem (hmem b hb)
      exact g3 j b (List.getElem?_eq_some_iff.1 hj).1 hj
  · rw [← h3 d q]
    conv => rhs; rw [hsplit]
    simp only [List.filter_append, List.append_assoc]
    congr 1
    by_cases hi : idIs d q c = true
    · have hno : (l.take m).filter (idIs d q) = [] := by
        rw [List.filter_eq_nil_iff]
        intro x hx hxi
        obtain ⟨j, hj⟩ := List.getElem?_of_mem hx
        rw [List.getElem?_take] at hj
        split at hj
        · rename_i hjm
          have := g4 j x hjm hj
          unfold idIs at hi hxi
          unfold bef at this
          simp only [decide_eq_true_eq] at *
          omega
        · cases hj
      rw [hno, List.filter_cons_of_pos hi]
      simp [hi]
    · rw [List.filter_cons_of_neg hi]
      simp [hi]

/-! ### the first of each ID that may be -/
/-- What has been kept of the first k. -/
def Kept (out : List Crd) (l : List Crd) (k : Nat) : Prop := ∀ d q, out.filter (idIs d q) = ((l.take k).filter fun c => idIs d q c && mayC c).take 1
theorem kept_start (l : List Crd) : Kept [] l 0 := fun d q => by simp
theorem kept_end {out all o2 : List Crd} (h : Kept out all all.length) (hs : SortOf o2 out) : CountsOf o2 all := ⟨hs.1, fun d q => by rw [hs.2, h d q, List.take_length]⟩
theorem kept_skip {out l : List Crd} {k : Nat} {c : Crd} (h : Kept out l k) (hc : l[k]? = some c) (hm : mayC c = false ∨ ∃ x ∈ out, x.d = c.d ∧ x.q = c.q) : Kept out l (k + 1) := fun d q => by
  rw [take_snoc_of hc, List.filter_append, h d q]
  by_cases hi : (idIs d q c && mayC c) = true
  · rcases hm with hm | ⟨x, hx, e1, e2⟩
    · rw [hm] at hi; simp at hi
    · have hne : ((l.take k).filter fun c => idIs d q c && mayC c) ≠ [] := by
        intro h0
        have h1 := h d q
        rw [h0] at h1
        have : x ∈ out.filter (idIs d q) := by
          rw [List.mem_filter]
          refine ⟨hx, ?_⟩
          simp only [Bool.and_eq_true] at hi
          unfold idIs at hi ⊢
          simp only [decide_eq_true_eq] at hi ⊢
          omega
        rw [h1] at this
        simp at this
      cases hq : ((l.take k).filter fun c => idIs d q c && mayC c) with
      | nil => exact absurd hq hne
      | cons a t => rfl
  · have : [c].filter (fun c => idIs d q c && mayC c) = [] := by simp [hi]
    rw [this, List.append_nil]
theorem kept_take {out l : List Crd} {k : Nat} {c : Crd} (h : Kept out l k) (hc : l[k]? = some c) (hm : mayC c = true) (hn : ∀ x ∈ out, ¬ (x.d = c.d ∧ x.q = c.q)) : Kept (out ++ [c]) l (k + 1) := fun d q => by
  rw [take_snoc_of hc, List.filter_append, List.filter_append, h d q]
  by_cases hi : idIs d q c = true
  · have hno : out.filter (idIs d q) = [] := by
      rw [List.filter_eq_nil_iff]
      intro x hx hxi
      refine hn x hx ?_
      unfold idIs at hi hxi
      simp only [decide_eq_true_eq] at hi hxi
      omega
    have h0 : ((l.take k).filter fun c => idIs d q c && mayC c) = [] := by
      have h1 := h d q
      rw [hno] at h1
      cases hq : ((l.take k).filter fun c => idIs d q c && mayC c) with
      | nil => rfl
      | cons a t => rw [hq] at h1; simp at h1
    rw [h0]
    simp [hi, hm]
  · simp [hi]
end Go.Proofs.YtfbapbpggicfbaaGreatDoor.Sh
/-
  What credentials say, as the least set; the program's way to it, in plain functions. Nothing of the program's own text.
-/
namespace Go.Proofs.YtfbapbpggicfbaaGreatDoor.Sh
open Go Go.RowKit

/-- A role; a pair. -/
abbrev Rl := ByteArray × ByteArray
abbrev Pr := Rl × ByteArray
def decMem {α : Type} (eq : ∀ a b : α, Decidable (a = b)) (a : α) : (l : List α) → Decidable (a ∈ l)
  | [] => .isFalse (by simp)
  | b :: l => match eq a b, decMem eq a l with
    | .isTrue h, _ => .isTrue (by simp [h])
    | .isFalse _, .isTrue h => .isTrue (by simp [h])
    | .isFalse h1, .isFalse h2 => .isFalse (by simp [h1, h2])
instance decPr (p : Pr) (l : List Pr) : Decidable (p ∈ l) := decMem (fun a b => inferInstance) p l
instance decBy (p : ByteArray) (l : List ByteArray) : Decidable (p ∈ l) := decMem (fun a b => inferInstance) p l
def roleOf (c : Crd) : Rl := (domB c.d, c.nm)
def firstOf (c : Crd) : Rl := (domB c.d, c.an)
def isD (y : ByteArray) : Prop := numL y.data.toList ≠ 0
/-- What some credentials say. -/
inductive Imp (S : Crd → Prop) : Pr → Prop
  | mem {c : Crd} : S c → c.kd = 1 → Imp S (roleOf c, c.wh)
  | inc {c : Crd} {x : ByteArray} : S c → c.kd = 2 → Imp S ((c.ao, c.an), x) → Imp S (roleOf c, x)
  | lnk {c : Crd} {x y : ByteArray} : S c → c.kd = 3 → Imp S (firstOf c, y) → isD y → Imp S ((y, c.bn), x) → Imp S (roleOf c, x)
  | bth {c : Crd} {x : ByteArray} : S c → c.kd = 4 → Imp S ((c.ao, c.an), x) → Imp S ((c.bo, c.bn), x) → Imp S (roleOf c, x)
theorem imp_mono {S S' : Crd → Prop} (h : ∀ c, S c → S' c) {p : Pr} (hp : Imp S p) : Imp S' p := by
  induction hp with
  | mem hs hk => exact .mem (h _ hs) hk
  | inc hs hk _ ih => exact .inc (h _ hs) hk ih
  | lnk hs hk _ hd _ ih1 ih2 => exact .lnk (h _ hs) hk ih1 hd ih2
  | bth hs hk _ _ ih1 ih2 => exact .bth (h _ hs) hk ih1 ih2
theorem imp_who {S : Crd → Prop} {p : Pr} (hp : Imp S p) : ∃ c, S c ∧ c.kd = 1 ∧ c.wh = p.2 := by
  induction hp with
  | mem hs hk => exact ⟨_, hs, hk, rfl⟩
  | inc _ _ _ ih => exact ih
  | lnk _ _ _ _ _ _ ih2 => exact ih2
  | bth _ _ _ _ ih1 _ => exact ih1
theorem imp_role {S : Crd → Prop} {p : Pr} (hp : Imp S p) : ∃ c, S c ∧ roleOf c = p.1 := by
  cases hp with
  | mem hs _ => exact ⟨_, hs, rfl⟩
  | inc hs _ _ => exact ⟨_, hs, rfl⟩
  | lnk hs _ _ _ _ => exact ⟨_, hs, rfl⟩
  | bth hs _ _ _ => exact ⟨_, hs, rfl⟩
theorem isD_iff (y : ByteArray) : isD y ↔ ∃ n : Nat, n < 16 ∧ y = domB ((n : Int) + 1) := by
  constructor
  · intro h
    obtain ⟨e, h1, h2⟩ := domL_numL _ h
    refine ⟨numL y.data.toList - 1, by omega, ba_eq ?_⟩
    show y.data.toList = domL _
    rw [← e]
    congr 1
    rw [e]
    omega
  · rintro ⟨n, hn, rfl⟩
    show numL (domL _) ≠ 0
    rw [numL_domL _ (by omega) (by omega)]
    omega

/-! ### the program's state -/
def upd {κ α : Type} [DecidableEq κ] (f : κ → List α) (k : κ) (x : α) : κ → List α := fun j => if j = k then f j ++ [x] else f j
theorem upd_same {κ α : Type} [DecidableEq κ] (f : κ → List α) (k : κ) (x : α) : upd f k x k = f k ++ [x] := if_pos rfl
theorem upd_other {κ α : Type} [DecidableEq κ] (f : κ → List α) {j k : κ} (x : α) (h : j ≠ k) : upd f k x j = f j := if_neg h
theorem upd_mem {κ α : Type} [DecidableEq κ] {f : κ → List α} {j k : κ} {x y : α} : y ∈ upd f k x j ↔ y ∈ f j ∨ (j = k ∧ y = x) := by
  unfold upd
  split
  · rename_i h; simp [h]
  · rename_i h; simp [h]
structure St where
  giv : ByteArray → List Rl
  inc : Rl → List Rl
  bth : Rl → List (Rl × Rl)
  lnk : Rl → List (ByteArray × Rl)
  kn : List Pr
  fr : List Pr
  /-- how many stores -/
  ic : Nat
  keys : List ByteArray
def St.zero : St := ⟨fun _ => [], fun _ => [], fun _ => [], fun _ => [], [], [], 0, []⟩
def St.add (s : St) (p : Pr) : St := if p ∈ s.kn then s else { s with kn := s.kn ++ [p], fr := s.fr ++ [p] }
def St.addInc (s : St) (r g : Rl) : St := { s with inc := upd s.inc r g, ic := s.ic + 1 }
def St.addGiv (s : St) (x : ByteArray) (g : Rl) : St := { s with giv := upd s.giv x g, ic := s.ic + 1, keys := if x ∈ s.keys then s.keys else s.keys ++ [x] }
def St.addLnk (s : St) (r : Rl) (k : ByteArray × Rl) : St := { s with lnk := upd s.lnk r k, ic := s.ic + 1 }
def St.addBth (s : St) (r : Rl) (b : Rl × Rl) : St := { s with bth := upd s.bth r b, ic := s.ic + 1 }
def St.include (s : St) (p : Pr) : St := (s.inc p.1).foldl (fun s r => s.add (r, p.2)) s
def St.bothO (p : Pr) (s : St) (b : Rl × Rl) : St := if (b.1, p.2) ∈ s.kn then s.add (b.2, p.2) else s
def St.both (s : St) (p : Pr) : St := (s.bth p.1).foldl (St.bothO p) s
def St.linkD (r g : Rl) (s : St) (n : Nat) : St := if (r, domB ((n : Int) + 1)) ∈ s.kn then s.add (g, domB ((n : Int) + 1)) else s
def St.linkO (p : Pr) (s : St) (k : ByteArray × Rl) : St := (List.range 16).foldl (St.linkD (p.2, k.1) k.2) (s.addInc (p.2, k.1) k.2)
def St.link (s : St) (p : Pr) : St := (s.lnk p.1).foldl (St.linkO p) s
def St.begin (s : St) (who : ByteArray) : St := (s.giv who).foldl (fun s r => s.add (r, who)) s
def St.take (s : St) (c : Crd) : St :=
  if c.kd = 1 then s.addGiv c.wh (roleOf c)
  else if c.kd = 2 then s.addInc (c.ao, c.an) (roleOf c)
  else if c.kd = 3 then s.addLnk (firstOf c) (c.bn, roleOf c)
  else if c.kd = 4 then (s.addBth (c.ao, c.an) ((c.bo, c.bn), roleOf c)).addBth (c.bo, c.bn) ((c.ao, c.an), roleOf c)
  else s
def St.pop (s : St) : St := { s with fr := s.fr.take (s.fr.length - 1) }
/-- One round of what spreads: by all three rules, or by two. -/
def St.turn (three : Bool) (s : St) (p : Pr) : St := if three then ((s.pop.include p).both p).link p else (s.pop.include p).both p
end Go.Proofs.YtfbapbpggicfbaaGreatDoor.Sh
