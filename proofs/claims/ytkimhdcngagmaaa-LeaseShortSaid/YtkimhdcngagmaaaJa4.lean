/-
  Credentials in the order of their IDs: what a list sorted is, that it is one alone. Plain lemmas.
-/
import Derived.Test.YtkimhdcngagmaaaJa3
import Derived.Test.YtkimhdcngagmaaaJa1
import Derived.WalkLawsBesides
set_option linter.unusedVariables false
set_option linter.unusedSimpArgs false
namespace Go.Proofs.Ytkimhdcngagmaaa.Sh
open Go Go.RowKit

/-- Does one credential's ID stand ahead of another's? -/
def bef (a b : Crd) : Bool := decide (a.d < b.d ∨ (a.d = b.d ∧ a.q < b.q))
def idIs (d q : Int) (c : Crd) : Bool := decide (c.d = d ∧ c.q = q)
/-- Sorted: none behind stands ahead. -/
def Sd (l : List Crd) : Prop := l.Pairwise fun a b => bef b a = false
/-- l, sorted, those of one ID in their order. -/
def SortOf (out l : List Crd) : Prop := Sd out ∧ ∀ d q, out.filter (idIs d q) = l.filter (idIs d q)
/-- Those that count: of each ID the first that may be. -/
def CountsOf (out l : List Crd) : Prop := Sd out ∧ ∀ d q, out.filter (idIs d q) = (l.filter fun c => idIs d q c && mayC c).take 1
theorem bef_irrefl (a : Crd) : bef a a = false := by unfold bef; simp
theorem bef_same {a b : Crd} (h : bef a b = false) (h' : bef b a = false) : a.d = b.d ∧ a.q = b.q := by
  unfold bef at h h'
  simp only [decide_eq_false_iff_not] at h h'
  omega
/-- Of two sorted lists with the same credentials of each ID, in the same order, one is the other. -/
theorem sd_uniq : ∀ (a b : List Crd), Sd a → Sd b → (∀ d q, a.filter (idIs d q) = b.filter (idIs d q)) → a = b
  | [], [], _, _, _ => rfl
  | [], y :: t, _, _, h => by
    have := h y.d y.q
    simp [idIs] at this
  | x :: s, [], _, _, h => by
    have := h x.d x.q
    simp [idIs] at this
  | x :: s, y :: t, ha, hb, h => by
    have hx : x ∈ y :: t := by
      have h1 := h x.d x.q
      have : x ∈ (x :: s).filter (idIs x.d x.q) := by simp [idIs]
      rw [h1] at this
      exact (List.mem_filter.1 this).1
    have hy : y ∈ x :: s := by
      have h1 := h y.d y.q
      have : y ∈ (y :: t).filter (idIs y.d y.q) := by simp [idIs]
      rw [← h1] at this
      exact (List.mem_filter.1 this).1
    have h1 : bef x y = false := by
      rcases List.mem_cons.1 hx with rfl | hm
      · exact bef_irrefl _
      · exact (List.pairwise_cons.1 hb).1 x hm
    have h2 : bef y x = false := by
      rcases List.mem_cons.1 hy with rfl | hm
      · exact bef_irrefl _
      · exact (List.pairwise_cons.1 ha).1 y hm
    obtain ⟨e1, e2⟩ := bef_same h1 h2
    have h3 := h x.d x.q
    have ex : idIs x.d x.q x = true := by simp [idIs]
    have ey : idIs x.d x.q y = true := by simp [idIs, e1, e2]
    rw [List.filter_cons_of_pos ex, List.filter_cons_of_pos ey] at h3
    simp only [List.cons.injEq] at h3
    obtain ⟨rfl, _⟩ := h3
    congr 1
    refine sd_uniq s t (List.pairwise_cons.1 ha).2 (List.pairwise_cons.1 hb).2 fun d q => ?_
    have h4 := h d q
    rw [List.filter_cons, List.filter_cons] at h4
    split at h4
    · simpa using h4
    · exact h4
theorem sort_uniq {a b l : List Crd} (ha : SortOf a l) (hb : SortOf b l) : a = b := sd_uniq a b ha.1 hb.1 fun d q => (ha.2 d q).trans (hb.2 d q).symm
theorem counts_uniq {a b l : List Crd} (ha : CountsOf a l) (hb : CountsOf b l) : a = b := sd_uniq a b ha.1 hb.1 fun d q => (ha.2 d q).trans (hb.2 d q).symm
theorem len_filter (l : List Crd) (h : ∀ d q, l.filter (idIs d q) = []) : l = [] := by
  cases l with
  | nil => rfl
  | cons x t =>
    have := h x.d x.q
    simp [idIs] at this

/-! ### the first of the least, taken away again and again -/
/-- m is the first of the least of the first k. -/
def Least (l : List Crd) (k m : Nat) : Prop := ∃ c, l[m]? = some c ∧ m < k ∧ (∀ j x, j < k → l[j]? = some x → bef x c = false) ∧ ∀ j x, j < m → l[j]? = some x → bef c x = true
theorem bef_trans {a b c : Crd} (h1 : bef a b = true) (h2 : bef b c = true) : bef a c = true := by
  unfold bef at *
  simp only [decide_eq_true_eq] at *
  omega
theorem bef_of_not {a b c : Crd} (h1 : bef a b = true) (h2 : bef c b = false) : bef a c = true := by
  unfold bef at *
  simp only [decide_eq_true_eq, decide_eq_false_iff_not] at *
  omega
theorem not_bef_trans {a b c : Crd} (h1 : bef a b = false) (h2 : bef b c = false) : bef a c = false := by
  unfold bef at *
  simp only [decide_eq_false_iff_not] at *
  omega
theorem bef_asymm {a b : Crd} (h : bef a b = true) : bef b a = false := by
  unfold bef at *
  simp only [decide_eq_true_eq, decide_eq_false_iff_not] at *
  omega
theorem least_one {l : List Crd} {c : Crd} (h : l[0]? = some c) : Least l 1 0 := by
  refine ⟨c, h, by omega, fun j x hj hx => ?_, fun j x hj => by omega⟩
  obtain rfl : j = 0 := by omega
  rw [h] at hx
  injection hx with hx
  subst hx
  exact bef_irrefl _
theorem least_take {l : List Crd} {k m : Nat} {c x : Crd} (h : Least l k m) (hc : l[m]? = some c) (hx : l[k]? = some x) (hb : bef x c = true) : Least l (k + 1) k := by
  obtain ⟨c', h1, h2, h3, h4⟩ := h
  rw [hc] at h1; injection h1 with h1; subst h1
  refine ⟨x, hx, by omega, fun j y hj hy => ?_, fun j y hj hy => ?_⟩
  · rcases Nat.lt_or_ge j k with hlt | hge
    · exact bef_asymm (bef_of_not hb (h3 j y hlt hy))
    · obtain rfl : j = k := by omega
      rw [hx] at hy; injection hy with hy; subst hy; exact bef_irrefl _
  · exact bef_of_not hb (h3 j y hj hy)
theorem least_keep {l : List Crd} {k m : Nat} {c x : Crd} (h : Least l k m) (hc : l[m]? = some c) (hx : l[k]? = some x) (hb : bef x c = false) : Least l (k + 1) m := by
  obtain ⟨c', h1, h2, h3, h4⟩ := h
  rw [hc] at h1; injection h1 with h1; subst h1
  refine ⟨c, hc, by omega, fun j y hj hy => ?_, h4⟩
  rcases Nat.lt_or_ge j k with hlt | hge
  · exact h3 j y hlt hy
  · obtain rfl : j = k := by omega
    rw [hx] at hy; injection hy with hy; subst hy; exact hb
/-- What is laid aside (out) and what is left (l) of a list all: one step on. -/
def Sel (out l all : List Crd) : Prop := Sd out ∧ (∀ a ∈ out, ∀ b ∈ l, bef b a = false) ∧ ∀ d q, out.filter (idIs d q) ++ l.filter (idIs d q) = all.filter (idIs d q)
theorem sel_start (all : List Crd) : Sel [] all all := ⟨List.Pairwise.nil, fun _ h => absurd h (by simp), fun d q => by simp⟩
theorem sel_end {out all : List Crd} (h : Sel out [] all) : SortOf out all := ⟨h.1, fun d q => by simpa using h.2.2 d q⟩
theorem sel_step {out l all : List Crd} {m : Nat} {c : Crd} (h : Sel out l all) (hl : Least l l.length m) (hc : l[m]? = some c) : Sel (out ++ [c]) (l.take m ++ l.drop (m + 1)) all := by
  obtain ⟨h1, h2, h3⟩ := h
  obtain ⟨c', g1, g2, g3, g4⟩ := hl
  rw [hc] at g1; injection g1 with g1; subst g1
  have hsplit : l = l.take m ++ c :: l.drop (m + 1) := by
    have h5 : l[m] = c := (List.getElem?_eq_some_iff.1 hc).2
    rw [← h5, List.getElem_cons_drop, List.take_append_drop]
  have hmem : ∀ b, b ∈ l.take m ++ l.drop (m + 1) → b ∈ l := fun b hb => by
    rw [hsplit]
    rcases List.mem_append.1 hb with hb | hb
    · exact List.mem_append.2 (.inl hb)
    · exact List.mem_append.2 (.inr (List.mem_cons_of_mem _ hb))
  have hcl : c ∈ l := List.mem_of_getElem? hc
  refine ⟨?_, ?_, fun d q => ?_⟩
  · refine List.pairwise_append.2 ⟨h1, List.pairwise_singleton _ _, fun a ha b hb => ?_⟩
    rw [List.mem_singleton.1 hb]
    exact h2 a ha c hcl
  · intro a ha b hb
    rcases List.mem_append.1 ha with ha | ha
    · exact h2 a ha b (hmem b hb)
    · rw [List.mem_singleton.1 ha]
      obtain ⟨j, hj⟩ := List.getElem?_of_mem (hmem b hb)
      exact g3 j b (List.getElem?_eq_some_iff.1 hj).1 hj
  · rw [← h3 d q]
    conv => rhs; rw [hsplit]
    simp only [List.filter_append, List.append_assoc]
    congr 1
    by_cases hi : idIs d q c = true
    · have hno : (l.take m).filter (idIs d q) = [] := by
        rw [List.filter_eq_nil_iff]
        intro x hx hxi
        obtain ⟨j, hj⟩ := List.getElem?_of_mem hx
        rw [List.getElem?_take] at hj
        split at hj
        · rename_i hjm
          have := g4 j x hjm hj
          unfold idIs at hi hxi
          unfold bef at this
          simp only [decide_eq_true_eq] at *
          omega
        · cases hj
      rw [hno, List.filter_cons_of_pos hi]
      simp [hi]
    · rw [List.filter_cons_of_neg hi]
      simp [hi]

/-! ### the first of each ID that may be -/
/-- What has been kept of the first k. -/
def Kept (out : List Crd) (l : List Crd) (k : Nat) : Prop := ∀ d q, out.filter (idIs d q) = ((l.take k).filter fun c => idIs d q c && mayC c).take 1
theorem kept_start (l : List Crd) : Kept [] l 0 := fun d q => by simp
theorem kept_end {out all o2 : List Crd} (h : Kept out all all.length) (hs : SortOf o2 out) : CountsOf o2 all := ⟨hs.1, fun d q => by rw [hs.2, h d q, List.take_length]⟩
theorem kept_skip {out l : List Crd} {k : Nat} {c : Crd} (h : Kept out l k) (hc : l[k]? = some c) (hm : mayC c = false ∨ ∃ x ∈ out, x.d = c.d ∧ x.q = c.q) : Kept out l (k + 1) := fun d q => by
  rw [take_snoc_of hc, List.filter_append, h d q]
  by_cases hi : (idIs d q c && mayC c) = true
  · rcases hm with hm | ⟨x, hx, e1, e2⟩
    · rw [hm] at hi; simp at hi
    · have hne : ((l.take k).filter fun c => idIs d q c && mayC c) ≠ [] := by
        intro h0
        have h1 := h d q
        rw [h0] at h1
        have : x ∈ out.filter (idIs d q) := by
          rw [List.mem_filter]
          refine ⟨hx, ?_⟩
          simp only [Bool.and_eq_true] at hi
          unfold idIs at hi ⊢
          simp only [decide_eq_true_eq] at hi ⊢
          omega
        rw [h1] at this
        simp at this
      cases hq : ((l.take k).filter fun c => idIs d q c && mayC c) with
      | nil => exact absurd hq hne
      | cons a t => rfl
  · have : [c].filter (fun c => idIs d q c && mayC c) = [] := by simp [hi]
    rw [this, List.append_nil]
theorem kept_take {out l : List Crd} {k : Nat} {c : Crd} (h : Kept out l k) (hc : l[k]? = some c) (hm : mayC c = true) (hn : ∀ x ∈ out, ¬ (x.d = c.d ∧ x.q = c.q)) : Kept (out ++ [c]) l (k + 1) := fun d q => by
  rw [take_snoc_of hc, List.filter_append, List.filter_append, h d q]
  by_cases hi : idIs d q c = true
  · have hno : out.filter (idIs d q) = [] := by
      rw [List.filter_eq_nil_iff]
      intro x hx hxi
      refine hn x hx ?_
      unfold idIs at hi hxi
      simp only [decide_eq_true_eq] at hi hxi
      omega
    have h0 : ((l.take k).filter fun c => idIs d q c && mayC c) = [] := by
      have h1 := h d q
      rw [hno] at h1
      cases hq : ((l.take k).filter fun c => idIs d q c && mayC c) with
      | nil => rfl
      | cons a t => rw [hq] at h1; simp at h1
    rw [h0]
    simp [hi, hm]
  · simp [hi]
end Go.Proofs.Ytkimhdcngagmaaa.Sh
/-
  Ticks, pure: a number as a tick, how a clock goes on, how long the slowest one takes.
-/
namespace Go.Proofs.Ytkimhdcngagmaaa.Sh
open Go Go.RowKit

def tk (n : Int) : Int := if n < 0 then 0 else if n > 1099511627776 then 1099511627776 else n
theorem tk_b (n : Int) : 0 ≤ tk n ∧ tk n ≤ 1099511627776 := by unfold tk; split <;> (try split) <;> omega
theorem tk_id {n : Int} (h0 : 0 ≤ n) (h1 : n ≤ 1099511627776) : tk n = n := by unfold tk; split <;> (try split) <;> omega
theorem tk_mono {a b : Int} (h : a ≤ b) : tk a ≤ tk b := by unfold tk; repeat' split <;> omega
def addT (a b : Int) : Int := tk (tk a + tk b)
theorem addT_b (a b : Int) : 0 ≤ addT a b ∧ addT a b ≤ 1099511627776 := tk_b _
theorem addT_comm (a b : Int) : addT a b = addT b a := by unfold addT; rw [Int.add_comm]
def cl (n a b : Int) : Int := if n < a then a else if n > b then b else n
theorem tk_cl (n : Int) : tk n = cl n 0 1099511627776 := rfl
theorem cl_b {a b : Int} (h : a ≤ b) (n : Int) : a ≤ cl n a b ∧ cl n a b ≤ b := by unfold cl; split <;> (try split) <;> omega
def goesT (n s : Int) : Int := cl n 0 64 + cl s (-(cl n 0 64 / 8)) (cl n 0 64 / 8)
def boundT (n : Int) : Int := (tk n * 8 + 6) / 7
theorem boundT_b (n : Int) : 0 ≤ boundT n ∧ boundT n ≤ 1256584717460 := by have := tk_b n; unfold boundT; omega
/-- Each part is at least seven eighths. -/
theorem goesT_low (n s : Int) : 7 * cl n 0 64 ≤ 8 * goesT n s ∧ goesT n s ≤ 72 ∧ 0 ≤ goesT n s := by
  have h := cl_b (a := 0) (b := 64) (by omega) n
  unfold goesT
  generalize cl n 0 64 = m at h ⊢
  have h2 := cl_b (a := -(m / 8)) (b := m / 8) (by omega) s
  omega
def leastT (l : List Int) : Int := l.foldl (fun o x => min o (tk x)) 1099511627776
end Go.Proofs.Ytkimhdcngagmaaa.Sh
