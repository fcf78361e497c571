/-
  LeaseShort: the deed by which each domain's are held, and one more; an array of numbers.
-/
import Derived.Test.YtkimhdcngagmaaaJa36
namespace Go.Proofs.Ytkimhdcngagmaaa.Sh
open Go Go.RowKit

set_option linter.unusedSimpArgs false
set_option linter.unusedVariables false
def arr (l : List Nat) : Array Value := (l.map fun n : Nat => Value.int .i64 (n : Int)).toArray
theorem arr_zero : (#[.int .i64 0, .int .i64 0, .int .i64 0, .int .i64 0, .int .i64 0, .int .i64 0, .int .i64 0, .int .i64 0, .int .i64 0, .int .i64 0, .int .i64 0, .int .i64 0, .int .i64 0, .int .i64 0, .int .i64 0, .int .i64 0, .int .i64 0] : Array Value) = arr (List.replicate 17 0) := rfl
theorem arr_at {l : List Nat} {d n : Nat} (h : l[d]? = some n) : (arr l)[d]? = some (.int .i64 (n : Int)) := by
  unfold arr
  rw [List.getElem?_toArray, List.getElem?_map, h]; rfl
theorem add_rowL (g n : Nat) : (⟨g, 0, none⟩ : Addr).add n = ⟨g, n, none⟩ := by
  unfold Addr.add
  split
  · rename_i h; rw [h]
  · simp
theorem arr_set (l : List Nat) (d n : Nat) : (arr l).setIfInBounds d (.int .i64 ((n : Int) + 1)) = arr (l.set d (n + 1)) := by
  unfold arr
  rw [List.setIfInBounds_toArray, List.map_set]
  rfl
theorem addT_le {a : Int} (h0 : 0 ≤ a) (h1 : a ≤ 1099511627776) : addT a 56 ≤ a + 56 := by
  unfold addT
  rw [tk_id h0 h1, tk_id (n := 56) (by omega) (by omega)]
  unfold tk
  split
  · omega
  · split <;> omega
/-- Was it seen? -/
def InT (t : Bool) (c : Crd) (l : List Crd) : Prop := t = true ↔ c ∈ l
theorem InT.nil {c : Crd} {l : List Crd} : InT false c (l.take 0) := ⟨fun h => (by cases h), fun h => (by simp at h)⟩
theorem InT.more {c : Crd} {l : List Crd} (h : InT true c l) (y : Crd) : InT true c (l ++ [y]) := ⟨fun _ => List.mem_append_left _ (h.1 rfl), fun _ => rfl⟩
theorem InT.here (c : Crd) (l : List Crd) : InT true c (l ++ [c]) := ⟨fun _ => List.mem_append_right _ (List.mem_singleton_self _), fun _ => rfl⟩
theorem InT.not {c y : Crd} {l : List Crd} (h : InT false c l) (hy : ¬ y = c) : InT false c (l ++ [y]) := ⟨fun h => (by cases h), fun hm => by
  rcases List.mem_append.1 hm with h2 | h2
  · exact h.2 h2
  · exact absurd (List.mem_singleton.1 h2).symm hy⟩
theorem InT.yes {t : Bool} {c : Crd} {l : List Crd} (h : InT t c l) (hc : c ∈ l) : t = true := h.2 hc
structure Short (o : Int) (w : World) (B : Nat) (P : Nat → Prop) (gs gl k : Nat) (b : LB) (r : RB) (las : List Nat) (xs : List Dd) : Prop where
  s : BookP w P gs (2 * k) b
  lk : Lk b r
  inv : Inv b
  ow : b.own = o
  low : ∀ x, P x → B ≤ x
  ng : ¬ P gl
  glB : B ≤ gl
  gll : gl < w.heap.size
  row : w.heap[gl]? = some (.cells (arr las) 45 (0, 0))
  ln : las.length = 17
  by' : ∀ d h, h ∈ b.hl d → ∃ (y j : Nat) (x : Dd), d = (y : Int) ∧ las[y]? = some (j + 1) ∧ xs[j]? = some x ∧ h.c ∈ x.l.take 40 ∧ h.u = addT x.a 56 ∧ 0 ≤ x.a ∧ x.a ≤ 1099511627776
section
variable {o : Int} {w w' : World} {B : Nat} {P : Nat → Prop} {gs gl k : Nat} {b : LB} {r : RB} {las : List Nat} {xs : List Dd}
theorem Short.below (h : Short o w B P gs gl k b r las xs) (hb : Below w.heap.size w w') : Short o w' B P gs gl k b r las xs :=
  ⟨h.s.below hb, h.lk, h.inv, h.ow, h.low, h.ng, h.glB, Nat.lt_of_lt_of_le h.gll hb.size, (hb.block _ h.gll).trans h.row, h.ln, h.by'⟩
theorem short_new {w w2 : World} {g : Nat} (ho : 1 ≤ o ∧ o ≤ 16) (hb : Below w.heap.size w w2) (h : BookP w2 (plusP (fun _ => False) w.heap.size w2.heap.size) g 0 (LB.new o)) :
    Short o (w2.alloc (.cells (arr (List.replicate 17 0)) 45)) w.heap.size (plusP (fun _ => False) w.heap.size w2.heap.size) g w2.heap.size 0 (LB.new o) ⟨o, [], []⟩ (List.replicate 17 0) xs := by
  have hP : ∀ x, plusP (fun _ => False) w.heap.size w2.heap.size x → w.heap.size ≤ x ∧ x < w2.heap.size := fun x hx => hx.elim (fun h => h.elim) id
  exact ⟨h.below ((Below.refl _ _).alloc (Nat.le_refl _) _), lk_new o, inv_new ho, rfl, fun x hx => (hP x hx).1, fun hx => by have := (hP _ hx).2; omega, hb.size, by simp, heap_alloc_new w2 _, rfl, fun d h hh => by cases hh⟩
theorem Short.hear {x : Dd} (h : Short o w B P gs gl k b r las xs) (_hx : xs[k]? = some x) (_hk : x.kind = 1) (h6 : BookP w' P gs (2 * k + 1) (b.hear x.d x.a).2) (g6 : Grew w w' P) : Short o w' B P gs gl (k + 1) (b.hear x.d x.a).2 (r.hear x.d x.a).2 las xs := by
  obtain ⟨_, l2, l3⟩ := h.lk.hear h.inv x.d x.a
  have hs := g6.size
  have hh : (b.hear x.d x.a).2.hl = b.hl := by unfold LB.hear; split <;> rfl
  have ho : (b.hear x.d x.a).2.own = b.own := by unfold LB.hear; split <;> rfl
  exact ⟨h6.mono (by omega), l2, l3, ho.trans h.ow, h.low, h.ng, h.glB, Nat.lt_of_lt_of_le h.gll hs, (g6.block _ h.gll h.ng).trans h.row, h.ln, by rw [hh]; exact h.by'⟩
theorem Short.learn {x : Dd} (h : Short o w B P gs gl k b r las xs) (hx : xs[k]? = some x) (h6 : BookP w' (plusP P w.heap.size w'.heap.size) gs (2 * k + 2) (b.learn x.d (countsC (x.l.take 40)) x.a).2) (g6 : Grew w w' P) :
    ((b.learn x.d (countsC (x.l.take 40)) x.a).1 = 0 → ∃ y : Nat, x.d = (y : Int) ∧ 1 ≤ y ∧ y ≤ 16 ∧ w'.frozen? ⟨gl, y, none⟩ = false ∧ (∃ v, w'.cell? ⟨gl, y, none⟩ = some v) ∧ Short o (w'.setCell ⟨gl, y, none⟩ (.int .i64 ((k : Int) + 1))) B (plusP P w.heap.size w'.heap.size) gs gl (k + 1) (b.learn x.d (countsC (x.l.take 40)) x.a).2 (r.learn x.d (countsC (x.l.take 40)) x.a).2 (las.set y (k + 1)) xs) ∧
    ((b.learn x.d (countsC (x.l.take 40)) x.a).1 ≠ 0 → Short o w' B (plusP P w.heap.size w'.heap.size) gs gl (k + 1) (b.learn x.d (countsC (x.l.take 40)) x.a).2 (r.learn x.d (countsC (x.l.take 40)) x.a).2 las xs) := by
  obtain ⟨out, hco⟩ := has_counts (x.l.take 40)
  obtain ⟨_, l2, l3⟩ := h.lk.learnC h.inv x.d x.a hco
  have hs := g6.size
  have ho : (b.learn x.d (countsC (x.l.take 40)) x.a).2.own = b.own := by unfold LB.learn; split <;> (try split) <;> rfl
  have hng : ¬ plusP P w.heap.size w'.heap.size gl := fun hp => hp.elim h.ng (fun hp => by have := h.gll; omega)
  have hlow : ∀ z, plusP P w.heap.size w'.heap.size z → B ≤ z := fun z hz => hz.elim (h.low z) (fun hz => by have := h.glB; have := h.gll; omega)
  have hrow : w'.heap[gl]? = some (.cells (arr las) 45 (0, 0)) := (g6.block _ h.gll h.ng).trans h.row
  refine ⟨fun h0 => ?_, fun h0 => ?_⟩
  · have hyes : mayH b.own x.d x.a = true ∧ (b.st x.d).getD 0 ≤ x.a ∧ (leasedP x.d (addT x.a 56) (countsC (x.l.take 40))).length ≤ 24 := by
      unfold LB.learn at h0
      split at h0
      · rename_i hc
        split at h0
        · rename_i hl; exact ⟨hc.1, hc.2, hl⟩
        · exact absurd h0 (by simp)
      · exact absurd h0 (by simp)
    obtain ⟨hm, hst, hle⟩ := hyes
    have hm2 := (mayH_iff _ _ _).1 hm
    obtain ⟨y, hy⟩ : ∃ y : Nat, x.d = (y : Int) := ⟨x.d.toNat, by omega⟩
    have he : (b.learn x.d (countsC (x.l.take 40)) x.a).2 = ⟨b.own, updF b.st x.d (some x.a), updF b.hl x.d (leasedP x.d (addT x.a 56) (countsC (x.l.take 40)))⟩ := by rw [LB.learn_yes hm hst hle]
    refine ⟨y, hy, by omega, by omega, frozen_of_row _ _ _ _ _ hrow, ⟨_, (cell_of_row w' gl y _ _ (0, 0) hrow).trans (arr_at (List.getElem?_eq_getElem (by rw [h.ln]; omega)))⟩, ⟨(h6.grew (Grew.of_gro (X := fun z => z = gl) (gro_set1 w' gl y _) rfl) (fun z hz hp => by subst hz; exact hng hp)).mono (by omega), l2, l3, ho.trans h.ow, hlow, hng, h.glB, ?_, ?_, ?_, ?_⟩⟩
    · rw [size_setCell']; exact Nat.lt_of_lt_of_le h.gll hs
    · rw [heap_setCell_same w' gl y _ _ _ hrow, arr_set]
    · rw [List.length_set]; exact h.ln
    · rw [he]
      intro d hd hh
      have hh : hd ∈ updF b.hl x.d (leasedP x.d (addT x.a 56) (countsC (x.l.take 40))) d := hh
      by_cases e : d = x.d
      · subst e
        rw [updF_at] at hh
        obtain ⟨m1, m2, m3⟩ := leasedP_mem hh
        exact ⟨y, k, x, hy, by rw [List.getElem?_set]; simp [h.ln]; omega, hx, countsC_mem m1, m3, hm2.2.2.1, hm2.2.2.2⟩
      · rw [updF_ne _ _ e] at hh
        obtain ⟨z, j, x', e1, e2, e3⟩ := h.by' d hd hh
        refine ⟨z, j, x', e1, ?_, e3⟩
        rw [List.getElem?_set, if_neg (fun hyz => e (by rw [e1, hy, hyz]))]
        exact e2
  · have he : (b.learn x.d (countsC (x.l.take 40)) x.a).2 = b := by
      unfold LB.learn at h0 ⊢
      split
      · rename_i hc
        rw [if_pos hc] at h0
        split
        · rename_i hl; rw [if_pos hl] at h0; exact absurd rfl h0
        · rfl
      · rfl
    exact ⟨h6.mono (by omega), l2, l3, ho.trans h.ow, hlow, hng, h.glB, Nat.lt_of_lt_of_le h.gll hs, hrow, h.ln, by rw [he]; exact h.by'⟩
theorem Short.told {h : Hl} {now : Int} {p : Nat} (s : Short o w B P gs gl k b r las xs) (hh : (b.held now)[p]? = some h) :
    ∃ (y j : Nat) (x : Dd), h.c.d = (y : Int) ∧ 1 ≤ y ∧ y ≤ 16 ∧ (y : Int) ≠ o ∧ las[y]? = some (j + 1) ∧ xs[j]? = some x ∧ j < xs.length ∧ h.c ∈ x.l.take 40 ∧ h.u ≤ x.a + 56 ∧ 0 ≤ x.a ∧ now < h.u ∧ x.a ≤ 1099511627776 := by
  have hm := List.mem_of_getElem? hh
  unfold LB.held liveL at hm
  obtain ⟨hm1, hm2⟩ := List.mem_filter.1 hm
  obtain ⟨i, hi, hm3⟩ := allD_mem.1 hm1
  obtain ⟨y, j, x, e1, e2, e3, e4, e5, e6, e7⟩ := s.by' _ h hm3
  obtain ⟨q1, q2, q3, q4, q5, q6⟩ := s.inv.hd _ h hm3
  refine ⟨y, j, x, q4.trans e1, by omega, by omega, by rw [← e1, ← s.ow]; exact q3, e2, e3, (List.getElem?_eq_some_iff.1 e3).1, e4, by rw [e5]; exact addT_le e6 e7, e6, ?_, e7⟩
  unfold overB at hm2
  simp only [Bool.not_eq_true', decide_eq_false_iff_not] at hm2
  rw [tk_id q5 q6] at hm2
  unfold tk at hm2
  split at hm2
  · omega
  · split at hm2 <;> omega
end
end Go.Proofs.Ytkimhdcngagmaaa.Sh
