/-
  Lists that are written over: headers stay, rows stay rows; deeds done one after the other.
-/
import Derived.Test.YtifoppnpgljphaaReLawD
namespace Go.Proofs.Ytifoppnpgljphaa.Sh
open Go Go.RowKit

set_option linter.unusedSimpArgs false
set_option linter.unusedVariables false
/-- A row of numbers that may be written to, in a block from B on, below U. -/
def OpY (w : World) (B U : Nat) (A : Option Addr) (n : Nat) : Prop := 0 < n → ∃ g, A = some ⟨g, 0, none⟩ ∧ B ≤ g ∧ g < U ∧ ∃ cs : Array Value, w.heap[g]? = some (.cells cs 3 (0, 0)) ∧ n ≤ cs.size
theorem OpY.set {w : World} {B U n : Nat} {A : Option Addr} (h : OpY w B U A n) (g j : Nat) (u : Value) : OpY (w.setCell ⟨g, j, none⟩ u) B U A n := fun hn => by
  obtain ⟨g', e, h1, h2, cs, h3, h4⟩ := h hn
  by_cases hg : g = g'
  · subst hg
    exact ⟨_, e, h1, h2, _, heap_setCell_same w _ j _ _ u h3, by simpa using h4⟩
  · exact ⟨g', e, h1, h2, cs, (heap_setCell_other w ⟨g, j, none⟩ g' u (fun e => hg (by simpa using e.symm))).trans h3, h4⟩
theorem OpY.grew {w w' : World} {B U n : Nat} {X : Nat → Prop} {A : Option Addr} (h : OpY w B U A n) (hg : Grew w w' X) (hx : ∀ b, B ≤ b → b < U → ¬ X b) : OpY w' B U A n := fun hn => by
  obtain ⟨g', e, h1, h2, cs, h3, h4⟩ := h hn
  exact ⟨g', e, h1, h2, cs, (hg.block g' (Array.getElem?_eq_some_iff.1 h3).1 (hx g' h1 h2)).trans h3, h4⟩
theorem Frs.opy {w : World} {B n : Nat} {A : Option Addr} {l : List Int} (h : Frs w B A n l) : OpY w B w.heap.size A n := fun hn => by
  obtain ⟨g, cs, rfl, h1, h2, _⟩ := h.row hn
  exact ⟨g, rfl, (h.lies _ rfl).1, (h.lies _ rfl).2, cs, h1, h2⟩
/-- Lists whose rows may be written to. -/
structure WrLL (w : World) (B U : Nat) (A : Option Addr) (n : Nat) (hs : List Hd) : Prop where
  len : hs.length = n
  rows : 0 < n → ∃ (g : Nat) (cs : Array Value), A = some ⟨g, 0, none⟩ ∧ B ≤ g ∧ g < U ∧ w.heap[g]? = some (.cells cs 30 (0, 0)) ∧ ∀ (i : Nat) (h : Hd), hs[i]? = some h → cs[i]? = some h.val ∧ h.n ≤ h.c ∧ h.c ≤ 9223372036854775807 ∧ OpY w B U h.A h.n
theorem WrLL.grew {w w' : World} {B U n : Nat} {X : Nat → Prop} {A : Option Addr} {hs : List Hd} (h : WrLL w B U A n hs) (hg : Grew w w' X) (hx : ∀ b, B ≤ b → b < U → ¬ X b) : WrLL w' B U A n hs :=
  ⟨h.len, fun h0 => by
    obtain ⟨g, cs, e, h1, h2, h3, h4⟩ := h.rows h0
    exact ⟨g, cs, e, h1, h2, (hg.block g (Array.getElem?_eq_some_iff.1 h3).1 (hx g h1 h2)).trans h3, fun i x hx' => by
      obtain ⟨q1, q2, q3, q4⟩ := h4 i x hx'
      exact ⟨q1, q2, q3, q4.grew hg hx⟩⟩⟩
/-- A number of a row is written over. -/
theorem WrLL.set {w : World} {B U n : Nat} {A : Option Addr} {hs : List Hd} (h : WrLL w B U A n hs) {i : Nat} {x : Hd} (hi : hs[i]? = some x) {g : Nat} (hA : x.A = some ⟨g, 0, none⟩) (hn : 0 < x.n) (j : Nat) (u : Value) :
    WrLL (w.setCell ⟨g, j, none⟩ u) B U A n hs ∧ Grew w (w.setCell ⟨g, j, none⟩ u) (fun b => B ≤ b ∧ b < U) := by
  have hn0 : 0 < n := by rw [← h.len]; exact Nat.lt_of_le_of_lt (Nat.zero_le _) (List.getElem?_eq_some_iff.1 hi).1
  obtain ⟨gA, cs, e, h1, h2, h3, h4⟩ := h.rows hn0
  obtain ⟨_, _, _, q4⟩ := h4 i x hi
  obtain ⟨g', e', k1, k2, cs', k3, k4⟩ := q4 hn
  rw [hA] at e'
  injection e' with e'
  have hgg : g = g' := by injection e'
  subst hgg
  have hne : gA ≠ g := fun e2 => by
    subst e2
    rw [h3] at k3
    simp only [Option.some.injEq, Obj.cells.injEq] at k3
    exact absurd k3.2.1 (by decide)
  refine ⟨⟨h.len, fun _ => ⟨gA, cs, e, h1, h2, (heap_setCell_other w ⟨g, j, none⟩ gA u (fun e2 => hne (by simpa using e2))).trans h3, fun i' y hy => by
    obtain ⟨q1, q2, q3, q4⟩ := h4 i' y hy
    exact ⟨q1, q2, q3, q4.set g j u⟩⟩⟩, Grew.of_gro (gro_set1 w g j u) ⟨k1, k2⟩⟩
theorem WrLL.at {w : World} {B U n : Nat} {A : Option Addr} {hs : List Hd} (h : WrLL w B U A n hs) {i : Nat} (hi : i < n) : ∃ (ad : Addr) (x : Hd), A = some ad ∧ hs[i]? = some x ∧ w.cell? (ad.add i) = some (.slice x.A x.n x.c) ∧ x.n ≤ x.c ∧ x.c ≤ 9223372036854775807 ∧ OpY w B U x.A x.n := by
  obtain ⟨x, hx⟩ : ∃ x, hs[i]? = some x := ⟨_, List.getElem?_eq_getElem (by rw [h.len]; exact hi)⟩
  obtain ⟨gA, cs, e, h1, h2, h3, h4⟩ := h.rows (by omega)
  obtain ⟨q1, q2, q3, q4⟩ := h4 i x hx
  refine ⟨_, x, e, hx, ?_, q2, q3, q4⟩
  rw [addr_rowN, cell_of_row _ _ i _ _ (0, 0) h3]
  exact q1
theorem FrsLL.wr {w : World} {B n : Nat} {A : Option Addr} {ll : List (List Int)} (h : FrsLL w B A n ll) : ∃ hs, WrLL w B w.heap.size A n hs := by
  rcases Nat.eq_zero_or_pos n with h0 | h0
  · exact ⟨[], by rw [h0]; rfl, fun h => by omega⟩
  · obtain ⟨g, cs, rfl, hb, hg, hr⟩ := h.rows h0
    have hd : ∀ i : Fin ll.length, ∃ x : Hd, cs[i.1]? = some x.val ∧ (ll[i.1]).length = x.n ∧ x.n ≤ x.c ∧ x.c ≤ 9223372036854775807 ∧ Frs w B x.A x.n ll[i.1] := fun i => hr i.1 ll[i.1] (List.getElem?_eq_getElem i.2)
    refine ⟨List.ofFn fun i => (hd i).choose, by rw [List.length_ofFn]; exact h.len, fun _ => ⟨g, cs, rfl, hb, (Array.getElem?_eq_some_iff.1 hg).1, hg, fun i x hx => ?_⟩⟩
    rw [List.getElem?_ofFn] at hx
    split at hx
    · rename_i hi
      injection hx with hx
      subst hx
      obtain ⟨k1, k2, k3, k4, k5⟩ := (hd ⟨i, hi⟩).choose_spec
      exact ⟨k1, k3, k4, k5.opy⟩
    · cases hx
theorem own_opy {w : World} {B : Nat} {x : Hd} {l : List Int} (h : Own (E := encN) w B 3 x.val l) (hl : l.length = x.n) : x.n ≤ x.c ∧ x.c ≤ 9223372036854775807 ∧ OpY w B w.heap.size x.A x.n := by
  have hf : Frs w B x.A x.n l := Own.frs (c := x.c) h hl
  obtain ⟨A', c', e, q1, q2, _⟩ := h.els
  have hv : x.val = .slice x.A x.n x.c := rfl
  rw [hv] at e
  simp only [Value.slice.injEq] at e
  exact ⟨by omega, by omega, hf.opy⟩
theorem OwnLL.wr {w : World} {B n c : Nat} {A : Option Addr} {ll : List (List Int)} (h : OwnLL w B (.slice A n c) ll) (hn : ll.length = n) : ∃ hs, WrLL w B w.heap.size A n hs := by
  obtain ⟨hs, h1, h2, h3⟩ := h
  refine ⟨hs, by omega, fun h0 => ?_⟩
  rcases h1.2 with ⟨e, he⟩ | ⟨g, cap, cur, e, k1, k2, k3, k4, k5, k6⟩
  · omega
  · simp only [Value.slice.injEq] at e
    refine ⟨g, cur, e.1, k1, (Array.getElem?_eq_some_iff.1 k2).1, k2, fun i x hx => ?_⟩
    obtain ⟨l, hl⟩ : ∃ l, ll[i]? = some l := ⟨_, List.getElem?_eq_getElem (by have := (List.getElem?_eq_some_iff.1 hx).1; omega)⟩
    obtain ⟨q1, q2⟩ := h3 i x l hx hl
    obtain ⟨r1, r2, r3⟩ := own_opy q2 q1
    refine ⟨?_, r1, r2, r3⟩
    have hi2 : (ev encH hs)[i]? = some x.val := by rw [ev_hd, List.getElem?_map, hx]; rfl
    rw [← k6, List.getElem?_take] at hi2
    split at hi2
    · simpa using hi2
    · cases hi2
theorem OwnLL.llsQ {w : World} {B n c : Nat} {A : Option Addr} {ll : List (List Int)} (h : OwnLL w B (.slice A n c) ll) : LlsQ w (fun b => B ≤ b) A ll := by
  obtain ⟨hs, h1, h2, h3⟩ := h
  refine ⟨hs, h2, ElsQ.of_own h1 (fun b hb => hb), fun i x l hx hl => ?_⟩
  obtain ⟨q1, q2⟩ := h3 i x l hx hl
  obtain ⟨r1, r2, _⟩ := own_opy q2 q1
  exact ⟨q1, r1, r2, ElsQ.of_own (c := x.c) q2 (fun b hb => hb)⟩
theorem cutD_cutD (x : Deed) : cutD (cutD x) = cutD x := by
  unfold cutD cutL
  simp only [Deed.mk.injEq, true_and]
  refine ⟨by rw [List.take_take, Nat.min_self], ?_⟩
  rw [← List.map_take, List.map_map, List.take_take]
  refine List.map_congr_left fun l _ => ?_
  show (l.take 40).take 40 = l.take 40
  rw [List.take_take, Nat.min_self]
/-- Deeds done one after the other. -/
noncomputable def doneS (S : Nat → List Int) : List Deed → Nat → List Int
  | [] => S
  | x :: t => doneS (deedS S (cutD x)) t
theorem doneS_snoc (S : Nat → List Int) (xs : List Deed) (x : Deed) : doneS S (xs ++ [x]) = deedS (doneS S xs) (cutD x) := by
  induction xs generalizing S with
  | nil => rfl
  | cons y t ih => exact ih _
end Go.Proofs.Ytifoppnpgljphaa.Sh
