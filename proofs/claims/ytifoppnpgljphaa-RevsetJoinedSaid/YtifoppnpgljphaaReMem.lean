/-
  Memory of sets of revocations: headers of rows, rows in given blocks, lists of lists, the document's set.
-/
import Derived.Test.YtifoppnpgljphaaReMath
import Derived.Test.YtifoppnpgljphaaVePgB
namespace Go.Proofs.Ytifoppnpgljphaa.Sh
open Go Go.RowKit

set_option linter.unusedSimpArgs false
set_option linter.unusedVariables false
/-- A slice's header. -/
structure Hd where
  A : Option Addr
  n : Nat
  c : Nat
def Hd.val (h : Hd) : Value := .slice h.A h.n h.c
def encH : Enc Hd := ⟨1, fun h => [h.val], by omega, fun _ => rfl, fun x u hu => by simp at hu; rcases hu with rfl; rfl⟩
theorem slH : SlN Try.prog 31 30 1 24 := by
  obtain ⟨i0, hi0, hz0, hz1, hz2⟩ := info_parts (P := Try.prog) (e := 30) (z := .slice none 0 0) (size := 1) (bytes := 24) (by kernel_rfl)
  exact ⟨Try.underlying31, ⟨i0, _, hi0, hz0, hz1, hz2, rfl⟩, by omega⟩
theorem ev_hd (l : List Hd) : ev encH l = l.map Hd.val := by
  induction l with
  | nil => rfl
  | cons x t ih => rw [ev, ih]; rfl
theorem ev_int (l : List Int) : ev encN l = l.map fun x => Value.int .i64 x := by
  induction l with
  | nil => rfl
  | cons x t ih => rw [ev, ih]; rfl
theorem Els.hd {w : World} {B : Nat} {A : Option Addr} {l : List Hd} {j : Nat} {n : Hd} (h : Els encH w B A l) (hj : l[j]? = some n) : ∃ ad, A = some ad ∧ ad.block < B ∧ w.cell? (ad.add j) = some n.val := by
  obtain ⟨ad, aj, e, hb, ea, _, h0, _⟩ := h.get hj
  refine ⟨ad, e, hb, ?_⟩
  have := h0 _ rfl
  rw [← ea, show encH.k = 1 from rfl, Nat.mul_one] at this
  exact this
/-- A row, in one of the blocks P. -/
structure RowAt (w : World) (P : Nat → Prop) (h : Hd) (l : List Int) : Prop where
  len : l.length = h.n
  cap : h.n ≤ h.c
  max : h.c ≤ 9223372036854775807
  at_ : 0 < l.length → ∃ ad, h.A = some ad ∧ P ad.block ∧ ad.block < w.heap.size ∧ ∀ i u, (ev encN l)[i]? = some u → w.cell? (ad.add i) = some u
theorem RowAt.nil (w : World) (P : Nat → Prop) : RowAt w P ⟨none, 0, 0⟩ [] := ⟨rfl, Nat.le_refl _, by show (0:Nat) ≤ _; omega, fun h => absurd h (by simp)⟩
theorem RowAt.els {w : World} {P : Nat → Prop} {h : Hd} {l : List Int} (r : RowAt w P h l) : Els encN w w.heap.size h.A l := fun hn => by
  obtain ⟨ad, e, _, hb, hc⟩ := r.at_ hn
  exact ⟨ad, e, hb, hc⟩
theorem RowAt.kept {w w' : World} {P Q : Nat → Prop} {h : Hd} {l : List Int} (r : RowAt w P h l) (hk : ∀ b, P b → b < w.heap.size → w'.heap[b]? = w.heap[b]?) (hs : w.heap.size ≤ w'.heap.size) (hq : ∀ b, P b → b < w.heap.size → Q b) : RowAt w' Q h l :=
  ⟨r.len, r.cap, r.max, fun hn => by
    obtain ⟨ad, e, hp, hb, hc⟩ := r.at_ hn
    refine ⟨ad, e, hq _ hp hb, by omega, fun i u hu => ?_⟩
    rw [← hc i u hu]
    unfold World.cell?
    rw [block_add, hk _ hp hb]⟩
theorem RowAt.own {w : World} {B : Nat} {P : Nat → Prop} {A : Option Addr} {n c : Nat} {l : List Int} (h : Own (E := encN) w B 3 (.slice A n c) l) (hn : l.length = n) (hP : ∀ b, B ≤ b → P b) : RowAt w P ⟨A, n, c⟩ l := by
  obtain ⟨A', c', e, h1, h2, h3⟩ := h.els
  simp only [Value.slice.injEq] at e
  obtain ⟨rfl, rfl, rfl⟩ := e
  refine ⟨rfl, h1, h2, fun h0 => ?_⟩
  obtain ⟨ad, e, hb, hc⟩ := h3 h0
  refine ⟨ad, e, hP _ ?_, hb, hc⟩
  subst e
  exact (h.lt _ rfl).1
/-- Lists of numbers, from A on, below block B. -/
def Lls (w : World) (B : Nat) (A : Option Addr) (ll : List (List Int)) : Prop :=
  ∃ hs : List Hd, hs.length = ll.length ∧ Els encH w B A hs ∧ ∀ (i : Nat) (h : Hd) (l : List Int), hs[i]? = some h → ll[i]? = some l → l.length = h.n ∧ h.n ≤ h.c ∧ h.c ≤ 9223372036854775807 ∧ Els encN w B h.A l
theorem Lls.nil (w : World) (B : Nat) (A : Option Addr) : Lls w B A [] := ⟨[], rfl, Els.nil, fun i h l hh => by simp at hh⟩
theorem Lls.below {w w' : World} {B : Nat} {A : Option Addr} {ll : List (List Int)} (h : Lls w B A ll) (hb : Below B w w') : Lls w' B A ll := by
  obtain ⟨hs, h1, h2, h3⟩ := h
  exact ⟨hs, h1, h2.below hb, fun i x l hx hl => by obtain ⟨a, b, c, d⟩ := h3 i x l hx hl; exact ⟨a, b, c, d.below hb⟩⟩
theorem Lls.more {w : World} {B B' : Nat} {A : Option Addr} {ll : List (List Int)} (h : Lls w B A ll) (hb : B ≤ B') : Lls w B' A ll := by
  obtain ⟨hs, h1, h2, h3⟩ := h
  exact ⟨hs, h1, h2.more hb, fun i x l hx hl => by obtain ⟨a, b, c, d⟩ := h3 i x l hx hl; exact ⟨a, b, c, d.more hb⟩⟩
theorem Lls.row {w : World} {B : Nat} {A : Option Addr} {ll : List (List Int)} (h : Lls w B A ll) {i : Nat} {l : List Int} (hi : ll[i]? = some l) : ∃ ad A' n c, A = some ad ∧ ad.block < B ∧ w.cell? (ad.add i) = some (.slice A' n c) ∧ l.length = n ∧ n ≤ c ∧ c ≤ 9223372036854775807 ∧ Els encN w B A' l := by
  obtain ⟨hs, h1, h2, h3⟩ := h
  obtain ⟨x, hx⟩ : ∃ x, hs[i]? = some x := ⟨_, List.getElem?_eq_getElem (by rw [h1]; exact (List.getElem?_eq_some_iff.1 hi).1)⟩
  obtain ⟨ad, e, hb, hc⟩ := h2.hd hx
  obtain ⟨k1, k2, k3, k4⟩ := h3 i x l hx hi
  exact ⟨ad, x.A, x.n, x.c, e, hb, hc, k1, k2, k3, k4⟩
/-- The document's set: g is its struct, gL the list of its rows, which lie in blocks P. -/
structure SetR (w : World) (P : Nat → Prop) (g gL : Nat) (S : Nat → List Int) : Prop where
  row : ∃ c, 16 ≤ c ∧ c ≤ 9223372036854775807 ∧ w.heap[g]? = some (.cells #[.slice (some ⟨gL, 0, none⟩) 16 c] 57 (0, 0))
  list : ∃ cs : Array Value, w.heap[gL]? = some (.cells cs 30 (0, 0)) ∧ ∀ i, i < 16 → ∃ h : Hd, cs[i]? = some h.val ∧ RowAt w P h (S i)
  ng : ¬ P g
  nL : ¬ P gL
  ne : g ≠ gL
  ok : OkS S
theorem SetR.lt {w : World} {P : Nat → Prop} {g gL : Nat} {S : Nat → List Int} (h : SetR w P g gL S) : g < w.heap.size ∧ gL < w.heap.size := by
  obtain ⟨c, _, _, hg⟩ := h.row
  obtain ⟨cs, hL, _⟩ := h.list
  exact ⟨(Array.getElem?_eq_some_iff.1 hg).1, (Array.getElem?_eq_some_iff.1 hL).1⟩
theorem SetR.kept {w w' : World} {P Q : Nat → Prop} {g gL : Nat} {S : Nat → List Int} (h : SetR w P g gL S) (hk : ∀ b, (P b ∨ b = g ∨ b = gL) → b < w.heap.size → w'.heap[b]? = w.heap[b]?) (hs : w.heap.size ≤ w'.heap.size)
    (hq : ∀ b, P b → b < w.heap.size → Q b) (n1 : ¬ Q g) (n2 : ¬ Q gL) : SetR w' Q g gL S := by
  have hl := h.lt
  obtain ⟨c, h1, h2, hg⟩ := h.row
  obtain ⟨cs, hL, hr⟩ := h.list
  exact ⟨⟨c, h1, h2, (hk g (.inr (.inl rfl)) hl.1).trans hg⟩, ⟨cs, (hk gL (.inr (.inr rfl)) hl.2).trans hL, fun i hi => by
    obtain ⟨x, hx, r⟩ := hr i hi
    exact ⟨x, hx, r.kept (fun b hp hb => hk b (.inl hp) hb) hs hq⟩⟩, n1, n2, h.ne, h.ok⟩
theorem SetR.below {w w' : World} {P : Nat → Prop} {g gL : Nat} {S : Nat → List Int} (h : SetR w P g gL S) (hb : Below w.heap.size w w') : SetR w' P g gL S :=
  h.kept (fun b _ hl => hb.block b hl) hb.size (fun _ hp _ => hp) h.ng h.nL
theorem SetR.grown {w w' : World} {P : Nat → Prop} {g gL x : Nat} {S : Nat → List Int} (h : SetR w P g gL S) (hg : w.grownBy w' (some x)) (n0 : ¬ P x) (n1 : x ≠ g) (n2 : x ≠ gL) : SetR w' P g gL S :=
  h.kept (fun b hp hl => hg.block b hl (fun e => by injection e with e; subst e; exact hp.elim n0 (fun hp => hp.elim n1 n2))) hg.size (fun _ hp _ => hp) h.ng h.nL
/-- What the walk asks of one row. -/
theorem SetR.at {w : World} {P : Nat → Prop} {g gL : Nat} {S : Nat → List Int} (h : SetR w P g gL S) {i : Nat} (hi : i < 16) : ∃ (c n k : Nat) (A : Option Addr), 16 ≤ c ∧ c ≤ 9223372036854775807 ∧ w.cell? ⟨g, 0, none⟩ = some (.slice (some ⟨gL, 0, none⟩) 16 c) ∧
    w.cell? ⟨gL, i, none⟩ = some (.slice A n k) ∧ RowAt w P ⟨A, n, k⟩ (S i) := by
  obtain ⟨c, h1, h2, hg⟩ := h.row
  obtain ⟨cs, hL, hr⟩ := h.list
  obtain ⟨x, hx, r⟩ := hr i hi
  refine ⟨c, x.n, x.c, x.A, h1, h2, by rw [cell_of_row _ _ 0 _ _ (0, 0) hg]; rfl, ?_, r⟩
  rw [cell_of_row _ _ i _ _ (0, 0) hL]
  exact hx
/-- One row is replaced. -/
theorem SetR.put {w : World} {P : Nat → Prop} {g gL : Nat} {S : Nat → List Int} (h : SetR w P g gL S) {i : Nat} (hi : i < 16) {x : Hd} {l : List Int} (r : RowAt w P x l) (hl : OkR l) :
    SetR (w.setCell ⟨gL, i, none⟩ x.val) P g gL (up S i l) ∧ w.grownBy (w.setCell ⟨gL, i, none⟩ x.val) (some gL) := by
  have hlt := h.lt
  obtain ⟨c, h1, h2, hg⟩ := h.row
  obtain ⟨cs, hL, hr⟩ := h.list
  have hother : ∀ b, b ≠ gL → (w.setCell ⟨gL, i, none⟩ x.val).heap[b]? = w.heap[b]? := fun b hb => heap_setCell_other w ⟨gL, i, none⟩ b _ (fun e => hb (by simp [e]))
  have hsz : (w.setCell ⟨gL, i, none⟩ x.val).heap.size = w.heap.size := by simp
  have hk : ∀ {y : Hd} {m : List Int}, RowAt w P y m → RowAt (w.setCell ⟨gL, i, none⟩ x.val) P y m := fun q => q.kept (fun b hp _ => hother b (fun e => h.nL (e ▸ hp))) (by omega) (fun _ hp _ => hp)
  refine ⟨⟨⟨c, h1, h2, (hother g h.ne).trans hg⟩, ⟨cs.setIfInBounds i x.val, heap_setCell_same w gL i cs _ _ hL, fun j hj => ?_⟩, h.ng, h.nL, h.ne, h.ok.up hl⟩, ⟨rfl, rfl, rfl, by simp, fun k _ hk => hother k (fun e => hk (by simp [e]))⟩⟩
  by_cases e : j = i
  · subst e
    obtain ⟨y, hy, _⟩ := hr j hj
    refine ⟨x, ?_, by rw [up_at]; exact hk r⟩
    rw [Array.getElem?_setIfInBounds_self_of_lt (Array.getElem?_eq_some_iff.1 hy).1]
  · obtain ⟨y, hy, q⟩ := hr j hj
    refine ⟨y, ?_, by rw [up_ne _ _ e]; exact hk q⟩
    rw [Array.getElem?_setIfInBounds_ne (fun e2 => e e2.symm)]
    exact hy
/-- A struct of an ID behind a pointer. -/
def IdAt (w : World) (g : Nat) (d q : Int) : Prop := w.heap[g]? = some (.cells #[.int .i64 d, .int .i64 q] 29 (0, 0))
end Go.Proofs.Ytifoppnpgljphaa.Sh
