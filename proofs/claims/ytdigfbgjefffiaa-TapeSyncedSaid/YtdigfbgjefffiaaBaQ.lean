/-
  Elements in given blocks; what may turn.
-/
import Derived.Test.YtdigfbgjefffiaaBaEnc
namespace Go.Proofs.Ytdigfbgjefffiaa.Sh
open Go Go.RowKit

set_option linter.unusedSimpArgs false
set_option linter.unusedVariables false
/-- Elements from A on, in one of the blocks Q. -/
def ElsQ {α : Type} (E : Enc α) (w : World) (Q : Nat → Prop) (A : Option Addr) (l : List α) : Prop :=
  0 < l.length → ∃ ad, A = some ad ∧ Q ad.block ∧ ad.block < w.heap.size ∧ ∀ i u, (ev E l)[i]? = some u → w.cell? (ad.add i) = some u
theorem ElsQ.els {α : Type} {E : Enc α} {w : World} {Q : Nat → Prop} {A : Option Addr} {l : List α} (h : ElsQ E w Q A l) : Els E w w.heap.size A l := fun hn => by
  obtain ⟨ad, e, _, hb, hc⟩ := h hn
  exact ⟨ad, e, hb, hc⟩
theorem ElsQ.kept {α : Type} {E : Enc α} {w w' : World} {Q : Nat → Prop} {A : Option Addr} {l : List α} (h : ElsQ E w Q A l) (hk : ∀ b, Q b → b < w.heap.size → w'.heap[b]? = w.heap[b]?) (hs : w.heap.size ≤ w'.heap.size) : ElsQ E w' Q A l := fun hn => by
  obtain ⟨ad, e, hq, hb, hc⟩ := h hn
  refine ⟨ad, e, hq, by omega, fun i u hu => ?_⟩
  rw [← hc i u hu]
  unfold World.cell?
  rw [block_add, hk _ hq hb]
theorem ElsQ.imp {α : Type} {E : Enc α} {w : World} {Q R : Nat → Prop} {A : Option Addr} {l : List α} (h : ElsQ E w Q A l) (hq : ∀ b, Q b → b < w.heap.size → R b) : ElsQ E w R A l := fun hn => by
  obtain ⟨ad, e, q, hb, hc⟩ := h hn
  exact ⟨ad, e, hq _ q hb, hb, hc⟩
theorem ElsQ.nil {α : Type} {E : Enc α} {w : World} {Q : Nat → Prop} {A : Option Addr} : ElsQ E w Q A [] := fun h => absurd h (by simp)
theorem kept_gro {w w' : World} {Q : Nat → Prop} {x : Nat} (hg : w.grownBy w' (some x)) (hx : ¬ Q x) : ∀ b, Q b → b < w.heap.size → w'.heap[b]? = w.heap[b]? := fun b hb hl => hg.block b hl (fun e => by injection e with e; subst e; exact hx hb)
/-- Nothing of w turns but blocks X. -/
structure Grew (w w' : World) (X : Nat → Prop) : Prop where
  os : w'.os = w.os
  tape : w'.tape = w.tape
  output : w'.output = w.output
  size : w.heap.size ≤ w'.heap.size
  block : ∀ b, b < w.heap.size → ¬ X b → w'.heap[b]? = w.heap[b]?
theorem Grew.refl (w : World) (X : Nat → Prop) : Grew w w X := ⟨rfl, rfl, rfl, Nat.le_refl _, fun _ _ _ => rfl⟩
theorem Grew.of_below {w w' : World} {X : Nat → Prop} (h : Below w.heap.size w w') : Grew w w' X := ⟨h.os, h.tape, h.output, h.size, fun b hb _ => h.block b hb⟩
theorem Grew.of_gro {w w' : World} {X : Nat → Prop} {g : Nat} (h : w.grownBy w' (some g)) (hg : X g) : Grew w w' X := ⟨h.os, h.tape, h.output, h.size, fun b hb hx => h.block b hb (fun e => by injection e with e; subst e; exact hx hg)⟩
theorem Grew.trans {w w' w2 : World} {X : Nat → Prop} (h : Grew w w' X) (h' : Grew w' w2 X) : Grew w w2 X :=
  ⟨h'.os.trans h.os, h'.tape.trans h.tape, h'.output.trans h.output, Nat.le_trans h.size h'.size, fun b hb hx => (h'.block b (Nat.lt_of_lt_of_le hb h.size) hx).trans (h.block b hb hx)⟩
theorem Grew.mono {w w' : World} {X Y : Nat → Prop} (h : Grew w w' X) (hxy : ∀ b, b < w.heap.size → X b → Y b) : Grew w w' Y := ⟨h.os, h.tape, h.output, h.size, fun b hb hy => h.block b hb (fun hx => hy (hxy b hb hx))⟩
theorem Grew.below {w w' : World} {X : Nat → Prop} {B : Nat} (h : Grew w w' X) (hB : B ≤ w.heap.size) (hx : ∀ b, X b → B ≤ b) : Below B w w' :=
  ⟨h.os, h.tape, h.output, h.size, fun b hb => h.block b (by omega) (fun hb2 => by have := hx b hb2; omega)⟩
/-- Below B, behind more that turned only what lies from B on. -/
theorem Grew.then_below {w0 w w' : World} {X : Nat → Prop} {B : Nat} (hb : Below B w0 w) (h : Grew w w' X) (hB : B ≤ w.heap.size) (hx : ∀ b, X b → B ≤ b) : Below B w0 w' := hb.trans (h.below hB hx)
theorem ElsQ.grew {α : Type} {E : Enc α} {w w' : World} {Q X : Nat → Prop} {A : Option Addr} {l : List α} (h : ElsQ E w Q A l) (hg : Grew w w' X) (hx : ∀ b, Q b → ¬ X b) : ElsQ E w' Q A l := h.kept (fun b hq hl => hg.block b hl (hx b hq)) hg.size
theorem ElsQ.below {α : Type} {E : Enc α} {w w' : World} {Q : Nat → Prop} {A : Option Addr} {l : List α} (h : ElsQ E w Q A l) (hg : Below w.heap.size w w') : ElsQ E w' Q A l := h.kept (fun b _ hl => hg.block b hl) hg.size
theorem ElsQ.head {α : Type} {E : Enc α} {w : World} {Q : Nat → Prop} {A : Option Addr} {l : List α} (h : ElsQ E w Q A l) (n : Nat) : ElsQ E w Q A (l.take n) := fun hn => by
  rw [List.length_take] at hn
  obtain ⟨ad, e, hq, hb, hc⟩ := h (by omega)
  refine ⟨ad, e, hq, hb, fun i u hu => hc i u ?_⟩
  rw [ev_take, List.getElem?_take] at hu
  split at hu
  · exact hu
  · cases hu
theorem ElsQ.of_own {α : Type} {E : Enc α} {w : World} {B n c : Nat} {Q : Nat → Prop} {T : TypeId} {A : Option Addr} {l : List α} (h : Own (E := E) w B T (.slice A n c) l) (hQ : ∀ b, B ≤ b → Q b) : ElsQ E w Q A l := fun hn => by
  obtain ⟨A', c', e, h1, h2, h3⟩ := h.els
  simp only [Value.slice.injEq] at e
  obtain ⟨rfl, rfl, rfl⟩ := e
  obtain ⟨ad, e, hb, hc⟩ := h3 hn
  subst e
  exact ⟨ad, rfl, hQ _ (h.lt _ rfl).1, hb, hc⟩
theorem gro_set1 (w : World) (g j : Nat) (u : Value) : w.grownBy (w.setCell ⟨g, j, none⟩ u) (some g) :=
  ⟨rfl, rfl, rfl, by simp, fun k _ hk => heap_setCell_other w ⟨g, j, none⟩ k u (fun e => hk (by simp [e]))⟩
end Go.Proofs.Ytdigfbgjefffiaa.Sh
