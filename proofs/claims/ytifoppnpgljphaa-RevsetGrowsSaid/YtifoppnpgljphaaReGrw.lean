/-
  What may turn behind calls on sets (blocks X alone); deeds in memory; what cut leaves of one.
-/
import Derived.Test.YtifoppnpgljphaaReRef6
namespace Go.Proofs.Ytifoppnpgljphaa.Sh
open Go Go.RowKit

set_option linter.unusedSimpArgs false
set_option linter.unusedVariables false
theorem SetR.grew {w w' : World} {P X : Nat → Prop} {g gL : Nat} {S : Nat → List Int} (h : SetR w P g gL S) (hg : Grew w w' X) (hx : ∀ b, X b → ¬ P b ∧ b ≠ g ∧ b ≠ gL) : SetR w' P g gL S :=
  h.kept (fun b hp hl => hg.block b hl (fun hb => by obtain ⟨n0, n1, n2⟩ := hx b hb; exact hp.elim n0 (fun hp => hp.elim n1 n2))) hg.size (fun _ hp _ => hp) h.ng h.nL
theorem LlsQ.grew {w w' : World} {Q X : Nat → Prop} {A : Option Addr} {ll : List (List Int)} (h : LlsQ w Q A ll) (hg : Grew w w' X) (hx : ∀ b, Q b → ¬ X b) : LlsQ w' Q A ll := h.kept (fun b hq hl => hg.block b hl (hx b hq)) hg.size
theorem LlsQ.below {w w' : World} {Q : Nat → Prop} {A : Option Addr} {ll : List (List Int)} (h : LlsQ w Q A ll) (hg : Below w.heap.size w w') : LlsQ w' Q A ll := h.kept (fun b _ hl => hg.block b hl) hg.size
def In64 (z : Int) : Prop := -9223372036854775808 ≤ z ∧ z ≤ 9223372036854775807
/-- A deed. -/
structure Deed where
  kind : Int
  d : Int
  q : Int
  known : List Int
  more : List (List Int)
/-- A deed's five cells. -/
structure DH where
  kind : Int
  d : Int
  q : Int
  kA : Option Addr
  kn : Nat
  kc : Nat
  mA : Option Addr
  mn : Nat
  mc : Nat
def DH.cells (h : DH) : List Value := [.int .i64 h.kind, .int .i64 h.d, .int .i64 h.q, .slice h.kA h.kn h.kc, .slice h.mA h.mn h.mc]
def encD : Enc DH := ⟨5, DH.cells, by omega, fun _ => rfl, fun x u hu => by
  simp only [DH.cells, List.mem_cons, List.not_mem_nil, or_false] at hu
  rcases hu with rfl | rfl | rfl | rfl | rfl <;> rfl⟩
/-- What a deed's cells say, all of it in blocks Q. -/
structure DeedAt (w : World) (Q : Nat → Prop) (h : DH) (x : Deed) : Prop where
  kind : h.kind = x.kind
  d : h.d = x.d
  q : h.q = x.q
  kl : x.known.length = h.kn
  kc : h.kn ≤ h.kc
  km : h.kc ≤ 9223372036854775807
  ke : ElsQ encN w Q h.kA x.known
  ml : x.more.length = h.mn
  mc : h.mn ≤ h.mc
  mm : h.mc ≤ 9223372036854775807
  me : LlsQ w Q h.mA x.more
  mw : ∀ l ∈ x.more, ∀ z ∈ l, In64 z
theorem DeedAt.grew {w w' : World} {Q X : Nat → Prop} {h : DH} {x : Deed} (a : DeedAt w Q h x) (hg : Grew w w' X) (hx : ∀ b, Q b → ¬ X b) : DeedAt w' Q h x :=
  ⟨a.kind, a.d, a.q, a.kl, a.kc, a.km, a.ke.grew hg hx, a.ml, a.mc, a.mm, a.me.grew hg hx, a.mw⟩
theorem DeedAt.imp {w : World} {Q R : Nat → Prop} {h : DH} {x : Deed} (a : DeedAt w Q h x) (hq : ∀ b, Q b → b < w.heap.size → R b) : DeedAt w R h x :=
  ⟨a.kind, a.d, a.q, a.kl, a.kc, a.km, a.ke.imp hq, a.ml, a.mc, a.mm, a.me.imp hq, a.mw⟩
def cutL (ll : List (List Int)) : List (List Int) := (ll.take 20).map (List.take 40)
def cutD (x : Deed) : Deed := { x with known := x.known.take 20, more := cutL x.more }
theorem cutL_len (ll : List (List Int)) : (cutL ll).length ≤ 20 := by simp [cutL]; omega
theorem cutL_mem {ll : List (List Int)} : ∀ l ∈ cutL ll, l.length ≤ 40 := fun l hl => by
  obtain ⟨m, _, rfl⟩ := List.mem_map.1 hl
  rw [List.length_take]; omega
/-- What a deed makes of a set. -/
noncomputable def deedS (S : Nat → List Int) (x : Deed) : Nat → List Int := if x.kind = 1 then mergeS S x.known x.more 16 else addS S x.d x.q
theorem OkS.deed {S : Nat → List Int} (h : OkS S) (x : Deed) : OkS (deedS S x) := by
  unfold deedS; split
  · exact h.merge _ _ _
  · exact h.add _ _
/-- Deeds from A on, all of it below block B. -/
def Deeds (w : World) (B : Nat) (A : Option Addr) (xs : List Deed) : Prop :=
  ∃ hs : List DH, hs.length = xs.length ∧ Els encD w B A hs ∧ ∀ (i : Nat) (h : DH) (x : Deed), hs[i]? = some h → xs[i]? = some x → DeedAt w (fun b => b < B) h x
theorem Deeds.below {w w' : World} {B : Nat} {A : Option Addr} {xs : List Deed} (h : Deeds w B A xs) (hB : B ≤ w.heap.size) (hb : Below B w w') : Deeds w' B A xs := by
  obtain ⟨hs, h1, h2, h3⟩ := h
  refine ⟨hs, h1, h2.below hb, fun i x y hx hy => (h3 i x y hx hy).grew (X := fun b => B ≤ b) ⟨hb.os, hb.tape, hb.output, hb.size, fun b _ hn => hb.block b (by omega)⟩ (fun b hb hn => by omega)⟩
theorem Deeds.at {w : World} {B : Nat} {A : Option Addr} {xs : List Deed} (h : Deeds w B A xs) {i : Nat} {x : Deed} (hi : xs[i]? = some x) : ∃ (ad aj : Addr) (dh : DH), A = some ad ∧ ad.block < B ∧ ad.add (i * 5) = aj ∧ aj.block = ad.block ∧ DeedAt w (fun b => b < B) dh x ∧
    w.cell? aj = some (.int .i64 dh.kind) ∧ w.cell? ⟨aj.block, aj.off + 1, none⟩ = some (.int .i64 dh.d) ∧ w.cell? ⟨aj.block, aj.off + 2, none⟩ = some (.int .i64 dh.q) ∧ w.cell? ⟨aj.block, aj.off + 3, none⟩ = some (.slice dh.kA dh.kn dh.kc) ∧ w.cell? ⟨aj.block, aj.off + 4, none⟩ = some (.slice dh.mA dh.mn dh.mc) := by
  obtain ⟨hs, h1, h2, h3⟩ := h
  obtain ⟨dh, hd⟩ : ∃ y, hs[i]? = some y := ⟨_, List.getElem?_eq_getElem (by rw [h1]; exact (List.getElem?_eq_some_iff.1 hi).1)⟩
  obtain ⟨ad, aj, e, hb, ea, eb, c0, cs⟩ := h2.get hd
  exact ⟨ad, aj, dh, e, hb, ea, eb, h3 i dh x hd hi, c0 _ rfl, cs 1 _ (by omega) rfl, cs 2 _ (by omega) rfl, cs 3 _ (by omega) rfl, cs 4 _ (by omega) rfl⟩
/-- A deed in a variable of the call's own. -/
def DhAt (w : World) (g : Nat) (h : DH) : Prop := w.heap[g]? = some (.cells h.cells.toArray 33 (0, 0))
theorem DhAt.all {w : World} {g : Nat} {h : DH} (a : DhAt w g h) : w.cell? ⟨g, 0, none⟩ = some (.int .i64 h.kind) ∧ w.cell? ⟨g, 1, none⟩ = some (.int .i64 h.d) ∧ w.cell? ⟨g, 2, none⟩ = some (.int .i64 h.q) ∧ w.cell? ⟨g, 3, none⟩ = some (.slice h.kA h.kn h.kc) ∧ w.cell? ⟨g, 4, none⟩ = some (.slice h.mA h.mn h.mc) :=
  ⟨by rw [cell_of_row _ _ 0 _ _ (0, 0) a]; rfl, by rw [cell_of_row _ _ 1 _ _ (0, 0) a]; rfl, by rw [cell_of_row _ _ 2 _ _ (0, 0) a]; rfl, by rw [cell_of_row _ _ 3 _ _ (0, 0) a]; rfl, by rw [cell_of_row _ _ 4 _ _ (0, 0) a]; rfl⟩
theorem DhAt.f {w : World} {g : Nat} {h : DH} (a : DhAt w g h) (j : Nat) : w.frozen? ⟨g, j, none⟩ = false := frozen_of_row w g j _ _ a
theorem DhAt.lt {w : World} {g : Nat} {h : DH} (a : DhAt w g h) : g < w.heap.size := (Array.getElem?_eq_some_iff.1 a).1
theorem DhAt.grew {w w' : World} {X : Nat → Prop} {g : Nat} {h : DH} (a : DhAt w g h) (hg : Grew w w' X) (hx : ¬ X g) : DhAt w' g h := (hg.block g a.lt hx).trans a
theorem DhAt.below {w w' : World} {g : Nat} {h : DH} (a : DhAt w g h) (hg : Below w.heap.size w w') : DhAt w' g h := (hg.block g a.lt).trans a
theorem DhAt.new (w : World) (h : DH) : DhAt (w.alloc (.cells h.cells.toArray 33)) w.heap.size h := heap_alloc_new w _
theorem DhAt.setK {w : World} {g : Nat} {h : DH} (a : DhAt w g h) (A : Option Addr) (n c : Nat) : DhAt (w.setCell ⟨g, 3, none⟩ (.slice A n c)) g { h with kA := A, kn := n, kc := c } := heap_setCell_same w g 3 _ _ _ a
theorem DhAt.setM {w : World} {g : Nat} {h : DH} (a : DhAt w g h) (A : Option Addr) (n c : Nat) : DhAt (w.setCell ⟨g, 4, none⟩ (.slice A n c)) g { h with mA := A, mn := n, mc := c } := heap_setCell_same w g 4 _ _ _ a
end Go.Proofs.Ytifoppnpgljphaa.Sh
