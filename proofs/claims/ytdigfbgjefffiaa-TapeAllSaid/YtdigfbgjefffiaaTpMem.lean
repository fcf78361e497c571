/-
  The document's tape in memory.
-/
import Derived.Test.YtdigfbgjefffiaaTpMath
import Derived.Test.YtdigfbgjefffiaaBaRow
import Derived.Test.YtdigfbgjefffiaaBaSame
namespace Go.Proofs.Ytdigfbgjefffiaa.Sh
open Go Go.RowKit

set_option linter.unusedSimpArgs false
set_option linter.unusedVariables false
def encU : Enc Un := ⟨3, fun x => [.int .i64 x.1, .int .i64 x.2.1, .int .u8 (x.2.2.toNat : Int)], by omega, fun _ => rfl, fun x u hu => by
  simp only [List.mem_cons, List.not_mem_nil, or_false] at hu
  rcases hu with rfl | rfl | rfl <;> rfl⟩
theorem slUn : SlN Try.prog 56 64 3 24 := by
  obtain ⟨i0, hi0, hz0, hz1, hz2⟩ := info_parts (P := Try.prog) (e := 64) (z := .agg #[.int .i64 0, .int .i64 0, .int .u8 0]) (size := 3) (bytes := 24) (by kernel_rfl)
  exact ⟨Try.underlying56, ⟨i0, _, hi0, hz0, hz1, hz2, rfl⟩, by omega⟩
/-- Bytes in blocks of Q. -/
def BytQ (w : World) (Q : Nat → Prop) (A : Option Addr) (l : List UInt8) : Prop :=
  0 < l.length → ∃ ad, A = some ad ∧ Q ad.block ∧ ad.block < w.heap.size ∧ ∀ (j : Nat) (x : UInt8), l[j]? = some x → w.cell? (ad.add j) = some (.int .u8 (x.toNat : Int))
section
variable {w w' : World} {Q R X : Nat → Prop} {A : Option Addr} {l : List UInt8}
theorem BytQ.nil : BytQ w Q A [] := fun h => absurd h (by simp)
theorem BytQ.byt (h : BytQ w Q A l) : Byt w w.heap.size A l := fun hn => by
  obtain ⟨ad, e, _, hb, hc⟩ := h hn
  exact ⟨ad, e, hb, hc⟩
theorem BytQ.kept (h : BytQ w Q A l) (hk : ∀ b, Q b → b < w.heap.size → w'.heap[b]? = w.heap[b]?) (hs : w.heap.size ≤ w'.heap.size) : BytQ w' Q A l := fun hn => by
  obtain ⟨ad, e, hq, hb, hc⟩ := h hn
  refine ⟨ad, e, hq, by omega, fun j x hx => ?_⟩
  rw [← hc j x hx]
  unfold World.cell?
  rw [block_add, hk _ hq hb]
theorem BytQ.imp (h : BytQ w Q A l) (hq : ∀ b, Q b → b < w.heap.size → R b) : BytQ w R A l := fun hn => by
  obtain ⟨ad, e, hQ, hb, hc⟩ := h hn
  exact ⟨ad, e, hq _ hQ hb, hb, hc⟩
theorem BytQ.of_own {B n c : Nat} (h : OwnB w B (.slice A n c) n l) (hQ : ∀ b, B ≤ b → b < w.heap.size → Q b) : BytQ w Q A l := fun hn => by
  have hl := h.len
  obtain ⟨g, cap, hv, hg, hlt⟩ := World.ownsRow.form h (by omega)
  obtain ⟨ad, e, hb, hc⟩ := h.byt hn
  injection hv with hA
  rw [hA] at e
  injection e with e
  subst e
  exact ⟨_, hA, hQ _ hg hlt, hb, hc⟩
end
/-- The document's tape at block q, its safe sides at block s. -/
structure TapE (w : World) (P : Nat → Prop) (q s : Nat) (A0 A1 UA : Option Addr) (c0 c1 uc : Nat) (S : TS) : Prop where
  p0 : P q
  p1 : P s
  n1 : q ≠ s
  row : w.heap[q]? = some (.cells #[.slice (some ⟨s, 0, none⟩) 2 2, .slice UA S.us.length uc, .bool S.bn, .int .i64 S.lf] 58 (0, 0))
  sf : w.heap[s]? = some (.cells #[.slice A0 S.s0.length c0, .slice A1 S.s1.length c1] 28 (0, 0))
  b0 : BytQ w (fun x => P x ∧ x ≠ q ∧ (Value.slice UA S.us.length uc).ownBlock ≠ some x) A0 S.s0
  b1 : BytQ w (fun x => P x ∧ x ≠ q ∧ (Value.slice UA S.us.length uc).ownBlock ≠ some x) A1 S.s1
  own : Own (E := encU) w 0 64 (.slice UA S.us.length uc) S.us
  ob : ∀ g, (Value.slice UA S.us.length uc).ownBlock = some g → P g ∧ g ≠ q ∧ g ≠ s
  dom : ∀ x, P x → x < w.heap.size
section
variable {w w' : World} {P Q X : Nat → Prop} {q s c0 c1 uc : Nat} {A0 A1 UA : Option Addr} {S : TS}
theorem TapE.kept (e : TapE w P q s A0 A1 UA c0 c1 uc S) (hk : ∀ x, P x → x < w.heap.size → w'.heap[x]? = w.heap[x]?) (hs : w.heap.size ≤ w'.heap.size) : TapE w' P q s A0 A1 UA c0 c1 uc S :=
  ⟨e.p0, e.p1, e.n1, (hk q e.p0 (e.dom q e.p0)).trans e.row, (hk s e.p1 (e.dom s e.p1)).trans e.sf, e.b0.kept (fun x hx hl => hk x hx.1 hl) hs, e.b1.kept (fun x hx hl => hk x hx.1 hl) hs,
    e.own.kept (fun g hg => hk g (e.ob g hg).1 (e.dom g (e.ob g hg).1)), e.ob, fun x hx => Nat.lt_of_lt_of_le (e.dom x hx) hs⟩
theorem TapE.below (e : TapE w P q s A0 A1 UA c0 c1 uc S) (hb : Below w.heap.size w w') : TapE w' P q s A0 A1 UA c0 c1 uc S := e.kept (fun x _ hl => hb.block x hl) hb.size
theorem TapE.imp (e : TapE w P q s A0 A1 UA c0 c1 uc S) (hq : ∀ x, P x → Q x) (hd : ∀ x, Q x → x < w.heap.size) : TapE w Q q s A0 A1 UA c0 c1 uc S :=
  ⟨hq _ e.p0, hq _ e.p1, e.n1, e.row, e.sf, e.b0.imp (fun x hx _ => ⟨hq x hx.1, hx.2⟩), e.b1.imp (fun x hx _ => ⟨hq x hx.1, hx.2⟩), e.own, fun g hg => ⟨hq _ (e.ob g hg).1, (e.ob g hg).2⟩, hd⟩
/-- Its cells, for every world above. -/
theorem TapE.cells (e : TapE w P q s A0 A1 UA c0 c1 uc S) : ∀ W, Below w.heap.size w W → (W.cell? ⟨q, 0, none⟩ = some (.slice (some ⟨s, 0, none⟩) 2 2) ∧ W.cell? ⟨q, 1, none⟩ = some (.slice UA S.us.length uc) ∧ W.cell? ⟨q, 2, none⟩ = some (.bool S.bn) ∧ W.cell? ⟨q, 3, none⟩ = some (.int .i64 S.lf)) ∧
    (W.cell? ⟨s, 0, none⟩ = some (.slice A0 S.s0.length c0) ∧ W.cell? ⟨s, 1, none⟩ = some (.slice A1 S.s1.length c1)) ∧ ∀ j, W.frozen? ⟨q, j, none⟩ = false := fun W hW => by
  have h := e.below hW
  refine ⟨⟨?_, ?_, ?_, ?_⟩, ⟨?_, ?_⟩, fun j => frozen_of_row W q j _ _ h.row⟩
  · rw [cell_of_row W q 0 _ _ (0, 0) h.row]; rfl
  · rw [cell_of_row W q 1 _ _ (0, 0) h.row]; rfl
  · rw [cell_of_row W q 2 _ _ (0, 0) h.row]; rfl
  · rw [cell_of_row W q 3 _ _ (0, 0) h.row]; rfl
  · rw [cell_of_row W s 0 _ _ (0, 0) h.sf]; rfl
  · rw [cell_of_row W s 1 _ _ (0, 0) h.sf]; rfl
theorem TapE.els (e : TapE w P q s A0 A1 UA c0 c1 uc S) : Els encU w w.heap.size UA S.us ∧ S.us.length ≤ uc ∧ uc ≤ 9223372036854775807 := by
  obtain ⟨A', c', e1, h1, h2, h3⟩ := e.own.els
  simp only [Value.slice.injEq] at e1
  obtain ⟨rfl, -, rfl⟩ := e1
  exact ⟨h3, h1, h2⟩
end
/-- The document's tape at block q: what it has; its blocks are P. -/
def TapR (w : World) (P : Nat → Prop) (q : Nat) (S : TS) : Prop := TS.Ok S ∧ ∃ s A0 A1 UA c0 c1 uc, TapE w P q s A0 A1 UA c0 c1 uc S
section
variable {w w' : World} {P Q X : Nat → Prop} {q : Nat} {S : TS}
theorem TapR.kept (e : TapR w P q S) (hk : ∀ x, P x → x < w.heap.size → w'.heap[x]? = w.heap[x]?) (hs : w.heap.size ≤ w'.heap.size) : TapR w' P q S := by
  obtain ⟨h, s, A0, A1, UA, c0, c1, uc, e⟩ := e
  exact ⟨h, s, A0, A1, UA, c0, c1, uc, e.kept hk hs⟩
theorem TapR.below (e : TapR w P q S) (hb : Below w.heap.size w w') : TapR w' P q S := e.kept (fun x _ hl => hb.block x hl) hb.size
theorem TapR.grew (e : TapR w P q S) (hg : Grew w w' X) (hx : ∀ x, X x → ¬ P x) : TapR w' P q S := e.kept (fun x hp hl => hg.block x hl (fun hX => hx x hX hp)) hg.size
theorem TapR.imp (e : TapR w P q S) (hq : ∀ x, P x → Q x) (hd : ∀ x, Q x → x < w.heap.size) : TapR w Q q S := by
  obtain ⟨h, s, A0, A1, UA, c0, c1, uc, e⟩ := e
  exact ⟨h, s, A0, A1, UA, c0, c1, uc, e.imp hq hd⟩
theorem TapR.dom (e : TapR w P q S) : ∀ x, P x → x < w.heap.size := by
  obtain ⟨h, s, A0, A1, UA, c0, c1, uc, e⟩ := e
  exact e.dom
/-- What it owned, and what was made since. -/
def plusQ (P : Nat → Prop) (n m : Nat) : Nat → Prop := fun x => P x ∨ (n ≤ x ∧ x < m)
theorem plusQ_dom {P : Nat → Prop} {n m : Nat} (h : ∀ x, P x → x < n) (hm : n ≤ m) : ∀ x, plusQ P n m x → x < m := fun x hx => hx.elim (fun h1 => Nat.lt_of_lt_of_le (h x h1) hm) (·.2)
theorem TapR.plus {n : Nat} (e : TapR w P q S) : TapR w (plusQ P n w.heap.size) q S := e.imp (fun _ hx => .inl hx) (fun x hx => hx.elim (e.dom x) (·.2))
end
/-- The unit at j, for every world above. -/
theorem unit_at {w : World} {B : Nat} {A : Option Addr} {L : List Un} (h : ∀ W, Below B w W → Els encU W B A L) {k : Nat} {x : Un} (hx : L[k]? = some x) (w0 : World) (h0 : Below B w w0) :
    ∃ ad aj, A = some ad ∧ ad.add (k * 3) = aj ∧ ∀ W, Below B w W → W.cell? aj = some (.int .i64 x.1) ∧ W.cell? ⟨aj.block, aj.off + 1, none⟩ = some (.int .i64 x.2.1) ∧ W.cell? ⟨aj.block, aj.off + 2, none⟩ = some (.int .u8 (x.2.2.toNat : Int)) := by
  obtain ⟨ad, aj, e1, hb, e2, hbj, g0, g1⟩ := (h w0 h0).get hx
  refine ⟨ad, aj, e1, e2, fun W hW => ?_⟩
  obtain ⟨ad', aj', e1', _, e2', _, g0', g1'⟩ := (h W hW).get hx
  rw [e1] at e1'
  injection e1' with e1'
  subst e1'
  rw [e2] at e2'
  subst e2'
  exact ⟨g0' _ rfl, g1' 1 _ (by omega) rfl, g1' 2 _ (by omega) rfl⟩
end Go.Proofs.Ytdigfbgjefffiaa.Sh
