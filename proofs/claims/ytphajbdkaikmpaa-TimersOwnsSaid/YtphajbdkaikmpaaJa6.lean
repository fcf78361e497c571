/-
  Timers in memory: the program's pile (a row of timers, a map of their places), the document's list.
-/
import Derived.Test.YtphajbdkaikmpaaJa2
import Derived.Test.YtphajbdkaikmpaaJa4
import Derived.Test.YtphajbdkaikmpaaJa5
import Derived.Maps.OwnSet
set_option linter.unusedVariables false
set_option linter.unusedSimpArgs false
namespace Go.Proofs.Ytphajbdkaikmpaa.Sh
open Go Go.RowKit
open Go.Maps (Keyed)

set_option linter.unusedSimpArgs false
set_option linter.unusedVariables false
def encT : Enc Tm := ⟨2, fun x => [.int .i64 x.1, .int .i64 x.2], by omega, fun _ => rfl, fun x u hu => by
  simp only [List.mem_cons, List.not_mem_nil, or_false] at hu
  rcases hu with rfl | rfl <;> rfl⟩
theorem slT : SlN Try.prog 44 37 2 16 := by
  obtain ⟨i0, hi0, hz0, hz1, hz2⟩ := info_parts (P := Try.prog) (e := 37) (z := .agg #[.int .i64 0, .int .i64 0]) (size := 2) (bytes := 16) (by kernel_rfl)
  exact ⟨Try.underlying44, ⟨i0, _, hi0, hz0, hz1, hz2, rfl⟩, by omega⟩
theorem slU : SlN Try.prog 26 53 2 16 := by
  obtain ⟨i0, hi0, hz0, hz1, hz2⟩ := info_parts (P := Try.prog) (e := 53) (z := .agg #[.int .i64 0, .int .i64 0]) (size := 2) (bytes := 16) (by kernel_rfl)
  exact ⟨Try.underlying26, ⟨i0, _, hi0, hz0, hz1, hz2, rfl⟩, by omega⟩
/-- The places of the kinds, in a map at block b. -/
def PlM (w : World) (b k : Nat) (f : Int → Option Int) : Prop := ∃ D : DataW Value, w.ownsMap Try.prog 3 tokR b k D ∧ ∀ z, mget D (.int .i64 z) = (f z).map (Value.int .i64)
theorem PlM.at' {w w' : World} {b k : Nat} {f : Int → Option Int} (h : PlM w b k f) (hb : w'.heap[b]? = w.heap[b]?) : PlM w' b k f := by
  obtain ⟨D, ⟨es, clock, h1, r⟩, h2⟩ := h
  exact ⟨D, ⟨es, clock, hb.trans h1, r⟩, h2⟩
theorem PlM.lt {w : World} {b k : Nat} {f : Int → Option Int} (h : PlM w b k f) : b < w.heap.size := by obtain ⟨D, h1, _⟩ := h; exact h1.lt
theorem PlM.mono {w : World} {b k k' : Nat} {f : Int → Option Int} (h : PlM w b k f) (hk : k ≤ k') : PlM w b k' f := by
  obtain ⟨D, ⟨es, clock, h1, F, h2, h3⟩, h4⟩ := h
  exact ⟨D, ⟨es, clock, h1, F, Nat.le_trans h2 hk, h3⟩, h4⟩
theorem zeroIT (w : World) : (zeroValue 3).run Try.prog w = .ok (.int .i64 0) w := by kernel_rfl
theorem PlM.look2 {w : World} {b k : Nat} {f : Int → Option Int} (h : PlM w b k f) {z : Int} (hz : In64 z) : (Instr.lookup 48 (.map (some b)) (.int .i64 z) true).run Try.prog w = .ok (.tuple #[.int .i64 ((f z).getD 0), .bool (f z).isSome]) w := by
  obtain ⟨D, h1, h2⟩ := h
  rcases map_cases h1 lawN Try.underlying48 (zeroIT w) (keyN hz) true with ⟨e, hrun⟩ | ⟨v, e, hrun⟩
  · rw [h2 z] at e
    rw [hrun]
    cases hf : f z with
    | none => rfl
    | some y => rw [hf] at e; cases e
  · rw [h2 z] at e
    rw [hrun]
    cases hf : f z with
    | none => rw [hf] at e; cases e
    | some y => rw [hf] at e; injection e with e; subst e; rfl
theorem PlM.put {w : World} {b k : Nat} {f : Int → Option Int} (h : PlM w b k f) {z : Int} (hz : In64 z) (y : Int) (hk : k < 1000000) :
    ∃ w', (Instr.mapUpdate 48 (.map (some b)) (.int .i64 z) (.int .i64 y)).run Try.prog w = .ok () w' ∧ PlM w' b (k + 1) (updP f z (some y)) ∧ w.grownBy w' (some b) := by
  obtain ⟨D, h1, h2⟩ := h
  obtain ⟨w', hrun, ho, hg⟩ := map_store (val := .int .i64 y) h1 lawN Try.underlying48 (by unfold maxLen; omega) (keyN hz)
  refine ⟨w', hrun, ⟨_, ho, fun q => ?_⟩, hg⟩
  by_cases e : q = z
  · subst e
    rw [mget_same h1 lawN (keyN hz), updP_at]; rfl
  · rw [mget_other (fun e' => e (by injection e')), h2 q, updP_ne _ _ e]
theorem gro_block {w : World} {b : Nat} {o o' : Obj} (hb : w.heap[b]? = some o) : w.grownBy (ChangeMaps.setBlock w b o') (some b) ∧ (ChangeMaps.setBlock w b o').heap[b]? = some o' := by
  have hl := (Array.getElem?_eq_some_iff.1 hb).1
  refine ⟨⟨rfl, rfl, rfl, by simp [ChangeMaps.setBlock], fun x hx hne => ?_⟩, ?_⟩
  · have : b ≠ x := fun e => hne (by rw [e])
    simp [ChangeMaps.setBlock, Array.getElem?_setIfInBounds, this]
  · simp [ChangeMaps.setBlock, Array.getElem?_setIfInBounds, hl]
theorem PlM.del {w : World} {b k : Nat} {f : Int → Option Int} (h : PlM w b k f) {z : Int} (hz : In64 z) (ty : TypeId) :
    ∃ w', (Builtin.delete_ #[48, 3] ty #[.map (some b), .int .i64 z]).run Try.prog w = .ok (.tuple #[]) w' ∧ PlM w' b k (updP f z none) ∧ w.grownBy w' (some b) := by
  obtain ⟨D, ⟨es, clock, h1, F, h2, rfl⟩, h4⟩ := h
  obtain ⟨es', hrun, F', hle, hD, _⟩ := Maps.fit_drop (ty := ty) lawN Try.underlying48 h1 F (keyN hz)
  obtain ⟨hg, hb⟩ := gro_block (o' := .map es' clock) h1
  refine ⟨_, hrun, ⟨_, ⟨es', clock, hb, F', Nat.le_trans hle h2, rfl⟩, fun q => ?_⟩, hg⟩
  have e1 : (DataW.map (List.foldr DataW.insert [] (List.map (WideElems.rg Try.prog 3 tokR) es'.toList))) = (DataW.map (List.foldr DataW.insert [] (List.map (WideElems.rg Try.prog 3 tokR) es.toList))).del (.int .i64 z) := by rw [hD]; rfl
  rw [e1]
  by_cases e : q = z
  · subst e
    rw [updP_at]
    unfold mget
    rw [Maps.atKey_del_same]; rfl
  · rw [updP_ne _ _ e, ← h4 q]
    unfold mget
    rw [Maps.atKey_del_other (fun e' => e (by injection e'))]
/-- The pile of a queue at block q: its row A of the timers T, its map at h; all its blocks are among P. -/
structure PileE (w : World) (P : Nat → Prop) (q h k : Nat) (A : Option Addr) (c : Nat) (T : List Tm) (f : Int → Option Int) : Prop where
  p0 : P q
  p1 : P h
  n1 : q ≠ h
  row : w.heap[q]? = some (.cells #[.slice A T.length c, .map (some h)] 52 (0, 0))
  own : Own (E := encT) w 0 37 (.slice A T.length c) T
  ob : ∀ g, (Value.slice A T.length c).ownBlock = some g → P g ∧ g ≠ q ∧ g ≠ h
  pl : PlM w h k f
  dom : ∀ x, P x → x < w.heap.size
section
variable {w w' : World} {P Q X : Nat → Prop} {q h k c : Nat} {A : Option Addr} {T : List Tm} {f : Int → Option Int}
theorem PileE.kept (e : PileE w P q h k A c T f) (hk : ∀ x, P x → x < w.heap.size → w'.heap[x]? = w.heap[x]?) (hs : w.heap.size ≤ w'.heap.size) : PileE w' P q h k A c T f :=
  ⟨e.p0, e.p1, e.n1, (hk q e.p0 (e.dom q e.p0)).trans e.row, e.own.kept (fun g hg => hk g (e.ob g hg).1 (e.dom g (e.ob g hg).1)), e.ob, e.pl.at' (hk h e.p1 (e.dom h e.p1)), fun x hx => Nat.lt_of_lt_of_le (e.dom x hx) hs⟩
theorem PileE.below (e : PileE w P q h k A c T f) (hb : Below w.heap.size w w') : PileE w' P q h k A c T f := e.kept (fun x _ hl => hb.block x hl) hb.size
theorem PileE.grew (e : PileE w P q h k A c T f) (hg : Grew w w' X) (hx : ∀ x, X x → ¬ P x) : PileE w' P q h k A c T f := e.kept (fun x hp hl => hg.block x hl (fun hX => hx x hX hp)) hg.size
theorem PileE.mono {k' : Nat} (e : PileE w P q h k A c T f) (hk : k ≤ k') : PileE w P q h k' A c T f := ⟨e.p0, e.p1, e.n1, e.row, e.own, e.ob, e.pl.mono hk, e.dom⟩
theorem PileE.imp (e : PileE w P q h k A c T f) (hq : ∀ x, P x → Q x) (hd : ∀ x, Q x → x < w.heap.size) : PileE w Q q h k A c T f := ⟨hq _ e.p0, hq _ e.p1, e.n1, e.row, e.own, fun g hg => ⟨hq _ (e.ob g hg).1, (e.ob g hg).2⟩, e.pl, hd⟩
theorem PileE.c0 (e : PileE w P q h k A c T f) : w.cell? ⟨q, 0, none⟩ = some (.slice A T.length c) := by rw [cell_of_row w q 0 _ _ (0, 0) e.row]; rfl
theorem PileE.c1 (e : PileE w P q h k A c T f) : w.cell? ⟨q, 1, none⟩ = some (.map (some h)) := by rw [cell_of_row w q 1 _ _ (0, 0) e.row]; rfl
theorem PileE.els (e : PileE w P q h k A c T f) : Els encT w w.heap.size A T ∧ T.length ≤ c ∧ c ≤ 9223372036854775807 := by
  obtain ⟨A', c', e1, h1, h2, h3⟩ := e.own.els
  simp only [Value.slice.injEq] at e1
  obtain ⟨rfl, -, rfl⟩ := e1
  exact ⟨h3, h1, h2⟩
/-- The cells of the timer at i. -/
theorem PileE.at' (e : PileE w P q h k A c T f) {i : Nat} (hi : i < T.length) : ∃ g tl, A = some ⟨g, 0, none⟩ ∧ P g ∧ g ≠ q ∧ g ≠ h ∧ RowE encT 37 w g tl T ∧ w.cell? ⟨g, i * 2, none⟩ = some (.int .i64 (ofT T i).1) ∧ w.cell? ⟨g, i * 2 + 1, none⟩ = some (.int .i64 (ofT T i).2) := by
  obtain ⟨g, tl, rfl, -, row, _⟩ := Own.rowE e.own rfl (by omega)
  obtain ⟨o1, o2, o3⟩ := e.ob g rfl
  have hx := ofT_get hi
  exact ⟨g, tl, rfl, o1, o2, o3, row, row.cell (i := 0) hx (by decide) rfl, row.cell (i := 1) hx (by decide) rfl⟩
end
/-- The row is written over. -/
theorem PileE.putRow {w w' : World} {P : Nat → Prop} {q h k c g : Nat} {tl : List Value} {T T' : List Tm} {f : Int → Option Int} (e : PileE w P q h k (some ⟨g, 0, none⟩) c T f) (hg : w.grownBy w' (some g)) (hr : RowE encT 37 w' g tl T') (hr0 : RowE encT 37 w g tl T) (hl : T'.length = T.length) : PileE w' P q h k (some ⟨g, 0, none⟩) c T' f := by
  obtain ⟨o1, o2, o3⟩ := e.ob g rfl
  have hne : ∀ x, x ≠ g → x < w.heap.size → w'.heap[x]? = w.heap[x]? := fun x h1 h2 => hg.block x h2 (fun e => h1 (Option.some.inj e))
  refine ⟨e.p0, e.p1, e.n1, (by rw [hl]; exact (hne q (Ne.symm o2) (e.dom q e.p0)).trans e.row), ?_, (by rw [hl]; exact e.ob), e.pl.at' (hne h (Ne.symm o3) (e.dom h e.p1)), fun x hx => Nat.lt_of_lt_of_le (e.dom x hx) hg.size⟩
  refine ⟨ev_length _ _, ?_⟩
  rcases e.own.2 with ⟨h0, -⟩ | ⟨g', cap, cur, hv, hB, hb, hc, hm, hs, ht⟩
  · cases h0
  · simp only [Value.slice.injEq, Option.some.injEq, Addr.mk.injEq, and_true, true_and] at hv
    obtain ⟨rfl, rfl⟩ := hv
    unfold RowE at hr hr0
    rw [hr0] at hb
    injection hb with hb
    injection hb with hb
    refine .inr ⟨g, c, _, rfl, hB, hr, by rw [hl]; exact hc, hm, ?_, ?_⟩
    · rw [← hs, ← hb]
      simp only [List.size_toArray, List.length_append, ev_length, hl]
    · simp only [List.take_append_of_le_length (Nat.le_of_eq (ev_length encT T').symm)]
      exact List.take_of_length_le (Nat.le_of_eq (ev_length encT T'))
/-- The places change. -/
theorem PileE.putPl {w w' : World} {P : Nat → Prop} {q h k k' c : Nat} {A : Option Addr} {T : List Tm} {f f' : Int → Option Int} (e : PileE w P q h k A c T f) (hg : w.grownBy w' (some h)) (hp : PlM w' h k' f') : PileE w' P q h k' A c T f' := by
  have hne : ∀ x, x ≠ h → x < w.heap.size → w'.heap[x]? = w.heap[x]? := fun x h1 h2 => hg.block x h2 (fun e => h1 (Option.some.inj e))
  exact ⟨e.p0, e.p1, e.n1, (hne q e.n1 (e.dom q e.p0)).trans e.row, e.own.kept (fun g hg => hne g (e.ob g hg).2.2 (e.dom g (e.ob g hg).1)), e.ob, hp, fun x hx => Nat.lt_of_lt_of_le (e.dom x hx) hg.size⟩
/-- All kinds are numbers of the machine. -/
def KOk (T : List Tm) : Prop := ∀ x ∈ T, In64 x.2
/-- The program's queue at block q: the document's list L. -/
def QueP (w : World) (P : Nat → Prop) (q k : Nat) (L : List Tm) : Prop := ∃ h A c T f, PileE w P q h k A c T f ∧ TQ T L f ∧ KOk L
theorem QueP.kept {w w' : World} {P : Nat → Prop} {q k : Nat} {L : List Tm} (e : QueP w P q k L) (hk : ∀ x, P x → x < w.heap.size → w'.heap[x]? = w.heap[x]?) (hs : w.heap.size ≤ w'.heap.size) : QueP w' P q k L := by
  obtain ⟨h, A, c, T, f, h1, h2⟩ := e
  exact ⟨h, A, c, T, f, h1.kept hk hs, h2⟩
theorem QueP.below {w w' : World} {P : Nat → Prop} {q k : Nat} {L : List Tm} (e : QueP w P q k L) (hb : Below w.heap.size w w') : QueP w' P q k L := e.kept (fun x _ hl => hb.block x hl) hb.size
theorem QueP.grew {w w' : World} {P X : Nat → Prop} {q k : Nat} {L : List Tm} (e : QueP w P q k L) (hg : Grew w w' X) (hx : ∀ x, X x → ¬ P x) : QueP w' P q k L := e.kept (fun x hp hl => hg.block x hl (fun hX => hx x hX hp)) hg.size
theorem QueP.mono {w : World} {P : Nat → Prop} {q k k' : Nat} {L : List Tm} (e : QueP w P q k L) (hk : k ≤ k') : QueP w P q k' L := by
  obtain ⟨h, A, c, T, f, h1, h2⟩ := e
  exact ⟨h, A, c, T, f, h1.mono hk, h2⟩
theorem QueP.imp {w : World} {P Q : Nat → Prop} {q k : Nat} {L : List Tm} (e : QueP w P q k L) (hq : ∀ x, P x → Q x) (hd : ∀ x, Q x → x < w.heap.size) : QueP w Q q k L := by
  obtain ⟨h, A, c, T, f, h1, h2⟩ := e
  exact ⟨h, A, c, T, f, h1.imp hq hd, h2⟩
theorem QueP.dom {w : World} {P : Nat → Prop} {q k : Nat} {L : List Tm} (e : QueP w P q k L) : ∀ x, P x → x < w.heap.size := by
  obtain ⟨h, A, c, T, f, h1, h2⟩ := e
  exact h1.dom
/-- The document's queue at block q: its list, which may begin within its row. -/
structure QueR (w : World) (P : Nat → Prop) (q : Nat) (L : List Tm) : Prop where
  ex : ∃ A c, P q ∧ w.heap[q]? = some (.cells #[.slice A L.length c] 28 (0, 0)) ∧ L.length ≤ c ∧ c ≤ 9223372036854775807 ∧ ElsQ encT w (fun x => P x ∧ x ≠ q) A L
  dom : ∀ x, P x → x < w.heap.size
theorem QueR.kept {w w' : World} {P : Nat → Prop} {q : Nat} {L : List Tm} (e : QueR w P q L) (hk : ∀ x, P x → x < w.heap.size → w'.heap[x]? = w.heap[x]?) (hs : w.heap.size ≤ w'.heap.size) : QueR w' P q L := by
  obtain ⟨⟨A, c, p0, hr, a1, a2, a3⟩, hd⟩ := e
  exact ⟨⟨A, c, p0, (hk q p0 (hd q p0)).trans hr, a1, a2, a3.kept (fun x hx hl => hk x hx.1 hl) hs⟩, fun x hx => Nat.lt_of_lt_of_le (hd x hx) hs⟩
theorem QueR.below {w w' : World} {P : Nat → Prop} {q : Nat} {L : List Tm} (e : QueR w P q L) (hb : Below w.heap.size w w') : QueR w' P q L := e.kept (fun x _ hl => hb.block x hl) hb.size
theorem QueR.grew {w w' : World} {P X : Nat → Prop} {q : Nat} {L : List Tm} (e : QueR w P q L) (hg : Grew w w' X) (hx : ∀ x, X x → ¬ P x) : QueR w' P q L := e.kept (fun x hp hl => hg.block x hl (fun hX => hx x hX hp)) hg.size
/-- What it owned, and what was made since. -/
def plusT (P : Nat → Prop) (n m : Nat) : Nat → Prop := fun x => P x ∨ (n ≤ x ∧ x < m)
theorem plusT_dom {P : Nat → Prop} {n m : Nat} (h : ∀ x, P x → x < n) (hm : n ≤ m) : ∀ x, plusT P n m x → x < m := fun x hx => hx.elim (fun h1 => Nat.lt_of_lt_of_le (h x h1) hm) (·.2)
theorem QueP.plus {w : World} {P : Nat → Prop} {q k n : Nat} {L : List Tm} (e : QueP w P q k L) : QueP w (plusT P n w.heap.size) q k L := e.imp (fun _ hx => .inl hx) (fun x hx => hx.elim (e.dom x) (·.2))
theorem QueR.imp {w : World} {P Q : Nat → Prop} {q : Nat} {L : List Tm} (e : QueR w P q L) (hq : ∀ x, P x → Q x) (hd : ∀ x, Q x → x < w.heap.size) : QueR w Q q L := by
  obtain ⟨⟨A, c, p0, hr, a1, a2, a3⟩, _⟩ := e
  exact ⟨⟨A, c, hq _ p0, hr, a1, a2, a3.imp (fun x hx _ => ⟨hq x hx.1, hx.2⟩)⟩, hd⟩
theorem QueR.plus {w : World} {P : Nat → Prop} {q n : Nat} {L : List Tm} (e : QueR w P q L) : QueR w (plusT P n w.heap.size) q L := e.imp (fun _ hx => .inl hx) (fun x hx => hx.elim (e.dom x) (·.2))
end Go.Proofs.Ytphajbdkaikmpaa.Sh
/-
  The document's queue: one more in its place, step by step; a new row stored.
-/
namespace Go.Proofs.Ytphajbdkaikmpaa.Sh
open Go Go.RowKit

set_option linter.unusedSimpArgs false
set_option linter.unusedVariables false
theorem insT_in {x : Tm} {a : List Tm} (b : List Tm) (h : ∃ z ∈ a, ltT x z) : insT x (a ++ b) = insT x a ++ b := by
  induction a with
  | nil => obtain ⟨z, hz, _⟩ := h; cases hz
  | cons y t ih =>
    rw [List.cons_append, insT, insT]
    by_cases hl : ltT x y
    · rw [if_pos hl, if_pos hl]; rfl
    · rw [if_neg hl, if_neg hl, ih]
      · rfl
      · obtain ⟨z, hz, hlz⟩ := h
        rcases List.mem_cons.1 hz with rfl | hz
        · exact absurd hlz hl
        · exact ⟨z, hz, hlz⟩
theorem insT_no {x : Tm} {a : List Tm} (b : List Tm) (h : ∀ z ∈ a, ¬ ltT x z) : insT x (a ++ b) = a ++ insT x b := by
  induction a with
  | nil => rfl
  | cons y t ih =>
    rw [List.cons_append, insT, if_neg (h y (List.mem_cons_self ..)), ih (fun z hz => h z (List.mem_cons_of_mem _ hz))]; rfl
/-- What is put together of the first ones, and whether x is among it. -/
def OutT (x : Tm) (l : List Tm) (b : Bool) (out : List Tm) : Prop := (b = true ∧ (∃ z ∈ l, ltT x z) ∧ out = insT x l) ∨ (b = false ∧ (∀ z ∈ l, ¬ ltT x z) ∧ out = l)
theorem OutT.nil (x : Tm) : OutT x [] false [] := .inr ⟨rfl, (fun z hz => by cases hz), rfl⟩
theorem OutT.more {x y : Tm} {l out : List Tm} (h : OutT x l true out) : OutT x (l ++ [y]) true (out ++ [y]) := by
  rcases h with ⟨_, ⟨z, hz, hl⟩, rfl⟩ | ⟨h, _⟩
  · exact .inl ⟨rfl, ⟨z, List.mem_append_left _ hz, hl⟩, (insT_in _ ⟨z, hz, hl⟩).symm⟩
  · cases h
theorem OutT.here {x y : Tm} {l out : List Tm} (h : OutT x l false out) (hl : ltT x y) : OutT x (l ++ [y]) true (out ++ [x] ++ [y]) := by
  rcases h with ⟨h, _⟩ | ⟨_, hn, rfl⟩
  · cases h
  · refine .inl ⟨rfl, ⟨y, List.mem_append_right _ (List.mem_singleton.2 rfl), hl⟩, ?_⟩
    rw [insT_no _ hn, insT, if_pos hl, List.append_assoc]; rfl
theorem OutT.past {x y : Tm} {l out : List Tm} (h : OutT x l false out) (hl : ¬ ltT x y) : OutT x (l ++ [y]) false (out ++ [y]) := by
  rcases h with ⟨h, _⟩ | ⟨_, hn, rfl⟩
  · cases h
  · refine .inr ⟨rfl, fun z hz => ?_, rfl⟩
    rcases List.mem_append.1 hz with hz | hz
    · exact hn z hz
    · rw [List.mem_singleton.1 hz]; exact hl
theorem OutT.done {x : Tm} {l out : List Tm} (h : OutT x l true out) : out = insT x l := by
  rcases h with ⟨_, _, h⟩ | ⟨h, _⟩
  · exact h
  · cases h
theorem OutT.last {x : Tm} {l out : List Tm} (h : OutT x l false out) : out ++ [x] = insT x l := by
  rcases h with ⟨h, _⟩ | ⟨_, hn, rfl⟩
  · cases h
  · have := insT_no [] hn
    rw [List.append_nil] at this
    rw [this]; rfl
theorem noT_snoc (kd : Int) (l : List Tm) (y : Tm) : noT kd (l ++ [y]) = if y.2 = kd then noT kd l else noT kd l ++ [y] := by
  unfold noT
  rw [List.filter_append]
  by_cases h : y.2 = kd
  · rw [if_pos h]; simp [h]
  · rw [if_neg h]; simp [h]
theorem ownBase {w : World} {B B' : Nat} {T : TypeId} {v : Value} {l : List Tm} (h : Own (E := encT) w B T v l) (hb : B' ≤ B) : Own (E := encT) w B' T v l := by
  refine ⟨h.1, ?_⟩
  rcases h.2 with hn | ⟨g, cap, cur, e, hB, r⟩
  · exact .inl hn
  · exact .inr ⟨g, cap, cur, e, Nat.le_trans hb hB, r⟩
/-- A new list. -/
theorem QueR.put {w w9 : World} {P : Nat → Prop} {q : Nat} {L : List Tm} (h : QueR w P q L) (hb : Below w.heap.size w w9) {T : TypeId} {A : Option Addr} {n c : Nat} {l : List Tm} (ho : Own (E := encT) w9 w.heap.size T (.slice A n c) l) (hn : l.length = n) :
    QueR (w9.setCell ⟨q, 0, none⟩ (.slice A n c)) (plusT P w.heap.size (w9.setCell ⟨q, 0, none⟩ (.slice A n c)).heap.size) q l ∧ Grew w (w9.setCell ⟨q, 0, none⟩ (.slice A n c)) P := by
  have hd := h.dom
  obtain ⟨⟨LA, lc, p0, hr, a1, a2, a3⟩, -⟩ := h.below hb
  have hq := hd q p0
  have hgr := gro_set1 w9 q 0 (.slice A n c)
  have hsz : (w9.setCell ⟨q, 0, none⟩ (.slice A n c)).heap.size = w9.heap.size := by simp
  obtain ⟨A', c', e, k1, k2, -⟩ := ho.els
  simp only [Value.slice.injEq] at e
  obtain ⟨rfl, -, rfl⟩ := e
  have hel : ElsQ encT w9 (fun x => w.heap.size ≤ x) A l := ElsQ.of_own (by rw [← hn] at ho; exact ho) (fun b hb => hb)
  refine ⟨⟨⟨A, c, .inl p0, ?_, k1, k2, ?_⟩, fun x hx => ?_⟩, (Grew.of_below hb).trans (Grew.of_gro hgr p0)⟩
  · rw [heap_setCell_same w9 q 0 _ _ _ hr, hn]; rfl
  · exact (hel.kept (fun x hx hl => heap_setCell_other w9 ⟨q, 0, none⟩ x _ (fun e => by have e : x = q := e; omega)) (by rw [hsz]; exact Nat.le_refl _)).imp fun x hx hl => ⟨.inr ⟨hx, hl⟩, fun e => by omega⟩
  · exact plusT_dom hd (by rw [hsz]; exact hb.size) x hx
theorem QueR.e {w : World} {P : Nat → Prop} {q : Nat} {L : List Tm} (h : QueR w P q L) : ∃ A c, L.length ≤ c ∧ c ≤ 9223372036854775807 ∧ ∀ W, Below w.heap.size w W → W.cell? ⟨q, 0, none⟩ = some (.slice A L.length c) ∧ W.frozen? ⟨q, 0, none⟩ = false ∧ Els encT W w.heap.size A L := by
  obtain ⟨⟨A, c, p0, hr, a1, a2, a3⟩, hd⟩ := h
  refine ⟨A, c, a1, a2, fun W hb => ?_⟩
  have h1 := (hb.block q (hd q p0)).trans hr
  exact ⟨by rw [cell_of_row _ _ 0 _ _ (0, 0) h1]; rfl, frozen_of_row W q 0 _ _ h1, a3.els.below hb⟩
/-- The cells of the element at k, in every later world. -/
theorem els_at {w : World} {B : Nat} {A : Option Addr} {L : List Tm} (h : ∀ W, Below B w W → Els encT W B A L) {k : Nat} {x : Tm} (hx : L[k]? = some x) (w0 : World) (h0 : Below B w w0) : ∃ ad aj, A = some ad ∧ ad.add (k * 2) = aj ∧ ∀ W, Below B w W → W.cell? aj = some (.int .i64 x.1) ∧ W.cell? ⟨aj.block, aj.off + 1, none⟩ = some (.int .i64 x.2) := by
  obtain ⟨ad, aj, hA, -, ea, -, -, -⟩ := (h w0 h0).get hx
  refine ⟨ad, aj, hA, ea, fun W hW => ?_⟩
  obtain ⟨ad2, aj2, hA2, -, ea2, -, b0, b1⟩ := (h W hW).get hx
  rw [hA] at hA2
  obtain rfl := Option.some.inj hA2
  rw [ea] at ea2
  subst ea2
  exact ⟨b0 _ rfl, b1 1 _ (by decide) rfl⟩
end Go.Proofs.Ytphajbdkaikmpaa.Sh
