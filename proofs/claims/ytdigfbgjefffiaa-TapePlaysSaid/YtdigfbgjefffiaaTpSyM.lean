/-
  TapeSynced: what lasts; two arrays of slices beside a tape.
-/
import Derived.Test.YtdigfbgjefffiaaTpLawB
import Derived.Test.YtdigfbgjefffiaaTpLawC
import Derived.Test.YtdigfbgjefffiaaBaCall
namespace Go.Proofs.Ytdigfbgjefffiaa.Sh
open Go Go.RowKit

set_option linter.unusedSimpArgs false
set_option linter.unusedVariables false
/-! ### pure -/
/-- Bytes alone. -/
def BO (us : List Un) : Prop := ∀ u ∈ us, u.2.1 < 0
theorem doneU_bytes {us : List Un} (h : BO us) (sd : Int) (b : List UInt8) : ∃ t, doneU sd b us = b ++ t := by
  induction us generalizing b with
  | nil => exact ⟨[], by rw [List.append_nil]; rfl⟩
  | cons u r ih =>
    have hr : BO r := fun x hx => h x (List.mem_cons_of_mem _ hx)
    have hu := h u (List.mem_cons_self ..)
    show ∃ t, doneU sd (stepU sd b u) r = b ++ t
    unfold stepU
    split
    · rw [if_neg (by omega)]
      obtain ⟨t, ht⟩ := ih hr (b ++ [u.2.2])
      exact ⟨[u.2.2] ++ t, by rw [ht, List.append_assoc]⟩
    · exact ih hr b
theorem TS.prefix {S : TS} (h : BO S.us) (sd : Int) (k : Nat) : ∃ t1 t2, S.done sd k = S.safe sd ++ t1 ∧ S.now sd = S.done sd k ++ t2 := by
  obtain ⟨t1, h1⟩ := doneU_bytes (us := S.us.take k) (fun u hu => h u (List.mem_of_mem_take hu)) sd (S.safe sd)
  obtain ⟨t2, h2⟩ := doneU_bytes (us := S.us.drop k) (fun u hu => h u (List.mem_of_mem_drop hu)) sd (S.done sd k)
  refine ⟨t1, t2, h1, ?_⟩
  rw [← h2]
  unfold TS.now TS.done
  rw [← doneU_append, List.take_append_drop]
/-- Only bytes behind what was safe: a and b. -/
structure Wr (S : TS) (a b : List UInt8) : Prop where
  s0 : S.s0 = a
  s1 : S.s1 = b
  bo : BO S.us
theorem Wr.write {S : TS} {a b : List UInt8} (h : Wr S a b) (sd : Int) (l : List UInt8) : Wr (S.write sd l).1 a b := by
  unfold TS.write
  split
  · exact h
  · split
    · exact h
    · refine ⟨by simp only [TS.burn_s0]; exact h.s0, by simp only [TS.burn_s1]; exact h.s1, fun u hu => ?_⟩
      simp only at hu
      rcases List.mem_append.1 hu with hu | hu
      · exact h.bo u hu
      · unfold TS.unitsW at hu
        rw [List.mem_map] at hu
        obtain ⟨x, _, rfl⟩ := hu
        show (-1 : Int) < 0
        omega
theorem TS.write_now {S : TS} {sd : Int} {l : List UInt8} (h : (S.write sd l).2 = 0) : (S.write sd l).1.now sd = S.now sd ++ l ∧ ∀ d, d ≠ sd → (S.write sd l).1.now d = S.now d := by
  unfold TS.write at h ⊢
  split
  · rename_i hr
    rw [if_pos hr] at h
    exact absurd h hr
  · rename_i hr
    rw [if_neg hr] at h
    split
    · rename_i hl
      rw [if_pos hl] at h
      cases h
    · have key : ∀ d, (TS.mk S.burn.s0 S.burn.s1 (S.us ++ TS.unitsW sd l) S.burn.bn S.burn.lf).now d = doneU d (S.now d) (TS.unitsW sd l) := fun d => by
        unfold TS.now TS.safe
        simp only [TS.burn_s0, TS.burn_s1]
        rw [doneU_append]
      refine ⟨?_, fun d hd => ?_⟩
      · show TS.now _ sd = _
        rw [key, TS.doneU_write]
      · show TS.now _ d = _
        rw [key, TS.doneU_other (Ne.symm hd)]
theorem TS.write_no {S : TS} {sd : Int} {l : List UInt8} (h : (S.write sd l).2 ≠ 0) : (S.write sd l).1 = S := by
  unfold TS.write at h ⊢
  split
  · rfl
  · rename_i hr
    rw [if_neg hr] at h
    split
    · rfl
    · rename_i hl
      rw [if_neg hl] at h
      exact absurd rfl h
/-! ### memory -/
/-- Two arrays of two slices each beside the tape: the first's as they are, the second's own their bytes. -/
structure Sy (w0 w : World) (N : Nat → Prop) (gs bw ba : Nat) (T : TypeId) (S : TS) (V0 V1 U0 U1 : Value) (l0 l1 : List UInt8) : Prop where
  lt : LT w0 w N gs S
  inn : ∀ x, x < w0.heap.size → N x
  nw : N bw
  na : N ba
  ne : bw ≠ ba
  gw : w0.heap.size ≤ bw
  ga : w0.heap.size ≤ ba
  rw' : w.heap[bw]? = some (.cells #[V0, V1] T (0, 0))
  ra : w.heap[ba]? = some (.cells #[U0, U1] T (0, 0))
  u0 : OwnB w w0.heap.size U0 l0.length l0
  u1 : OwnB w w0.heap.size U1 l1.length l1
  o0 : ∀ g, U0.ownBlock = some g → N g ∧ g ≠ bw ∧ g ≠ ba
  o1 : ∀ g, U1.ownBlock = some g → N g ∧ g ≠ bw ∧ g ≠ ba
  d : ∀ g, U0.ownBlock = some g → U1.ownBlock ≠ some g
theorem OwnB.kept' {w w' : World} {B n : Nat} {v : Value} {l : List UInt8} (h : OwnB w B v n l) (hk : ∀ g, v.ownBlock = some g → g < w.heap.size → w'.heap[g]? = w.heap[g]?) : OwnB w' B v n l := by
  refine ⟨h.1, ?_⟩
  rcases h.2 with hn | ⟨g, cap, cur, e, hB, hg, r⟩
  · exact .inl hn
  · exact .inr ⟨g, cap, cur, e, hB, (hk g (by rw [e]; rfl) (Array.getElem?_eq_some_iff.1 hg).1).trans hg, r⟩
section
variable {w0 w w' : World} {N : Nat → Prop} {gs bw ba : Nat} {T : TypeId} {S S' : TS} {V0 V1 U0 U1 : Value} {l0 l1 : List UInt8}
/-- The tape does something. -/
theorem Sy.call (h : Sy w0 w N gs bw ba T S V0 V1 U0 U1 l0 l1) (hl : LT w0 w' N gs S') (hs : StdT N w w') : Sy w0 w' N gs bw ba T S' V0 V1 U0 U1 l0 l1 :=
  ⟨hl, h.inn, h.nw, h.na, h.ne, h.gw, h.ga, (hs.1 _ h.nw).trans h.rw', (hs.1 _ h.na).trans h.ra, h.u0.kept' (fun g e _ => hs.1 g (h.o0 g e).1), h.u1.kept' (fun g e _ => hs.1 g (h.o1 g e).1), h.o0, h.o1, h.d⟩
/-- Something is made beside. -/
theorem Sy.made (h : Sy w0 w N gs bw ba T S V0 V1 U0 U1 l0 l1) {M : Nat → Prop} (hM : ∀ x, N x → M x) (hl : LT w0 w' M gs S) (hs : StdT N w w') : Sy w0 w' M gs bw ba T S V0 V1 U0 U1 l0 l1 :=
  ⟨hl, fun x hx => hM x (h.inn x hx), hM _ h.nw, hM _ h.na, h.ne, h.gw, h.ga, (hs.1 _ h.nw).trans h.rw', (hs.1 _ h.na).trans h.ra, h.u0.kept' (fun g e _ => hs.1 g (h.o0 g e).1), h.u1.kept' (fun g e _ => hs.1 g (h.o1 g e).1), fun g e => ⟨hM g (h.o0 g e).1, (h.o0 g e).2⟩, fun g e => ⟨hM g (h.o1 g e).1, (h.o1 g e).2⟩, h.d⟩
/-- Blocks of N beside the tape turn. -/
theorem LT.turnN (h : LT w0 w N gs S) {X : Nat → Prop} (hg : Grew w w' X) (hX : ∀ x, X x → N x ∧ w0.heap.size ≤ x) : LT w0 w' (fun x => N x ∨ (w.heap.size ≤ x ∧ x < w'.heap.size)) gs S := by
  obtain ⟨P, h1, h2, h3, h4⟩ := h
  refine ⟨P, h1.grew hg (fun x hx hp => (h2 x hp).2 (hX x hx).1), fun x hx => ⟨(h2 x hx).1, fun hN => hN.elim (h2 x hx).2 (fun e => by have := h1.dom x hx; omega)⟩, Grew.then_below h3 hg h3.size (fun x hx => (hX x hx).2), fun x hx => ?_⟩
  exact hx.elim (fun h => Nat.lt_of_lt_of_le (h4 x h) hg.size) (·.2)
theorem LT.setN (h : LT w0 w N gs S) {g : Nat} (hN : N g) (hg : w0.heap.size ≤ g) (j : Nat) (v : Value) : LT w0 (w.setCell ⟨g, j, none⟩ v) N gs S :=
  (h.turnN (X := fun x => x = g) (Grew.of_gro (gro_set1 w g j v) rfl) (fun x hx => by subst hx; exact ⟨hN, hg⟩)).less (fun x hx => .inl hx)
/-- was[side] = b. -/
theorem Sy.setW (h : Sy w0 w N gs bw ba T S V0 V1 U0 U1 l0 l1) (j : Nat) (v : Value) : Sy w0 (w.setCell ⟨bw, j, none⟩ v) N gs bw ba T S (if j = 0 then v else V0) (if j = 1 then v else V1) U0 U1 l0 l1 := by
  have hoth : ∀ x, x ≠ bw → (w.setCell ⟨bw, j, none⟩ v).heap[x]? = w.heap[x]? := fun x hx => heap_setCell_other w ⟨bw, j, none⟩ x v hx
  refine ⟨h.lt.setN h.nw h.gw j v, h.inn, h.nw, h.na, h.ne, h.gw, h.ga, ?_, (hoth _ (Ne.symm h.ne)).trans h.ra, h.u0.kept' (fun g e _ => hoth g (h.o0 g e).2.1), h.u1.kept' (fun g e _ => hoth g (h.o1 g e).2.1), h.o0, h.o1, h.d⟩
  rw [heap_setCell_same w bw j _ _ v h.rw']
  match j with
  | 0 => rfl
  | 1 => rfl
  | k + 2 => simp
/-- all[0] = append(all[0], k...). -/
theorem Sy.setU0 (h : Sy w0 w N gs bw ba T S V0 V1 U0 U1 l0 l1) {k : List UInt8} {A : Option Addr} {n c : Nat} (ho : OwnB w' w0.heap.size (.slice A n c) n (l0 ++ k)) (hg : w.grownBy w' U0.ownBlock)
    (hl : (Value.slice A n c).ownBlock = U0.ownBlock ∨ (Value.slice A n c).ownBlock = some w.heap.size) :
    Sy w0 (w'.setCell ⟨ba, 0, none⟩ (.slice A n c)) (fun x => N x ∨ (w.heap.size ≤ x ∧ x < w'.heap.size)) gs bw ba T S V0 V1 (.slice A n c) U1 (l0 ++ k) l1 := by
  have hoth : ∀ x, x ≠ ba → (w'.setCell ⟨ba, 0, none⟩ (.slice A n c)).heap[x]? = w'.heap[x]? := fun x hx => heap_setCell_other w' ⟨ba, 0, none⟩ x _ hx
  have hgk : ∀ x, x < w.heap.size → U0.ownBlock ≠ some x → w'.heap[x]? = w.heap[x]? := fun x h1 h2 => hg.block x h1 (fun e => h2 e.symm)
  have hdom : ∀ x, N x → x < w.heap.size := by obtain ⟨P, _, _, _, h4⟩ := h.lt; exact h4
  have hbw := hdom _ h.nw
  have hba := hdom _ h.na
  have hgr : Grew w w' (fun x => U0.ownBlock = some x) := ⟨hg.os, hg.tape, hg.output, hg.size, fun b hb hx => hgk b hb hx⟩
  have hL := h.lt.turnN hgr (fun x hx => ⟨(h.o0 x hx).1, (h.u0.lt x hx).1⟩)
  have hob : ∀ g, (Value.slice A n c).ownBlock = some g → (N g ∨ (w.heap.size ≤ g ∧ g < w'.heap.size)) ∧ g ≠ bw ∧ g ≠ ba ∧ U1.ownBlock ≠ some g := fun g e => by
    rcases hl with h1 | h1
    · rw [e] at h1
      obtain ⟨k1, k2, k3⟩ := h.o0 g h1.symm
      exact ⟨.inl k1, k2, k3, h.d g h1.symm⟩
    · have hlt := (ho.lt g e).2
      rw [e] at h1
      injection h1 with h1
      subst h1
      exact ⟨.inr ⟨Nat.le_refl _, hlt⟩, by omega, by omega, fun e2 => by have := hdom _ (h.o1 _ e2).1; omega⟩
  have hlen := ho.len
  refine ⟨hL.setN (.inl h.na) h.ga 0 _, fun x hx => .inl (h.inn x hx), .inl h.nw, .inl h.na, h.ne, h.gw, h.ga, ?_, ?_, ?_, ?_, fun g e => ⟨(hob g e).1, (hob g e).2.1, (hob g e).2.2.1⟩, fun g e => ⟨.inl (h.o1 g e).1, (h.o1 g e).2⟩, fun g e => (hob g e).2.2.2⟩
  · rw [hoth _ h.ne, hgk _ hbw (fun e => (h.o0 _ e).2.1 rfl)]; exact h.rw'
  · rw [heap_setCell_same w' ba 0 _ _ _ ((hgk _ hba (fun e => (h.o0 _ e).2.2 rfl)).trans h.ra)]; rfl
  · rw [hlen]; exact ho.kept' (fun g e _ => hoth g (hob g e).2.2.1)
  · exact (h.u1.kept' (fun g e hl => hgk g hl (fun e0 => h.d g e0 e))).kept' (fun g e _ => hoth g (h.o1 g e).2.2)
/-- all[1] = append(all[1], k...). -/
theorem Sy.setU1 (h : Sy w0 w N gs bw ba T S V0 V1 U0 U1 l0 l1) {k : List UInt8} {A : Option Addr} {n c : Nat} (ho : OwnB w' w0.heap.size (.slice A n c) n (l1 ++ k)) (hg : w.grownBy w' U1.ownBlock)
    (hl : (Value.slice A n c).ownBlock = U1.ownBlock ∨ (Value.slice A n c).ownBlock = some w.heap.size) :
    Sy w0 (w'.setCell ⟨ba, 1, none⟩ (.slice A n c)) (fun x => N x ∨ (w.heap.size ≤ x ∧ x < w'.heap.size)) gs bw ba T S V0 V1 U0 (.slice A n c) l0 (l1 ++ k) := by
  have hoth : ∀ x, x ≠ ba → (w'.setCell ⟨ba, 1, none⟩ (.slice A n c)).heap[x]? = w'.heap[x]? := fun x hx => heap_setCell_other w' ⟨ba, 1, none⟩ x _ hx
  have hgk : ∀ x, x < w.heap.size → U1.ownBlock ≠ some x → w'.heap[x]? = w.heap[x]? := fun x h1 h2 => hg.block x h1 (fun e => h2 e.symm)
  have hdom : ∀ x, N x → x < w.heap.size := by obtain ⟨P, _, _, _, h4⟩ := h.lt; exact h4
  have hbw := hdom _ h.nw
  have hba := hdom _ h.na
  have hgr : Grew w w' (fun x => U1.ownBlock = some x) := ⟨hg.os, hg.tape, hg.output, hg.size, fun b hb hx => hgk b hb hx⟩
  have hL := h.lt.turnN hgr (fun x hx => ⟨(h.o1 x hx).1, (h.u1.lt x hx).1⟩)
  have hob : ∀ g, (Value.slice A n c).ownBlock = some g → (N g ∨ (w.heap.size ≤ g ∧ g < w'.heap.size)) ∧ g ≠ bw ∧ g ≠ ba ∧ U0.ownBlock ≠ some g := fun g e => by
    rcases hl with h1 | h1
    · rw [e] at h1
      obtain ⟨k1, k2, k3⟩ := h.o1 g h1.symm
      exact ⟨.inl k1, k2, k3, fun e0 => h.d g e0 h1.symm⟩
    · have hlt := (ho.lt g e).2
      rw [e] at h1
      injection h1 with h1
      subst h1
      exact ⟨.inr ⟨Nat.le_refl _, hlt⟩, by omega, by omega, fun e2 => by have := hdom _ (h.o0 _ e2).1; omega⟩
  have hlen := ho.len
  refine ⟨hL.setN (.inl h.na) h.ga 1 _, fun x hx => .inl (h.inn x hx), .inl h.nw, .inl h.na, h.ne, h.gw, h.ga, ?_, ?_, ?_, ?_, fun g e => ⟨.inl (h.o0 g e).1, (h.o0 g e).2⟩, fun g e => ⟨(hob g e).1, (hob g e).2.1, (hob g e).2.2.1⟩, fun g e0 e1 => (hob g e1).2.2.2 e0⟩
  · rw [hoth _ h.ne, hgk _ hbw (fun e => (h.o1 _ e).2.1 rfl)]; exact h.rw'
  · rw [heap_setCell_same w' ba 1 _ _ _ ((hgk _ hba (fun e => (h.o1 _ e).2.2 rfl)).trans h.ra)]; rfl
  · exact (h.u0.kept' (fun g e hl => hgk g hl (fun e1 => h.d g e e1))).kept' (fun g e _ => hoth g (h.o0 g e).2.2)
  · rw [hlen]; exact ho.kept' (fun g e _ => hoth g (hob g e).2.2.1)
end
/-- append(s, x...) of bytes at a step of a region that draws; where it lies. -/
theorem step_appB2 {ops : Array Oper} {o : Oper} {a : Act} {w : World} {K : Act → World → Prop} {Q : Exit → Act → World → Prop} {F : Prop} (hgd : o.guard = none) (s x : Operand)
    (ho : o.op = .call { callee := .builtin .append, args := #[s, x], argTypes := #[28, 28] })
    (B : Nat) (v : Value) (n : Nat) (l : List UInt8) (hown : OwnB w B v n l) (hs : a.eval s = v)
    (A : Option Addr) (m c : Nat) (k : List UInt8) (hx : a.eval x = .slice A m c) (hl : k.length = m) (hr : Reads w A (bv k)) (hb : n + m ≤ 70368744177664) (hbase : B ≤ w.heap.size) (n' : Nat) (hn : n + m = n')
    (h : ∀ A' c' w', OwnB w' B (.slice A' n' c') n' (l ++ k) → w.grownBy w' v.ownBlock → ((Value.slice A' n' c').ownBlock = v.ownBlock ∨ (Value.slice A' n' c').ownBlock = some w.heap.size) → K (a.put o.dst (.slice A' n' c')) w') :
    if Region.wanted o (yielded ops a.tmps) = true then Oper.wp Try.prog o a w K Q else F := by
  subst hn
  have hw : Region.wanted o (yielded ops a.tmps) = true := by simp [Region.wanted, hgd]
  rw [if_pos hw]
  obtain ⟨A', c', w', hrun, h2, h3, h4⟩ := run_app2 (ty := o.type) slB hown (A := A) (m := m) (c := c) (news := bv k) (by rw [bv_length]; exact hl) hr (bv_one k) (by omega) (by unfold maxLen; omega) hbase
  unfold Oper.wp execOp
  simp only [ho, resolve, invoke, builtin, Sem.run_bind, Sem.run_pure, Result.andThen_ok, List.map_toArray, List.map_cons, List.map_nil, hs, hx, hrun]
  exact h A' c' w' (by unfold OwnB; rw [bv_append]; exact h2) h3 h4
/-- Behind y of both sides. -/
def Sy2 (w0 w : World) (gs bw ba : Nat) (T : TypeId) (S : TS) (y : Nat) : Prop :=
  ∃ (N : Nat → Prop) (V0 V1 U0 U1 : Value) (l0 l1 : List UInt8), Sy w0 w N gs bw ba T S V0 V1 U0 U1 l0 l1 ∧ (y = 0 → U0 = .slice none 0 0 ∧ l0 = []) ∧ (y ≤ 1 → U1 = .slice none 0 0 ∧ l1 = []) ∧
    (1 ≤ y → S.ready 0 = 0 ∧ l0 = S.now 0 ∧ ∃ A c, V0 = .slice A (S.now 0).length c) ∧ (2 ≤ y → l1 = S.now 1 ∧ ∃ A c, V1 = .slice A (S.now 1).length c)
theorem LT.dom {w0 w : World} {N : Nat → Prop} {g : Nat} {S : TS} (h : LT w0 w N g S) : ∀ x, N x → x < w.heap.size := by obtain ⟨P, _, _, _, h4⟩ := h; exact h4
theorem ready_one {S : TS} (h : S.ready 0 = 0) : S.ready 1 = 0 := by
  unfold TS.ready at h ⊢
  rw [if_neg (by omega)] at h ⊢
  exact h
theorem ready_down {S : TS} (h : ¬ S.ready 0 = 0) : S.ready 0 = 40 := by
  unfold TS.ready at h ⊢
  rw [if_neg (by omega)] at h ⊢
  split
  · rfl
  · rename_i h2
    rw [if_neg h2] at h
    exact absurd rfl h
theorem Wr.flat {S : TS} (h : S.us = []) : Wr S (S.now 0) (S.now 1) := by
  refine ⟨?_, ?_, fun u hu => by rw [h] at hu; cases hu⟩
  · unfold TS.now; rw [h]; rfl
  · unfold TS.now; rw [h]; rfl
theorem Wr.prefix {S : TS} {a b : List UInt8} (h : Wr S a b) (sd : Int) (k : Nat) : ∃ t1 t2, S.done sd k = S.safe sd ++ t1 ∧ S.now sd = S.done sd k ++ t2 := TS.prefix h.bo sd k
theorem TS.crash_read (S : TS) (z : Int) (sd : Int) (h : sd = 0 ∨ sd = 1) : (S.crash z).read sd = (S.done sd (S.keep z), 0) := by
  unfold TS.crash
  rw [TS.flat_read _ _ _ h]
  rcases h with rfl | rfl <;> rfl
theorem pk2 (c : Int) : pk c 2 = 0 ∨ pk c 2 = 1 := by unfold pk; omega
theorem own_cap {w : World} {B n c : Nat} {A : Option Addr} {l : List UInt8} (h : OwnB w B (.slice A n c) n l) : n ≤ c := by
  obtain ⟨A', c', e, h1⟩ := own_slice h
  injection e with _ _ e
  omega
theorem BytQ.keptB {w0 w w' : World} {A : Option Addr} {l : List UInt8} (h : BytQ w (fun b => b < w0.heap.size) A l) (hb : Below w0.heap.size w0 w) (hb' : Below w0.heap.size w0 w') : BytQ w' (fun b => b < w0.heap.size) A l := fun hn => by
  obtain ⟨ad, e, h1, h2, h3⟩ := h hn
  refine ⟨ad, e, h1, Nat.lt_of_lt_of_le h1 hb'.size, fun j x hx => ?_⟩
  rw [← h3 j x hx]
  unfold World.cell?
  rw [block_add, hb'.block _ h1, hb.block _ h1]
end Go.Proofs.Ytdigfbgjefffiaa.Sh
