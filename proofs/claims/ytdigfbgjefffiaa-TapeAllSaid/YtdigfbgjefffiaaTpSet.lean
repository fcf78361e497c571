/-
  The document's tape: its cells written over; one unit more.
-/
import Derived.Test.YtdigfbgjefffiaaTpRefA
namespace Go.Proofs.Ytdigfbgjefffiaa.Sh
open Go Go.RowKit

set_option linter.unusedSimpArgs false
set_option linter.unusedVariables false
theorem plusQ_grow {P : Nat → Prop} {n m k : Nat} (hm : m ≤ k) : ∀ x, plusQ P n m x → plusQ P n k x := fun x hx => hx.elim .inl fun h => .inr ⟨h.1, Nat.lt_of_lt_of_le h.2 hm⟩
theorem plusQ_twice {P : Nat → Prop} {n m M k : Nat} (hn : n ≤ M) (hm : m ≤ k) : ∀ x, plusQ (plusQ P n m) M k x → plusQ P n k x := fun x hx => hx.elim (fun h => plusQ_grow hm x h) fun h => .inr ⟨Nat.le_trans hn h.1, h.2⟩
/-- What turns the object's own blocks and what it made, behind what did so. -/
theorem Grew.thenQ {w w1 w2 : World} {P : Nat → Prop} {m : Nat} (h : Grew w w1 P) (h' : Grew w1 w2 (plusQ P w.heap.size m)) : Grew w w2 P :=
  ⟨h'.os.trans h.os, h'.tape.trans h.tape, h'.output.trans h.output, Nat.le_trans h.size h'.size, fun b hb hx => (h'.block b (Nat.lt_of_lt_of_le hb h.size) (fun hp => hp.elim hx (fun h3 => by omega))).trans (h.block b hb hx)⟩
theorem below_drew1 (w : World) : Below w.heap.size w w.drew := (Below.refl _ _).drew
section
variable {w w' : World} {P Q X : Nat → Prop} {q s c0 c1 uc : Nat} {A0 A1 UA : Option Addr} {S : TS}
/-- Its own row is written over: the fuse. -/
theorem TapE.rerow {bn : Bool} {lf : Int} (e : TapE w P q s A0 A1 UA c0 c1 uc S) (hg : w.grownBy w' (some q)) (hr : w'.heap[q]? = some (.cells #[.slice (some ⟨s, 0, none⟩) 2 2, .slice UA S.us.length uc, .bool bn, .int .i64 lf] 58 (0, 0))) :
    TapE w' P q s A0 A1 UA c0 c1 uc ⟨S.s0, S.s1, S.us, bn, lf⟩ := by
  have hne : ∀ x, x ≠ q → x < w.heap.size → w'.heap[x]? = w.heap[x]? := fun x h1 h2 => hg.block x h2 (fun e => h1 (Option.some.inj e))
  exact ⟨e.p0, e.p1, e.n1, hr, (hne s (Ne.symm e.n1) (e.dom s e.p1)).trans e.sf, e.b0.kept (fun x hx hl => hne x hx.2.1 hl) hg.size, e.b1.kept (fun x hx hl => hne x hx.2.1 hl) hg.size,
    e.own.kept (fun g h => hne g (e.ob g h).2.1 (e.dom g (e.ob g h).1)), e.ob, fun x hx => Nat.lt_of_lt_of_le (e.dom x hx) hg.size⟩
theorem TapE.setLf (e : TapE w P q s A0 A1 UA c0 c1 uc S) (lf : Int) : TapE (w.setCell ⟨q, 3, none⟩ (.int .i64 lf)) P q s A0 A1 UA c0 c1 uc ⟨S.s0, S.s1, S.us, S.bn, lf⟩ ∧ Grew w (w.setCell ⟨q, 3, none⟩ (.int .i64 lf)) P :=
  ⟨e.rerow (gro_set1 w q 3 _) (heap_setCell_same w q 3 _ _ _ e.row), Grew.of_gro (gro_set1 w q 3 _) e.p0⟩
theorem TapE.setBn (e : TapE w P q s A0 A1 UA c0 c1 uc S) (bn : Bool) : TapE (w.setCell ⟨q, 2, none⟩ (.bool bn)) P q s A0 A1 UA c0 c1 uc ⟨S.s0, S.s1, S.us, bn, S.lf⟩ ∧ Grew w (w.setCell ⟨q, 2, none⟩ (.bool bn)) P :=
  ⟨e.rerow (gro_set1 w q 2 _) (heap_setCell_same w q 2 _ _ _ e.row), Grew.of_gro (gro_set1 w q 2 _) e.p0⟩
/-- A unit more: the row grew, then the header. -/
theorem TapE.app {u : Un} {A' : Option Addr} {c' : Nat} (e : TapE w P q s A0 A1 UA c0 c1 uc S) (ho : Own (E := encU) w' 0 64 (.slice A' (S.us.length + 1) c') (S.us ++ [u])) (hg : w.grownBy w' (Value.slice UA S.us.length uc).ownBlock)
    (hl : (Value.slice A' (S.us.length + 1) c').ownBlock = (Value.slice UA S.us.length uc).ownBlock ∨ (Value.slice A' (S.us.length + 1) c').ownBlock = some w.heap.size) :
    TapE (w'.setCell ⟨q, 1, none⟩ (.slice A' (S.us.length + 1) c')) (plusQ P w.heap.size w'.heap.size) q s A0 A1 A' c0 c1 c' ⟨S.s0, S.s1, S.us ++ [u], S.bn, S.lf⟩ ∧ Grew w (w'.setCell ⟨q, 1, none⟩ (.slice A' (S.us.length + 1) c')) P := by
  have hlen : (S.us ++ [u]).length = S.us.length + 1 := by simp
  have hne : ∀ x, (Value.slice UA S.us.length uc).ownBlock ≠ some x → x < w.heap.size → w'.heap[x]? = w.heap[x]? := fun x h1 h2 => hg.block x h2 (fun e => h1 e.symm)
  have hq : (Value.slice UA S.us.length uc).ownBlock ≠ some q := fun h => (e.ob q h).2.1 rfl
  have hs : (Value.slice UA S.us.length uc).ownBlock ≠ some s := fun h => (e.ob s h).2.2 rfl
  have hrow := (hne q hq (e.dom q e.p0)).trans e.row
  have hsf := (hne s hs (e.dom s e.p1)).trans e.sf
  have hgr := gro_set1 w' q 1 (.slice A' (S.us.length + 1) c')
  have hsz : (w'.setCell ⟨q, 1, none⟩ (.slice A' (S.us.length + 1) c')).heap.size = w'.heap.size := by simp
  have hoth : ∀ x, x ≠ q → (w'.setCell ⟨q, 1, none⟩ (.slice A' (S.us.length + 1) c')).heap[x]? = w'.heap[x]? := fun x h => heap_setCell_other w' ⟨q, 1, none⟩ x _ h
  have hob : ∀ g, (Value.slice A' (S.us.length + 1) c').ownBlock = some g → plusQ P w.heap.size w'.heap.size g ∧ g ≠ q ∧ g ≠ s := fun g h => by
    have hlt := (ho.lt g h).2
    rcases hl with h1 | h1
    · rw [h] at h1
      obtain ⟨k1, k2, k3⟩ := e.ob g h1.symm
      exact ⟨.inl k1, k2, k3⟩
    · rw [h] at h1
      injection h1 with h1
      subst h1
      exact ⟨.inr ⟨Nat.le_refl _, hlt⟩, fun h2 => by have := e.dom q e.p0; omega, fun h2 => by have := e.dom s e.p1; omega⟩
  have hbq : ∀ {A : Option Addr} {l : List UInt8}, BytQ w (fun x => P x ∧ x ≠ q ∧ (Value.slice UA S.us.length uc).ownBlock ≠ some x) A l →
      BytQ (w'.setCell ⟨q, 1, none⟩ (.slice A' (S.us.length + 1) c')) (fun x => plusQ P w.heap.size w'.heap.size x ∧ x ≠ q ∧ (Value.slice A' (S.us.length + 1) c').ownBlock ≠ some x) A l := fun h hn => by
    obtain ⟨ad, ea, ⟨k1, k2, k3⟩, k4, k5⟩ := h hn
    refine ⟨ad, ea, ⟨.inl k1, k2, fun h2 => ?_⟩, by rw [hsz]; exact Nat.lt_of_lt_of_le k4 hg.size, fun j x hx => ?_⟩
    · rcases hl with h1 | h1
      · rw [h2] at h1; exact k3 h1.symm
      · rw [h2] at h1; injection h1 with h1; omega
    · rw [← k5 j x hx]
      unfold World.cell?
      rw [block_add, hoth _ k2, hne _ k3 k4]
  refine ⟨⟨.inl e.p0, .inl e.p1, e.n1, ?_, (hoth s (Ne.symm e.n1)).trans hsf, ?_, ?_, ?_, ?_, fun x hx => ?_⟩, ⟨(hgr.os).trans hg.os, (hgr.tape).trans hg.tape, (hgr.output).trans hg.output, by rw [hsz]; exact hg.size, fun b hb hx => ?_⟩⟩
  · rw [heap_setCell_same w' q 1 _ _ _ hrow, hlen]; rfl
  · show BytQ _ (fun x => _ ∧ _ ∧ (Value.slice A' (S.us ++ [u]).length c').ownBlock ≠ some x) _ _
    rw [hlen]; exact hbq e.b0
  · show BytQ _ (fun x => _ ∧ _ ∧ (Value.slice A' (S.us ++ [u]).length c').ownBlock ≠ some x) _ _
    rw [hlen]; exact hbq e.b1
  · show Own (E := encU) _ 0 _ (.slice A' (S.us ++ [u]).length c') _
    rw [hlen]
    exact ho.kept (fun g h => hoth g (hob g h).2.1)
  · show ∀ g, (Value.slice A' (S.us ++ [u]).length c').ownBlock = some g → _
    rw [hlen]; exact hob
  · rw [hsz]; exact plusQ_dom e.dom hg.size x hx
  · rw [hoth b (fun h => hx (h ▸ e.p0))]
    exact hg.block b hb (fun h => hx (e.ob b h.symm).1)
end
theorem TS.Ok.burn {S : TS} {sd : Int} (h : TS.Ok S) (hr : S.ready sd = 0) : TS.Ok S.burn := by
  have hb := TS.burn_ok h hr
  have e : S.burn = TS.mk S.s0 S.s1 S.us S.burn.bn S.burn.lf := by
    have := TS.eta S S.us
    rw [← this]
    unfold TS.burn; split <;> rfl
  rw [e]
  exact ⟨h.len, h.cut, hb.1, hb.2⟩
set_option maxHeartbeats 1000000 in
theorem refBurn_any {w : World} {P : Nat → Prop} {q s c0 c1 uc : Nat} {A0 A1 UA : Option Addr} {S : TS} (e : TapE w P q s A0 A1 UA c0 c1 uc S) (hlf : 0 ≤ S.lf ∧ S.lf ≤ 1099511627776) :
    Calls Try.prog 42 #[.pointer (some ⟨q, 0, none⟩)] w fun er w' => er = .returned (.tuple #[]) ∧ TapE w' P q s A0 A1 UA c0 c1 uc S.burn ∧ Grew w w' P := by
  obtain ⟨k00, k01, k02, k03⟩ := (e.cells w (Below.refl _ _)).1
  have f03 := (e.cells w (Below.refl _ _)).2.2 3
  obtain ⟨l0, l1⟩ := hlf
  cases hbn : S.bn with
  | false =>
    have HR : Hid (S.burn = S) := hid (by unfold TS.burn; rw [hbn]; rfl)
    rw [hbn] at k02
    have HE := hid e
    clear hbn e
    go_enter Try.func42, Try.ntmps42
    go_wp2
    go_end0
    exact ⟨rfl, by rw [HR.out]; exact HE.out, Grew.refl _ _⟩
  | true =>
    have HR : Hid (S.burn = ⟨S.s0, S.s1, S.us, S.bn, S.lf - 1⟩) := hid (by unfold TS.burn; rw [hbn]; rfl)
    rw [hbn] at k02
    have HE := hid (e.setLf (S.lf - 1))
    clear hbn e
    go_enter Try.func42, Try.ntmps42
    go_wp2
    go_end0
    exact ⟨rfl, by rw [HR.out]; exact HE.out.1, HE.out.2⟩
end Go.Proofs.Ytdigfbgjefffiaa.Sh
