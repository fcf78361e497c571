/-
  The program's tape: add. Written by mk_tppgd.py.
-/
import Derived.Test.YtdigfbgjefffiaaTpPgC
import Derived.Test.YtdigfbgjefffiaaBaCall
import Derived.Deep.RegionHeld3
namespace Go.Proofs.Ytdigfbgjefffiaa.Sh
open Go Go.RowKit

set_option linter.unusedSimpArgs false
set_option linter.unusedVariables false
section
variable {w : World} {P : Nat → Prop} {κ : Nat → Nat} {q un uc : Nat} {V0 V1 U0 U1 : Hd} {UA : Option Addr} {a0 a1 b0 b1 : List UInt8} {L : List Ru} {ct lf : Int} {bn : Bool}
/-- A run more: the row grew, then the header. -/
theorem TapF.app {w4 : World} {A' : Option Addr} {c' : Nat} {y : Ru} (e : TapF w P κ q V0 V1 U0 U1 UA un uc a0 a1 b0 b1 L ct bn lf) (ho : Own (E := encR) w4 0 61 (.slice A' (un + 1) c') (L ++ [y])) (hg : w.grownBy w4 (Value.slice UA un uc).ownBlock)
    (hl : (Value.slice A' (un + 1) c').ownBlock = (Value.slice UA un uc).ownBlock ∨ (Value.slice A' (un + 1) c').ownBlock = some w.heap.size) (hy : y.1.dt.length ≤ y.2.2 ∧ y.2.2 ≤ 9223372036854775807 ∧ BytQ w (fun g => P g ∧ κ g = 2) y.2.1 y.1.dt) :
    TapF (w4.setCell ⟨q, 4, none⟩ (.slice A' (un + 1) c')) (plusQ P w.heap.size w4.heap.size) (kapQ κ w.heap.size 3) q V0 V1 U0 U1 A' (un + 1) c' a0 a1 b0 b1 (L ++ [y]) ct bn lf ∧ Grew w (w4.setCell ⟨q, 4, none⟩ (.slice A' (un + 1) c')) P := by
  have hgs := hg.size
  have hne : ∀ x r, (P x ∧ κ x = r) → r ≠ 3 → w4.heap[x]? = w.heap[x]? := fun x r hx hr => hg.block x (e.dom x hx.1) (fun h2 => hr (hx.2.symm.trans (e.ob x h2.symm).2))
  have hq5 : ∀ x, x ≠ q → (w4.setCell ⟨q, 4, none⟩ (.slice A' (un + 1) c')).heap[x]? = w4.heap[x]? := fun x hx => heap_setCell_other w4 ⟨q, 4, none⟩ x _ hx
  have hnq : ∀ x r, (P x ∧ κ x = r) → r ≠ 4 → x ≠ q := fun x r hx hr h3 => by have h9 := hx.2; rw [h3, e.pq.2] at h9; exact hr h9.symm
  have hkeep : ∀ x r, (P x ∧ κ x = r) → r ≠ 3 → r ≠ 4 → (w4.setCell ⟨q, 4, none⟩ (.slice A' (un + 1) c')).heap[x]? = w.heap[x]? := fun x r hx hr h4 => (hq5 x (hnq x r hx h4)).trans (hne x r hx hr)
  have hK : ∀ r x, (P x ∧ κ x = r) → plusQ P w.heap.size w4.heap.size x ∧ kapQ κ w.heap.size 3 x = r := fun r x hx => ⟨.inl hx.1, (kapQ_old (e.dom x hx.1)).trans hx.2⟩
  have hrow : w4.heap[q]? = some (rowT V0 V1 U0 U1 UA un uc ct bn lf) := (hne q 4 e.pq (by omega)).trans e.row
  have hw : w4.grownBy (w4.setCell ⟨q, 4, none⟩ (.slice A' (un + 1) c')) (some q) := gro_set1 w4 q 4 _
  have hsz : (w4.setCell ⟨q, 4, none⟩ (.slice A' (un + 1) c')).heap.size = w4.heap.size := size_setQ _ _ _
  have hob : ∀ g, (Value.slice A' (un + 1) c').ownBlock = some g → plusQ P w.heap.size w4.heap.size g ∧ kapQ κ w.heap.size 3 g = 3 := fun g h => by
    have hlt := (ho.lt g h).2
    rcases hl with h1 | h1
    · rw [h] at h1
      exact hK 3 g (e.ob g h1.symm)
    · rw [h] at h1
      injection h1 with h1
      subst h1
      exact ⟨.inr ⟨Nat.le_refl _, hlt⟩, kapQ_new (Nat.le_refl _)⟩
  have hdat : ∀ x : Ru, (x.1.dt.length ≤ x.2.2 ∧ x.2.2 ≤ 9223372036854775807 ∧ BytQ w (fun g => P g ∧ κ g = 2) x.2.1 x.1.dt) → x.1.dt.length ≤ x.2.2 ∧ x.2.2 ≤ 9223372036854775807 ∧ BytQ (w4.setCell ⟨q, 4, none⟩ (.slice A' (un + 1) c')) (fun g => plusQ P w.heap.size w4.heap.size g ∧ kapQ κ w.heap.size 3 g = 2) x.2.1 x.1.dt :=
    fun x hx => ⟨hx.1, hx.2.1, (hx.2.2.kept (fun g h2 _ => hkeep g 2 h2 (by omega) (by omega)) (by omega)).imp (fun g h2 _ => hK 2 g h2)⟩
  refine ⟨⟨hK 4 q e.pq, by rw [heap_setCell_same w4 q 4 _ _ _ hrow]; rfl, (e.s0.kept (fun x hx _ => hkeep x 0 hx (by omega) (by omega))).imp (fun x hx _ => hK 0 x hx), (e.s1.kept (fun x hx _ => hkeep x 1 hx (by omega) (by omega))).imp (fun x hx _ => hK 1 x hx),
    ho.kept (fun g h => hq5 g (fun h2 => by have h3 := (hob g h).2; rw [h2, kapQ_old (e.dom q e.pq.1), e.pq.2] at h3; cases h3)), by rw [List.length_append, e.ul]; rfl, hob, fun x hx => ?_, fun x hx => by rw [hsz]; exact hx.elim (fun h2 => by have := e.dom x h2; omega) (·.2)⟩, ⟨hw.os.trans hg.os, hw.tape.trans hg.tape, hw.output.trans hg.output, by omega, fun b hb hx => ?_⟩⟩
  · rcases List.mem_append.1 hx with h | h
    · exact hdat x (e.dat x h)
    · rw [List.mem_singleton.1 h]
      exact hdat y hy
  · rw [hq5 b (fun h => hx (h ▸ e.pq.1))]
    exact hg.block b hb (fun h => hx (e.ob b h.symm).1)
end
end Go.Proofs.Ytdigfbgjefffiaa.Sh
