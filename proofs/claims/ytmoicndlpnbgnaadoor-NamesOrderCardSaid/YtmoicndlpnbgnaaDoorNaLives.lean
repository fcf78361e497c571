/-
  lives: the document's examples of layer 4.
-/
import Derived.Test.YtmoicndlpnbgnaaDoorNaProg
namespace Go.Proofs.YtmoicndlpnbgnaaDoor.Sh
open Go Go.RowKit
/-- A role in a block of its own. -/
def RoleAt (w : World) (g : Nat) (o n : ByteArray) : Prop := w.heap[g]? = some (.cells #[.string o, .string n] 23 (0, 0))
theorem RoleAt.new (w : World) (o n : ByteArray) : RoleAt (w.alloc (.cells #[.string o, .string n] 23)) w.heap.size o n := heap_alloc_new w _
theorem RoleAt.c0 {w : World} {g : Nat} {o n : ByteArray} (h : RoleAt w g o n) : w.cell? ⟨g, 0, none⟩ = some (.string o) := by rw [cell_of_row w g 0 _ _ (0, 0) h]; rfl
theorem RoleAt.c1 {w : World} {g : Nat} {o n : ByteArray} (h : RoleAt w g o n) : w.cell? ⟨g, 1, none⟩ = some (.string n) := by rw [cell_of_row w g 1 _ _ (0, 0) h]; rfl
theorem RoleAt.lt {w : World} {g : Nat} {o n : ByteArray} (h : RoleAt w g o n) : g < w.heap.size := (Array.getElem?_eq_some_iff.1 h).1
theorem RoleAt.below {w w' : World} {B g : Nat} {o n : ByteArray} (h : RoleAt w g o n) (hb : Below B w w') (hg : g < B) : RoleAt w' g o n := (hb.block g hg).trans h
theorem RoleAt.kept {w w' : World} {g : Nat} {o n : ByteArray} (h : RoleAt w g o n) (hb : Below w.heap.size w w') : RoleAt w' g o n := h.below hb h.lt
theorem below_box (w : World) (o n : ByteArray) : Below w.heap.size w (w.alloc (.cells #[.string o, .string n] 23)) := (Below.refl _ _).alloc (Nat.le_refl _) _
theorem rb1 : readB ⟨#[100, 49, 46, 97]⟩ = (⟨#[100, 49]⟩, ⟨#[97]⟩, 0) := by decide +kernel
theorem rb2 : readB ⟨#[120, 46, 97]⟩ = (⟨#[]⟩, ⟨#[]⟩, 10) := by decide +kernel

set_option maxHeartbeats 2000000 in
theorem lives_any (w : World) : Calls Tryd.prog 15 #[] w fun e w' => e = .returned (.bool true) ∧ Below w.heap.size w w' := by
  have R1 := hid (fun w => rb1 ▸ read_any ⟨#[100, 49, 46, 97]⟩ (by decide) w)
  have R2 := hid (fun w => rb2 ▸ read_any ⟨#[120, 46, 97]⟩ (by decide) w)
  have D3 := hid (fun w => (show domL 3 = [100, 51] by decide) ▸ domain_any 3 (by omega) (by omega) w)
  have D17 := hid (fun w => (show domL 17 = [] by decide) ▸ domain_any 17 (by omega) (by omega) w)
  have N03 := hid (fun w => (show numL (⟨#[100, 48, 51]⟩ : ByteArray).data.toList = 0 by decide) ▸ number_any ⟨#[100, 48, 51]⟩ w)
  have N16 := hid (fun w => (show numL (⟨#[100, 49, 54]⟩ : ByteArray).data.toList = 16 by decide) ▸ number_any ⟨#[100, 49, 54]⟩ w)
  have M1 := hid (fun w => (show mayL (⟨#[97, 49]⟩ : ByteArray).data.toList = true by decide) ▸ may_any ⟨#[97, 49]⟩ w)
  have M2 := hid (fun w => (show mayL (⟨#[49, 97]⟩ : ByteArray).data.toList = false by decide) ▸ may_any ⟨#[49, 97]⟩ w)
  go_enter Tryd.func15, Tryd.ntmps15
  go_wp2_with fail
  refine (R1.out w).mono ?_
  rintro er w1 ⟨rfl, b1⟩
  unfold roleEnd
  go_wp2_with fail
  have r1 := RoleAt.new w1 ⟨#[100, 49]⟩ ⟨#[97]⟩
  have b2 := b1.trans ((below_box w1 ⟨#[100, 49]⟩ ⟨#[97]⟩).mono b1.size)
  have hg := b1.size
  obtain ⟨g, hgg⟩ : ∃ g, g = w1.heap.size := ⟨_, rfl⟩
  rw [← hgg] at r1 ⊢
  obtain ⟨w2, hw2⟩ : ∃ w2, w2 = w1.alloc (.cells #[.string ⟨#[100, 49]⟩, .string ⟨#[97]⟩] 23) := ⟨_, rfl⟩
  rw [← hw2] at r1 b2 ⊢
  clear hw2 b1 hgg hg
  refine (R2.out w2).mono ?_
  rintro er w3 ⟨rfl, bb⟩
  have r3 := r1.kept bb
  have b3 := b2.trans (bb.mono b2.size)
  unfold roleEnd
  clear r1 b2 bb
  go_wp2_with fail
  have r4 := r3.kept (below_box w3 ⟨#[]⟩ ⟨#[]⟩)
  have b4 := b3.trans ((below_box w3 ⟨#[]⟩ ⟨#[]⟩).mono b3.size)
  obtain ⟨w4, hw4⟩ : ∃ w4, w4 = w3.alloc (.cells #[.string ⟨#[]⟩, .string ⟨#[]⟩] 23) := ⟨_, rfl⟩
  rw [← hw4] at r4 b4 ⊢
  clear hw4 b3 r3
  refine (D3.out w4).mono ?_
  rintro er w5 ⟨rfl, bb⟩
  have r5 := r4.kept bb
  have b5 := b4.trans (bb.mono b4.size)
  clear r4 b4 bb
  go_wp2_with fail
  refine (D17.out w5).mono ?_
  rintro er w6 ⟨rfl, bb⟩
  have r6 := r5.kept bb
  have b6 := b5.trans (bb.mono b5.size)
  clear r5 b5 bb
  go_wp2_with fail
  refine (N03.out w6).mono ?_
  rintro er w7 ⟨rfl, bb⟩
  have r7 := r6.kept bb
  have b7 := b6.trans (bb.mono b6.size)
  clear r6 b6 bb
  go_wp2_with fail
  refine (N16.out w7).mono ?_
  rintro er w8 ⟨rfl, bb⟩
  have r8 := r7.kept bb
  have b8 := b7.trans (bb.mono b7.size)
  clear r7 b7 bb
  have k0 := r8.c0
  have k1 := r8.c1
  go_wp2_with fail
  refine (M1.out w8).mono ?_
  rintro er w9 ⟨rfl, bb⟩
  have b9 := b8.trans (bb.mono b8.size)
  clear b8 bb
  go_wp2_with fail
  refine (M2.out w9).mono ?_
  rintro er w10 ⟨rfl, bb⟩
  have b10 := b9.trans (bb.mono b9.size)
  clear b9 bb
  go_wp2_with fail
  go_ret
  exact ⟨rfl, b10⟩
end Go.Proofs.YtmoicndlpnbgnaaDoor.Sh
