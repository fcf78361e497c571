/-
  The document's own name, ReadRole and Read of a credential.
-/
import Derived.Test.YtghejdlijcmbbaaGreatDoorJo8
set_option linter.unusedVariables false
set_option linter.unusedSimpArgs false
namespace Go.Proofs.YtghejdlijcmbbaaGreatDoor.Sh
open Go Go.RowKit

theorem grown_set (w : World) (g k : Nat) (u : Value) : w.grownBy (w.setCell ⟨g, k, none⟩ u) (some g) :=
  ⟨rfl, rfl, rfl, by simp, fun i _ hne => Below.heap_setCell w ⟨g, k, none⟩ u i (fun e => hne (by rw [e]))⟩

/-- A store into a block that is new since a. -/
theorem gro_new {a w w' : World} {g b : Nat} (h : a.grownBy w (some g)) (hg : w.grownBy w' (some b)) (hb : a.heap.size ≤ b) : a.grownBy w' (some g) :=
  ⟨hg.os.trans h.os, hg.tape.trans h.tape, hg.output.trans h.output, Nat.le_trans h.size hg.size, fun k hk hne =>
    (hg.block k (Nat.lt_of_lt_of_le hk h.size) (fun e => by injection e with e; omega)).trans (h.block k hk hne)⟩
theorem gro_trans {a b c : World} {row : Option Nat} (h : a.grownBy b row) (k : b.grownBy c row) : a.grownBy c row :=
  ⟨k.os.trans h.os, k.tape.trans h.tape, k.output.trans h.output, Nat.le_trans h.size k.size, fun i hi hne => (k.block i (Nat.lt_of_lt_of_le hi h.size) hne).trans (h.block i hi hne)⟩
theorem gro_below {a w w' : World} {row : Option Nat} (h : a.grownBy w row) (hb : Below w.heap.size w w') : a.grownBy w' row :=
  ⟨hb.os.trans h.os, hb.tape.trans h.tape, hb.output.trans h.output, Nat.le_trans h.size hb.size, fun i hi hne => (hb.block i (Nat.lt_of_lt_of_le hi h.size)).trans (h.block i hi hne)⟩
theorem gro_alloc {a w : World} {row : Option Nat} (h : a.grownBy w row) (o : Obj) : a.grownBy (w.alloc o) row := gro_below h ((Below.refl _ _).alloc (Nat.le_refl _) _)
theorem gro_refl (w : World) (row : Option Nat) : w.grownBy w row := ⟨rfl, rfl, rfl, Nat.le_refl _, fun _ _ _ => rfl⟩

theorem CrAt.grown {w w' : World} {X : Nat} {r : Option Nat} {x : Crd} (h : CrAt w X x) (hg : w.grownBy w' r) (hne : r ≠ some X) : CrAt w' X x := (hg.block X h.lt (fun e => hne e.symm)).trans h
section
variable {T : TypeId} {w0 w w' : World} {lo hi g n c p p' : Nat} {A : Option Addr} {l : List UInt8} {e e' : Int} {X R : Nat} {x : Crd} {er : Ending} {v : Value}
end
section
variable {w : World} {X : Nat} {d q kd : Int} {nm wh ao an bo bn : ByteArray}
theorem CrAt.set0 (h : CrAt w X ⟨d, q, nm, kd, wh, ao, an, bo, bn⟩) (v : Int) : CrAt (w.setCell ⟨X, 0, none⟩ (.int .i64 v)) X ⟨v, q, nm, kd, wh, ao, an, bo, bn⟩ := heap_setCell_same w X 0 _ _ _ h
theorem CrAt.set1 (h : CrAt w X ⟨d, q, nm, kd, wh, ao, an, bo, bn⟩) (v : Int) : CrAt (w.setCell ⟨X, 1, none⟩ (.int .i64 v)) X ⟨d, v, nm, kd, wh, ao, an, bo, bn⟩ := heap_setCell_same w X 1 _ _ _ h
theorem CrAt.set2 (h : CrAt w X ⟨d, q, nm, kd, wh, ao, an, bo, bn⟩) (v : ByteArray) : CrAt (w.setCell ⟨X, 2, none⟩ (.string v)) X ⟨d, q, v, kd, wh, ao, an, bo, bn⟩ := heap_setCell_same w X 2 _ _ _ h
theorem CrAt.set3 (h : CrAt w X ⟨d, q, nm, kd, wh, ao, an, bo, bn⟩) (v : Int) : CrAt (w.setCell ⟨X, 3, none⟩ (.int .i64 v)) X ⟨d, q, nm, v, wh, ao, an, bo, bn⟩ := heap_setCell_same w X 3 _ _ _ h
theorem CrAt.set4 (h : CrAt w X ⟨d, q, nm, kd, wh, ao, an, bo, bn⟩) (v : ByteArray) : CrAt (w.setCell ⟨X, 4, none⟩ (.string v)) X ⟨d, q, nm, kd, v, ao, an, bo, bn⟩ := heap_setCell_same w X 4 _ _ _ h
theorem CrAt.set5 (h : CrAt w X ⟨d, q, nm, kd, wh, ao, an, bo, bn⟩) (v : ByteArray) : CrAt (w.setCell ⟨X, 5, none⟩ (.string v)) X ⟨d, q, nm, kd, wh, v, an, bo, bn⟩ := heap_setCell_same w X 5 _ _ _ h
theorem CrAt.set6 (h : CrAt w X ⟨d, q, nm, kd, wh, ao, an, bo, bn⟩) (v : ByteArray) : CrAt (w.setCell ⟨X, 6, none⟩ (.string v)) X ⟨d, q, nm, kd, wh, ao, v, bo, bn⟩ := heap_setCell_same w X 6 _ _ _ h
theorem CrAt.set7 (h : CrAt w X ⟨d, q, nm, kd, wh, ao, an, bo, bn⟩) (v : ByteArray) : CrAt (w.setCell ⟨X, 7, none⟩ (.string v)) X ⟨d, q, nm, kd, wh, ao, an, v, bn⟩ := heap_setCell_same w X 7 _ _ _ h
theorem CrAt.set8 (h : CrAt w X ⟨d, q, nm, kd, wh, ao, an, bo, bn⟩) (v : ByteArray) : CrAt (w.setCell ⟨X, 8, none⟩ (.string v)) X ⟨d, q, nm, kd, wh, ao, an, bo, v⟩ := heap_setCell_same w X 8 _ _ _ h
theorem CrAt.f (h : CrAt w X ⟨d, q, nm, kd, wh, ao, an, bo, bn⟩) (k : Nat) : w.frozen? ⟨X, k, none⟩ = false := frozen_of_row w X k _ _ h
end

end Go.Proofs.YtghejdlijcmbbaaGreatDoor.Sh
/-
  The document's own Read of a credential.
-/
namespace Go.Proofs.YtghejdlijcmbbaaGreatDoor.Sh
open Go Go.RowKit

theorem info_cred : (Tryz.prog.info? 45).map (·.size) = some 9 := by kernel_rfl
/-- Nine cells behind a store of all of them. -/
theorem nine_set {w : World} {g : Nat} {u0 u1 u2 u3 u4 u5 u6 u7 u8 v0 v1 v2 v3 v4 v5 v6 v7 v8 : Value} {t : TypeId} (h : w.heap[g]? = some (.cells #[u0, u1, u2, u3, u4, u5, u6, u7, u8] t (0, 0))) :
    (((((((((w.setCell ⟨g, 0, none⟩ v0).setCell ⟨g, 1, none⟩ v1).setCell ⟨g, 2, none⟩ v2).setCell ⟨g, 3, none⟩ v3).setCell ⟨g, 4, none⟩ v4).setCell ⟨g, 5, none⟩ v5).setCell ⟨g, 6, none⟩ v6).setCell ⟨g, 7, none⟩ v7).setCell ⟨g, 8, none⟩ v8).heap[g]? = some (.cells #[v0, v1, v2, v3, v4, v5, v6, v7, v8] t (0, 0)) := by
  have h0 : (w.setCell ⟨g, 0, none⟩ v0).heap[g]? = some (.cells #[v0, u1, u2, u3, u4, u5, u6, u7, u8] t (0, 0)) := heap_setCell_same w g 0 _ _ v0 h
  have h1 : ((w.setCell ⟨g, 0, none⟩ v0).setCell ⟨g, 1, none⟩ v1).heap[g]? = some (.cells #[v0, v1, u2, u3, u4, u5, u6, u7, u8] t (0, 0)) := heap_setCell_same (w.setCell ⟨g, 0, none⟩ v0) g 1 _ _ v1 h0
  have h2 : (((w.setCell ⟨g, 0, none⟩ v0).setCell ⟨g, 1, none⟩ v1).setCell ⟨g, 2, none⟩ v2).heap[g]? = some (.cells #[v0, v1, v2, u3, u4, u5, u6, u7, u8] t (0, 0)) := heap_setCell_same ((w.setCell ⟨g, 0, none⟩ v0).setCell ⟨g, 1, none⟩ v1) g 2 _ _ v2 h1
  have h3 : ((((w.setCell ⟨g, 0, none⟩ v0).setCell ⟨g, 1, none⟩ v1).setCell ⟨g, 2, none⟩ v2).setCell ⟨g, 3, none⟩ v3).heap[g]? = some (.cells #[v0, v1, v2, v3, u4, u5, u6, u7, u8] t (0, 0)) := heap_setCell_same (((w.setCell ⟨g, 0, none⟩ v0).setCell ⟨g, 1, none⟩ v1).setCell ⟨g, 2, none⟩ v2) g 3 _ _ v3 h2
  have h4 : (((((w.setCell ⟨g, 0, none⟩ v0).setCell ⟨g, 1, none⟩ v1).setCell ⟨g, 2, none⟩ v2).setCell ⟨g, 3, none⟩ v3).setCell ⟨g, 4, none⟩ v4).heap[g]? = some (.cells #[v0, v1, v2, v3, v4, u5, u6, u7, u8] t (0, 0)) := heap_setCell_same ((((w.setCell ⟨g, 0, none⟩ v0).setCell ⟨g, 1, none⟩ v1).setCell ⟨g, 2, none⟩ v2).setCell ⟨g, 3, none⟩ v3) g 4 _ _ v4 h3
  have h5 : ((((((w.setCell ⟨g, 0, none⟩ v0).setCell ⟨g, 1, none⟩ v1).setCell ⟨g, 2, none⟩ v2).setCell ⟨g, 3, none⟩ v3).setCell ⟨g, 4, none⟩ v4).setCell ⟨g, 5, none⟩ v5).heap[g]? = some (.cells #[v0, v1, v2, v3, v4, v5, u6, u7, u8] t (0, 0)) := heap_setCell_same (((((w.setCell ⟨g, 0, none⟩ v0).setCell ⟨g, 1, none⟩ v1).setCell ⟨g, 2, none⟩ v2).setCell ⟨g, 3, none⟩ v3).setCell ⟨g, 4, none⟩ v4) g 5 _ _ v5 h4
  have h6 : (((((((w.setCell ⟨g, 0, none⟩ v0).setCell ⟨g, 1, none⟩ v1).setCell ⟨g, 2, none⟩ v2).setCell ⟨g, 3, none⟩ v3).setCell ⟨g, 4, none⟩ v4).setCell ⟨g, 5, none⟩ v5).setCell ⟨g, 6, none⟩ v6).heap[g]? = some (.cells #[v0, v1, v2, v3, v4, v5, v6, u7, u8] t (0, 0)) := heap_setCell_same ((((((w.setCell ⟨g, 0, none⟩ v0).setCell ⟨g, 1, none⟩ v1).setCell ⟨g, 2, none⟩ v2).setCell ⟨g, 3, none⟩ v3).setCell ⟨g, 4, none⟩ v4).setCell ⟨g, 5, none⟩ v5) g 6 _ _ v6 h5
  have h7 : ((((((((w.setCell ⟨g, 0, none⟩ v0).setCell ⟨g, 1, none⟩ v1).setCell ⟨g, 2, none⟩ v2).setCell ⟨g, 3, none⟩ v3).setCell ⟨g, 4, none⟩ v4).setCell ⟨g, 5, none⟩ v5).setCell ⟨g, 6, none⟩ v6).setCell ⟨g, 7, none⟩ v7).heap[g]? = some (.cells #[v0, v1, v2, v3, v4, v5, v6, v7, u8] t (0, 0)) := heap_setCell_same (((((((w.setCell ⟨g, 0, none⟩ v0).setCell ⟨g, 1, none⟩ v1).setCell ⟨g, 2, none⟩ v2).setCell ⟨g, 3, none⟩ v3).setCell ⟨g, 4, none⟩ v4).setCell ⟨g, 5, none⟩ v5).setCell ⟨g, 6, none⟩ v6) g 7 _ _ v7 h6
  have h8 : (((((((((w.setCell ⟨g, 0, none⟩ v0).setCell ⟨g, 1, none⟩ v1).setCell ⟨g, 2, none⟩ v2).setCell ⟨g, 3, none⟩ v3).setCell ⟨g, 4, none⟩ v4).setCell ⟨g, 5, none⟩ v5).setCell ⟨g, 6, none⟩ v6).setCell ⟨g, 7, none⟩ v7).setCell ⟨g, 8, none⟩ v8).heap[g]? = some (.cells #[v0, v1, v2, v3, v4, v5, v6, v7, v8] t (0, 0)) := heap_setCell_same ((((((((w.setCell ⟨g, 0, none⟩ v0).setCell ⟨g, 1, none⟩ v1).setCell ⟨g, 2, none⟩ v2).setCell ⟨g, 3, none⟩ v3).setCell ⟨g, 4, none⟩ v4).setCell ⟨g, 5, none⟩ v5).setCell ⟨g, 6, none⟩ v6).setCell ⟨g, 7, none⟩ v7) g 8 _ _ v8 h7
  exact h8
section
variable {T : TypeId} {w0 w : World} {lo hi g n c p : Nat} {A : Option Addr} {l : List UInt8} {e : Int} {X R : Nat} {x : Crd}
end

end Go.Proofs.YtghejdlijcmbbaaGreatDoor.Sh
