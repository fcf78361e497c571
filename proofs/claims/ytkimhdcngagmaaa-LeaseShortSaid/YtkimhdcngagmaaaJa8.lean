/-
  The document's own name, ReadRole and Read of a credential.
-/
import Derived.Test.YtkimhdcngagmaaaJa7
import Derived.Test.YtkimhdcngagmaaaJa6
import Derived.Test.YtkimhdcngagmaaaJa4
set_option linter.unusedVariables false
set_option linter.unusedSimpArgs false
namespace Go.Proofs.Ytkimhdcngagmaaa.Sh
open Go Go.RowKit

theorem grown_set (w : World) (g k : Nat) (u : Value) : w.grownBy (w.setCell ⟨g, k, none⟩ u) (some g) :=
  ⟨rfl, rfl, rfl, by simp, fun i _ hne => Below.heap_setCell w ⟨g, k, none⟩ u i (fun e => hne (by rw [e]))⟩

/-- A store into a block that is new since a. -/
theorem gro_new {a w w' : World} {g b : Nat} (h : a.grownBy w (some g)) (hg : w.grownBy w' (some b)) (hb : a.heap.size ≤ b) : a.grownBy w' (some g) :=
  ⟨hg.os.trans h.os, hg.tape.trans h.tape, hg.output.trans h.output, Nat.le_trans h.size hg.size, fun k hk hne =>
    (hg.block k (Nat.lt_of_lt_of_le hk h.size) (fun e => by injection e with e; omega)).trans (h.block k hk hne)⟩
theorem gro_trans {a b c : World} {row : Option Nat} (h : a.grownBy b row) (k : b.grownBy c row) : a.grownBy c row :=
  ⟨k.os.trans h.os, k.tape.trans h.tape, k.output.trans h.output, Nat.le_trans h.size k.size, fun i hi hne => (k.block i (Nat.lt_of_lt_of_le hi h.size) hne).trans (h.block i hi hne)⟩
theorem gro_below {a w w' : World} {row : Option Nat} (h : a.grownBy w row) (hb : Below w.heap.size w w') : a.grownBy w' row :=
  ⟨hb.os.trans h.os, hb.tape.trans h.tape, hb.output.trans h.output, Nat.le_trans h.size hb.size, fun i hi hne => (hb.block i (Nat.lt_of_lt_of_le hi h.size)).trans (h.block i hi hne)⟩
theorem gro_alloc {a w : World} {row : Option Nat} (h : a.grownBy w row) (o : Obj) : a.grownBy (w.alloc o) row := gro_below h ((Below.refl _ _).alloc (Nat.le_refl _) _)
theorem gro_refl (w : World) (row : Option Nat) : w.grownBy w row := ⟨rfl, rfl, rfl, Nat.le_refl _, fun _ _ _ => rfl⟩

theorem CrAt.grown {w w' : World} {X : Nat} {r : Option Nat} {x : Crd} (h : CrAt w X x) (hg : w.grownBy w' r) (hne : r ≠ some X) : CrAt w' X x := (hg.block X h.lt (fun e => hne e.symm)).trans h
section
variable {T : TypeId} {w0 w w' : World} {lo hi g n c p p' : Nat} {A : Option Addr} {l : List UInt8} {e e' : Int} {X R : Nat} {x : Crd} {er : Ending} {v : Value}
end
section
variable {w : World} {X : Nat} {d q kd : Int} {nm wh ao an bo bn : ByteArray}
theorem CrAt.set0 (h : CrAt w X ⟨d, q, nm, kd, wh, ao, an, bo, bn⟩) (v : Int) : CrAt (w.setCell ⟨X, 0, none⟩ (.int .i64 v)) X ⟨v, q, nm, kd, wh, ao, an, bo, bn⟩ := heap_setCell_same w X 0 _ _ _ h
theorem CrAt.set1 (h : CrAt w X ⟨d, q, nm, kd, wh, ao, an, bo, bn⟩) (v : Int) : CrAt (w.setCell ⟨X, 1, none⟩ (.int .i64 v)) X ⟨d, v, nm, kd, wh, ao, an, bo, bn⟩ := heap_setCell_same w X 1 _ _ _ h
theorem CrAt.set2 (h : CrAt w X ⟨d, q, nm, kd, wh, ao, an, bo, bn⟩) (v : ByteArray) : CrAt (w.setCell ⟨X, 2, none⟩ (.string v)) X ⟨d, q, v, kd, wh, ao, an, bo, bn⟩ := heap_setCell_same w X 2 _ _ _ h
theorem CrAt.set3 (h : CrAt w X ⟨d, q, nm, kd, wh, ao, an, bo, bn⟩) (v : Int) : CrAt (w.setCell ⟨X, 3, none⟩ (.int .i64 v)) X ⟨d, q, nm, v, wh, ao, an, bo, bn⟩ := heap_setCell_same w X 3 _ _ _ h
theorem CrAt.set4 (h : CrAt w X ⟨d, q, nm, kd, wh, ao, an, bo, bn⟩) (v : ByteArray) : CrAt (w.setCell ⟨X, 4, none⟩ (.string v)) X ⟨d, q, nm, kd, v, ao, an, bo, bn⟩ := heap_setCell_same w X 4 _ _ _ h
theorem CrAt.set5 (h : CrAt w X ⟨d, q, nm, kd, wh, ao, an, bo, bn⟩) (v : ByteArray) : CrAt (w.setCell ⟨X, 5, none⟩ (.string v)) X ⟨d, q, nm, kd, wh, v, an, bo, bn⟩ := heap_setCell_same w X 5 _ _ _ h
theorem CrAt.set6 (h : CrAt w X ⟨d, q, nm, kd, wh, ao, an, bo, bn⟩) (v : ByteArray) : CrAt (w.setCell ⟨X, 6, none⟩ (.string v)) X ⟨d, q, nm, kd, wh, ao, v, bo, bn⟩ := heap_setCell_same w X 6 _ _ _ h
theorem CrAt.set7 (h : CrAt w X ⟨d, q, nm, kd, wh, ao, an, bo, bn⟩) (v : ByteArray) : CrAt (w.setCell ⟨X, 7, none⟩ (.string v)) X ⟨d, q, nm, kd, wh, ao, an, v, bn⟩ := heap_setCell_same w X 7 _ _ _ h
theorem CrAt.set8 (h : CrAt w X ⟨d, q, nm, kd, wh, ao, an, bo, bn⟩) (v : ByteArray) : CrAt (w.setCell ⟨X, 8, none⟩ (.string v)) X ⟨d, q, nm, kd, wh, ao, an, bo, v⟩ := heap_setCell_same w X 8 _ _ _ h
theorem CrAt.f (h : CrAt w X ⟨d, q, nm, kd, wh, ao, an, bo, bn⟩) (k : Nat) : w.frozen? ⟨X, k, none⟩ = false := frozen_of_row w X k _ _ h
end

end Go.Proofs.Ytkimhdcngagmaaa.Sh
/-
  The document's own Read of a credential.
-/
namespace Go.Proofs.Ytkimhdcngagmaaa.Sh
open Go Go.RowKit

theorem info_cred : (Try.prog.info? 53).map (·.size) = some 9 := by kernel_rfl
/-- Nine cells behind a store of all of them. -/
theorem nine_set {w : World} {g : Nat} {u0 u1 u2 u3 u4 u5 u6 u7 u8 v0 v1 v2 v3 v4 v5 v6 v7 v8 : Value} {t : TypeId} (h : w.heap[g]? = some (.cells #[u0, u1, u2, u3, u4, u5, u6, u7, u8] t (0, 0))) :
    (((((((((w.setCell ⟨g, 0, none⟩ v0).setCell ⟨g, 1, none⟩ v1).setCell ⟨g, 2, none⟩ v2).setCell ⟨g, 3, none⟩ v3).setCell ⟨g, 4, none⟩ v4).setCell ⟨g, 5, none⟩ v5).setCell ⟨g, 6, none⟩ v6).setCell ⟨g, 7, none⟩ v7).setCell ⟨g, 8, none⟩ v8).heap[g]? = some (.cells #[v0, v1, v2, v3, v4, v5, v6, v7, v8] t (0, 0)) := by
  have h0 : (w.setCell ⟨g, 0, none⟩ v0).heap[g]? = some (.cells #[v0, u1, u2, u3, u4, u5, u6, u7, u8] t (0, 0)) := heap_setCell_same w g 0 _ _ v0 h
  have h1 : ((w.setCell ⟨g, 0, none⟩ v0).setCell ⟨g, 1, none⟩ v1).heap[g]? = some (.cells #[v0, v1, u2, u3, u4, u5, u6, u7, u8] t (0, 0)) := heap_setCell_same (w.setCell ⟨g, 0, none⟩ v0) g 1 _ _ v1 h0
  have h2 : (((w.setCell ⟨g, 0, none⟩ v0).setCell ⟨g, 1, none⟩ v1).setCell ⟨g, 2, none⟩ v2).heap[g]? = some (.cells #[v0, v1, v2, u3, u4, u5, u6, u7, u8] t (0, 0)) := heap_setCell_same ((w.setCell ⟨g, 0, none⟩ v0).setCell ⟨g, 1, none⟩ v1) g 2 _ _ v2 h1
  have h3 : ((((w.setCell ⟨g, 0, none⟩ v0).setCell ⟨g, 1, none⟩ v1).setCell ⟨g, 2, none⟩ v2).setCell ⟨g, 3, none⟩ v3).heap[g]? = some (.cells #[v0, v1, v2, v3, u4, u5, u6, u7, u8] t (0, 0)) := heap_setCell_same (((w.setCell ⟨g, 0, none⟩ v0).setCell ⟨g, 1, none⟩ v1).setCell ⟨g, 2, none⟩ v2) g 3 _ _ v3 h2
  have h4 : (((((w.setCell ⟨g, 0, none⟩ v0).setCell ⟨g, 1, none⟩ v1).setCell ⟨g, 2, none⟩ v2).setCell ⟨g, 3, none⟩ v3).setCell ⟨g, 4, none⟩ v4).heap[g]? = some (.cells #[v0, v1, v2, v3, v4, u5, u6, u7, u8] t (0, 0)) := heap_setCell_same ((((w.setCell ⟨g, 0, none⟩ v0).setCell ⟨g, 1, none⟩ v1).setCell ⟨g, 2, none⟩ v2).setCell ⟨g, 3, none⟩ v3) g 4 _ _ v4 h3
  have h5 : ((((((w.setCell ⟨g, 0, none⟩ v0).setCell ⟨g, 1, none⟩ v1).setCell ⟨g, 2, none⟩ v2).setCell ⟨g, 3, none⟩ v3).setCell ⟨g, 4, none⟩ v4).setCell ⟨g, 5, none⟩ v5).heap[g]? = some (.cells #[v0, v1, v2, v3, v4, v5, u6, u7, u8] t (0, 0)) := heap_setCell_same (((((w.setCell ⟨g, 0, none⟩ v0).setCell ⟨g, 1, none⟩ v1).setCell ⟨g, 2, none⟩ v2).setCell ⟨g, 3, none⟩ v3).setCell ⟨g, 4, none⟩ v4) g 5 _ _ v5 h4
  have h6 : (((((((w.setCell ⟨g, 0, none⟩ v0).setCell ⟨g, 1, none⟩ v1).setCell ⟨g, 2, none⟩ v2).setCell ⟨g, 3, none⟩ v3).setCell ⟨g, 4, none⟩ v4).setCell ⟨g, 5, none⟩ v5).setCell ⟨g, 6, none⟩ v6).heap[g]? = some (.cells #[v0, v1, v2, v3, v4, v5, v6, u7, u8] t (0, 0)) := heap_setCell_same ((((((w.setCell ⟨g, 0, none⟩ v0).setCell ⟨g, 1, none⟩ v1).setCell ⟨g, 2, none⟩ v2).setCell ⟨g, 3, none⟩ v3).setCell ⟨g, 4, none⟩ v4).setCell ⟨g, 5, none⟩ v5) g 6 _ _ v6 h5
  have h7 : ((((((((w.setCell ⟨g, 0, none⟩ v0).setCell ⟨g, 1, none⟩ v1).setCell ⟨g, 2, none⟩ v2).setCell ⟨g, 3, none⟩ v3).setCell ⟨g, 4, none⟩ v4).setCell ⟨g, 5, none⟩ v5).setCell ⟨g, 6, none⟩ v6).setCell ⟨g, 7, none⟩ v7).heap[g]? = some (.cells #[v0, v1, v2, v3, v4, v5, v6, v7, u8] t (0, 0)) := heap_setCell_same (((((((w.setCell ⟨g, 0, none⟩ v0).setCell ⟨g, 1, none⟩ v1).setCell ⟨g, 2, none⟩ v2).setCell ⟨g, 3, none⟩ v3).setCell ⟨g, 4, none⟩ v4).setCell ⟨g, 5, none⟩ v5).setCell ⟨g, 6, none⟩ v6) g 7 _ _ v7 h6
  have h8 : (((((((((w.setCell ⟨g, 0, none⟩ v0).setCell ⟨g, 1, none⟩ v1).setCell ⟨g, 2, none⟩ v2).setCell ⟨g, 3, none⟩ v3).setCell ⟨g, 4, none⟩ v4).setCell ⟨g, 5, none⟩ v5).setCell ⟨g, 6, none⟩ v6).setCell ⟨g, 7, none⟩ v7).setCell ⟨g, 8, none⟩ v8).heap[g]? = some (.cells #[v0, v1, v2, v3, v4, v5, v6, v7, v8] t (0, 0)) := heap_setCell_same ((((((((w.setCell ⟨g, 0, none⟩ v0).setCell ⟨g, 1, none⟩ v1).setCell ⟨g, 2, none⟩ v2).setCell ⟨g, 3, none⟩ v3).setCell ⟨g, 4, none⟩ v4).setCell ⟨g, 5, none⟩ v5).setCell ⟨g, 6, none⟩ v6).setCell ⟨g, 7, none⟩ v7) g 8 _ _ v8 h7
  exact h8
section
variable {T : TypeId} {w0 w : World} {lo hi g n c p : Nat} {A : Option Addr} {l : List UInt8} {e : Int} {X R : Nat} {x : Crd}
end

end Go.Proofs.Ytkimhdcngagmaaa.Sh
/-
  Slices of credentials: a slice that reads as a list of them; append in one law.
-/
namespace Go.Proofs.Ytkimhdcngagmaaa.Sh
open Go Go.RowKit

section
variable {P : Program} {w : World}
end

/-- The cells of credentials, one behind another. -/
def cv : List Crd → List Value
  | [] => []
  | c :: t => c.cells ++ cv t
theorem cells_len (c : Crd) : c.cells.length = 9 := rfl
theorem cv_length (l : List Crd) : (cv l).length = l.length * 9 := by
  induction l with
  | nil => rfl
  | cons c t ih => simp only [cv, List.length_append, ih, cells_len, List.length_cons]; omega
theorem cv_append (a b : List Crd) : cv (a ++ b) = cv a ++ cv b := by
  induction a with
  | nil => rfl
  | cons c t ih => simp only [List.cons_append, cv, ih, List.append_assoc]
theorem cv_one (l : List Crd) : ∀ u ∈ cv l, u.oneCell' = true := by
  induction l with
  | nil => intro u hu; cases hu
  | cons c t ih =>
    intro u hu
    rcases List.mem_append.1 hu with h | h
    · simp only [Crd.cells, List.mem_cons, List.not_mem_nil, or_false] at h
      rcases h with rfl | rfl | rfl | rfl | rfl | rfl | rfl | rfl | rfl <;> rfl
    · exact ih u h
theorem cv_get {l : List Crd} {j k : Nat} {c : Crd} (h : l[j]? = some c) (hk : k < 9) : (cv l)[j * 9 + k]? = c.cells[k]? := by
  induction l generalizing j with
  | nil => simp at h
  | cons x t ih =>
    cases j with
    | zero =>
      simp at h; subst h
      rw [cv, List.getElem?_append_left (by rw [cells_len]; omega)]
      simp
    | succ j =>
      rw [cv, List.getElem?_append_right (by rw [cells_len]; omega), cells_len, show (j + 1) * 9 + k - 9 = j * 9 + k by omega]
      exact ih (by simpa using h)
theorem cv_take (l : List Crd) (k : Nat) : cv (l.take k) = (cv l).take (k * 9) := by
  induction l generalizing k with
  | nil => simp [cv]
  | cons x t ih =>
    cases k with
    | zero => simp [cv]
    | succ k =>
      rw [List.take_succ_cons, cv, cv, ih, List.take_append, cells_len, List.take_of_length_le (l := x.cells) (by rw [cells_len]; omega), show (k + 1) * 9 - 9 = k * 9 by omega]
theorem cv_drop (l : List Crd) (k : Nat) : cv (l.drop k) = (cv l).drop (k * 9) := by
  induction l generalizing k with
  | nil => simp [cv]
  | cons x t ih =>
    cases k with
    | zero => simp
    | succ k =>
      rw [List.drop_succ_cons, cv, ih, List.drop_append, cells_len, List.drop_of_length_le (l := x.cells) (by rw [cells_len]; omega), List.nil_append, show (k + 1) * 9 - 9 = k * 9 by omega]
/-- A: where credentials lie, below block B. -/
def Crs (w : World) (B : Nat) (A : Option Addr) (l : List Crd) : Prop :=
  0 < l.length → ∃ ad, A = some ad ∧ ad.block < B ∧ ∀ i u, (cv l)[i]? = some u → w.cell? (ad.add i) = some u
section
variable {w w' : World} {B B' : Nat} {A : Option Addr} {l : List Crd}
theorem Crs.nil : Crs w B A [] := fun h => absurd h (by simp)
theorem Crs.reads (h : Crs w B A l) : Reads w A (cv l) := fun hn => by
  obtain ⟨ad, e, _, hc⟩ := h (by rw [cv_length] at hn; omega)
  exact ⟨ad, e, hc⟩
theorem Crs.keep (h : Crs w B A l) (hk : ∀ p : Addr, p.block < B → w'.cell? p = w.cell? p) : Crs w' B A l := fun hn => by
  obtain ⟨ad, e, hb, hc⟩ := h hn
  exact ⟨ad, e, hb, fun j x hx => (hk _ (by rw [block_add]; exact hb)).trans (hc j x hx)⟩
theorem Crs.more (h : Crs w B A l) (hB : B ≤ B') : Crs w B' A l := fun hn => by
  obtain ⟨ad, e, hb, hc⟩ := h hn
  exact ⟨ad, e, by omega, hc⟩
theorem Crs.below (h : Crs w B A l) (hb : Below B w w') : Crs w' B A l := h.keep fun _ hp => hb.cell hp
theorem Crs.head {hi : Nat} (h : Crs w B A l) : Crs w B A (l.take hi) := by
  intro hn
  simp only [List.length_take] at hn
  obtain ⟨ad, e, hb, hc⟩ := h (by omega)
  refine ⟨ad, e, hb, fun j x hx => hc j x ?_⟩
  rw [cv_take, List.getElem?_take] at hx
  split at hx
  · exact hx
  · cases hx
/-- 's[lo:]'. -/
theorem Crs.tail {lo cap : Nat} (h : Crs w B A l) (h3 : l.length ≤ cap) : Crs w B (if cap = lo then A else A.map (·.add (lo * 9))) (l.drop lo) := by
  intro hn
  simp only [List.length_drop] at hn
  obtain ⟨ad, rfl, hb, hc⟩ := h (by omega)
  rw [if_neg (by omega)]
  refine ⟨ad.add (lo * 9), rfl, by rw [block_add]; exact hb, fun j x hx => ?_⟩
  rw [add_add]
  refine hc _ x ?_
  rwa [cv_drop, List.getElem?_drop] at hx
theorem Crs.get {j : Nat} {c : Crd} (h : Crs w B A l) (hj : l[j]? = some c) : ∃ ad aj, A = some ad ∧ ad.block < B ∧ ad.add (j * 9) = aj ∧ aj.block = ad.block ∧
    w.cell? aj = some (.int .i64 c.d) ∧ w.cell? ⟨aj.block, aj.off + 1, none⟩ = some (.int .i64 c.q) ∧ w.cell? ⟨aj.block, aj.off + 2, none⟩ = some (.string c.nm) ∧ w.cell? ⟨aj.block, aj.off + 3, none⟩ = some (.int .i64 c.kd) ∧
    w.cell? ⟨aj.block, aj.off + 4, none⟩ = some (.string c.wh) ∧ w.cell? ⟨aj.block, aj.off + 5, none⟩ = some (.string c.ao) ∧ w.cell? ⟨aj.block, aj.off + 6, none⟩ = some (.string c.an) ∧
    w.cell? ⟨aj.block, aj.off + 7, none⟩ = some (.string c.bo) ∧ w.cell? ⟨aj.block, aj.off + 8, none⟩ = some (.string c.bn) := by
  obtain ⟨ad, e, hb, hc⟩ := h (Nat.lt_of_le_of_lt (Nat.zero_le _) (List.getElem?_eq_some_iff.1 hj).1)
  have key : ∀ k v, k < 9 → c.cells[k]? = some v → w.cell? ((ad.add (j * 9)).add k) = some v := fun k v hk hv => by
    rw [add_add]
    exact hc _ v ((cv_get hj hk).trans hv)
  have kp : ∀ k v, 0 < k → k < 9 → c.cells[k]? = some v → w.cell? ⟨(ad.add (j * 9)).block, (ad.add (j * 9)).off + k, none⟩ = some v := fun k v h0 hk hv => by
    rw [← add_pos _ k h0]
    exact key k v hk hv
  refine ⟨ad, ad.add (j * 9), e, hb, rfl, block_add _ _, ?_, kp 1 _ (by omega) (by omega) rfl, kp 2 _ (by omega) (by omega) rfl, kp 3 _ (by omega) (by omega) rfl, kp 4 _ (by omega) (by omega) rfl, kp 5 _ (by omega) (by omega) rfl, kp 6 _ (by omega) (by omega) rfl, kp 7 _ (by omega) (by omega) rfl, kp 8 _ (by omega) (by omega) rfl⟩
  have := key 0 _ (by omega) (rfl : c.cells[0]? = some (.int .i64 c.d))
  rwa [add_zero] at this
end
theorem slC : SlN Try.prog 34 53 9 120 := by
  obtain ⟨i0, hi0, hz0, hz1, hz2⟩ := info_parts (P := Try.prog) (e := 53) (z := .agg Crd.zero.cells.toArray) (size := 9) (bytes := 120) (by kernel_rfl)
  exact ⟨Try.underlying34, ⟨i0, _, hi0, hz0, hz1, hz2, rfl⟩, by omega⟩
/-- Credentials of the call's own, in blocks from B on. -/
def OwnC (w : World) (B : Nat) (v : Value) (n : Nat) (l : List Crd) : Prop := w.ownsRow B 53 9 v n (cv l)
section
variable {w w' : World} {B B' n c : Nat} {v : Value} {A : Option Addr} {l : List Crd}
theorem OwnC.len (h : OwnC w B v n l) : l.length = n := by have := h.1; rw [cv_length] at this; omega
theorem OwnC.alloc (h : OwnC w B v n l) (o : Obj) : OwnC (w.alloc o) B v n l := World.ownsRow.alloc h o
theorem OwnC.nil (w : World) (B : Nat) : OwnC w B (.slice none 0 0) 0 [] := World.ownsRow_nil _ _ _ _
theorem OwnC.mono (h : OwnC w B v n l) (hb : B' ≤ B) : OwnC w B' v n l := own_mono' h hb
theorem OwnC.below (h : OwnC w B v n l) (hb : Below w.heap.size w w') : OwnC w' B v n l :=
  World.ownsRow.kept h ⟨hb.os, hb.tape, hb.output, hb.size, fun k hk _ => hb.block k hk⟩ (row := none) (by cases hv : v.ownBlock <;> simp)
theorem OwnC.crs (h : OwnC w B (.slice A n c) n l) : Crs w w.heap.size A l := by
  intro hn
  have hl := h.len
  rcases h.2 with ⟨hv, _⟩ | ⟨g, cap, cur, hv, _, hg, _⟩
  · simp only [Value.slice.injEq] at hv; omega
  · simp only [Value.slice.injEq] at hv
    obtain ⟨rfl, _, _⟩ := hv
    exact ⟨_, rfl, (Array.getElem?_eq_some_iff.1 hg).1, fun i u hu => World.ownsRow.cells h (g := g) rfl i u hu⟩
theorem OwnC.slice (h : OwnC w B v n l) : ∃ A c, v = .slice A n c ∧ n ≤ c ∧ c ≤ 9223372036854775807 := own_sliceN h
theorem below_appC {w0 : World} (hown : OwnC w B v n l) (hb : Below B w0 w) (hs : B ≤ w.heap.size) (hg : w.grownBy w' v.ownBlock) : Below B w0 w' :=
  hb.grown hg hs fun g hg => (World.ownsRow.lt hown g hg).1
end
theorem wpList_appC {ops : Array Oper} {rest : List Oper} {o : Oper} {a : Act} {w : World} {Q : Exit → Act → World → Prop} (hgd : o.guard = none) (s x : Operand)
    (ho : o.op = .call { callee := .builtin .append, args := #[s, x], argTypes := #[34, 34] })
    (B : Nat) (v : Value) (n : Nat) (l : List Crd) (hown : OwnC w B v n l) (hs : a.eval s = v)
    (A : Option Addr) (m c : Nat) (k : List Crd) (hx : a.eval x = .slice A m c) (hl : k.length = m) (hr : Reads w A (cv k)) (hb : n + m ≤ 1000000000000) (hbase : B ≤ w.heap.size) (w0 : World) (hbel : Below B w0 w) (n' : Nat) (hn : n + m = n')
    (h : ∀ A' c' w', OwnC w' B (.slice A' n' c') n' (l ++ k) → w.grownBy w' v.ownBlock → Below B w0 w' → ((Value.slice A' n' c').ownBlock = v.ownBlock ∨ (Value.slice A' n' c').ownBlock = some w.heap.size) → wpList Try.prog ops Q rest (a.put o.dst (.slice A' n' c')) w') : wpList Try.prog ops Q (o :: rest) a w :=
  wpList_appN hgd slC s x ho hown hs hx (by rw [cv_length, hl]) hr (cv_one k) (by omega) (by unfold maxLen; omega) hbase hn fun A' c' w' h2 h3 h4 => h A' c' w' (by unfold OwnC; rw [cv_append]; exact h2) h3 (below_appC hown hbel hbase h3) h4
/-- One credential in a block of its own, as a source. -/
theorem reads_cr (w : World) (c : Crd) (t : TypeId) (fr : Nat × Nat) : Reads (w.alloc (.cells c.cells.toArray t fr)) (some ⟨w.heap.size, 0, none⟩) (cv [c]) := by
  have := reads_new w c.cells.toArray t fr
  simpa [cv] using this
theorem Crs.far {w w' : World} {B : Nat} {A : Option Addr} {l : List Crd} {v : Value} (h : Crs w B A l) (hB : B ≤ w.heap.size) (hg : w.grownBy w' v.ownBlock) (hf : FarV A v) : Crs w' B A l := fun hn => by
  obtain ⟨ad, e, hb, hc⟩ := h hn
  exact ⟨ad, e, hb, fun j x hx => (hg.cell_far _ (by rw [block_add]; omega) (by rw [block_add]; exact hf ad e)).trans (hc j x hx)⟩
theorem OwnC.keptBy {w w' : World} {B n : Nat} {v u : Value} {l : List Crd} (h : OwnC w B v n l) (hg : w.grownBy w' u.ownBlock) (ha : v.ownBlock = none ∨ v.ownBlock ≠ u.ownBlock) : OwnC w' B v n l := World.ownsRow.kept h hg ha
theorem OwnC.lt {w : World} {B n : Nat} {v : Value} {l : List Crd} (h : OwnC w B v n l) : ∀ k, v.ownBlock = some k → B ≤ k ∧ k < w.heap.size := World.ownsRow.lt h
/-- What is owned lies in another row than a new one. -/
theorem OwnC.newer {w : World} {B n : Nat} {v u : Value} {l : List Crd} (h : OwnC w B v n l) (hu : u.ownBlock = none ∨ u.ownBlock = some w.heap.size) : v.ownBlock = none ∨ v.ownBlock ≠ u.ownBlock := by
  cases hv : v.ownBlock with
  | none => exact .inl rfl
  | some k =>
    right
    have := (h.lt k hv).2
    rcases hu with hu | hu <;> rw [hu]
    · simp
    · intro e; injection e with e; omega
end Go.Proofs.Ytkimhdcngagmaaa.Sh
