/-
  Elements in given blocks; what may turn.
-/
import Derived.Test.YtkimhdcngagmaaaJa6
import Derived.Test.YtkimhdcngagmaaaJa3
set_option linter.unusedVariables false
set_option linter.unusedSimpArgs false
namespace Go.Proofs.Ytkimhdcngagmaaa.Sh
open Go Go.RowKit

set_option linter.unusedSimpArgs false
set_option linter.unusedVariables false
/-- Elements from A on, in one of the blocks Q. -/
def ElsQ {α : Type} (E : Enc α) (w : World) (Q : Nat → Prop) (A : Option Addr) (l : List α) : Prop :=
  0 < l.length → ∃ ad, A = some ad ∧ Q ad.block ∧ ad.block < w.heap.size ∧ ∀ i u, (ev E l)[i]? = some u → w.cell? (ad.add i) = some u
theorem ElsQ.els {α : Type} {E : Enc α} {w : World} {Q : Nat → Prop} {A : Option Addr} {l : List α} (h : ElsQ E w Q A l) : Els E w w.heap.size A l := fun hn => by
  obtain ⟨ad, e, _, hb, hc⟩ := h hn
  exact ⟨ad, e, hb, hc⟩
theorem ElsQ.kept {α : Type} {E : Enc α} {w w' : World} {Q : Nat → Prop} {A : Option Addr} {l : List α} (h : ElsQ E w Q A l) (hk : ∀ b, Q b → b < w.heap.size → w'.heap[b]? = w.heap[b]?) (hs : w.heap.size ≤ w'.heap.size) : ElsQ E w' Q A l := fun hn => by
  obtain ⟨ad, e, hq, hb, hc⟩ := h hn
  refine ⟨ad, e, hq, by omega, fun i u hu => ?_⟩
  rw [← hc i u hu]
  unfold World.cell?
  rw [block_add, hk _ hq hb]
theorem ElsQ.imp {α : Type} {E : Enc α} {w : World} {Q R : Nat → Prop} {A : Option Addr} {l : List α} (h : ElsQ E w Q A l) (hq : ∀ b, Q b → b < w.heap.size → R b) : ElsQ E w R A l := fun hn => by
  obtain ⟨ad, e, q, hb, hc⟩ := h hn
  exact ⟨ad, e, hq _ q hb, hb, hc⟩
theorem ElsQ.nil {α : Type} {E : Enc α} {w : World} {Q : Nat → Prop} {A : Option Addr} : ElsQ E w Q A [] := fun h => absurd h (by simp)
theorem kept_gro {w w' : World} {Q : Nat → Prop} {x : Nat} (hg : w.grownBy w' (some x)) (hx : ¬ Q x) : ∀ b, Q b → b < w.heap.size → w'.heap[b]? = w.heap[b]? := fun b hb hl => hg.block b hl (fun e => by injection e with e; subst e; exact hx hb)
/-- Nothing of w turns but blocks X. -/
structure Grew (w w' : World) (X : Nat → Prop) : Prop where
  os : w'.os = w.os
  tape : w'.tape = w.tape
  output : w'.output = w.output
  size : w.heap.size ≤ w'.heap.size
  block : ∀ b, b < w.heap.size → ¬ X b → w'.heap[b]? = w.heap[b]?
theorem Grew.refl (w : World) (X : Nat → Prop) : Grew w w X := ⟨rfl, rfl, rfl, Nat.le_refl _, fun _ _ _ => rfl⟩
theorem Grew.of_below {w w' : World} {X : Nat → Prop} (h : Below w.heap.size w w') : Grew w w' X := ⟨h.os, h.tape, h.output, h.size, fun b hb _ => h.block b hb⟩
theorem Grew.of_gro {w w' : World} {X : Nat → Prop} {g : Nat} (h : w.grownBy w' (some g)) (hg : X g) : Grew w w' X := ⟨h.os, h.tape, h.output, h.size, fun b hb hx => h.block b hb (fun e => by injection e with e; subst e; exact hx hg)⟩
theorem Grew.trans {w w' w2 : World} {X : Nat → Prop} (h : Grew w w' X) (h' : Grew w' w2 X) : Grew w w2 X :=
  ⟨h'.os.trans h.os, h'.tape.trans h.tape, h'.output.trans h.output, Nat.le_trans h.size h'.size, fun b hb hx => (h'.block b (Nat.lt_of_lt_of_le hb h.size) hx).trans (h.block b hb hx)⟩
theorem Grew.mono {w w' : World} {X Y : Nat → Prop} (h : Grew w w' X) (hxy : ∀ b, b < w.heap.size → X b → Y b) : Grew w w' Y := ⟨h.os, h.tape, h.output, h.size, fun b hb hy => h.block b hb (fun hx => hy (hxy b hb hx))⟩
theorem Grew.below {w w' : World} {X : Nat → Prop} {B : Nat} (h : Grew w w' X) (hB : B ≤ w.heap.size) (hx : ∀ b, X b → B ≤ b) : Below B w w' :=
  ⟨h.os, h.tape, h.output, h.size, fun b hb => h.block b (by omega) (fun hb2 => by have := hx b hb2; omega)⟩
/-- Below B, behind more that turned only what lies from B on. -/
theorem Grew.then_below {w0 w w' : World} {X : Nat → Prop} {B : Nat} (hb : Below B w0 w) (h : Grew w w' X) (hB : B ≤ w.heap.size) (hx : ∀ b, X b → B ≤ b) : Below B w0 w' := hb.trans (h.below hB hx)
theorem ElsQ.grew {α : Type} {E : Enc α} {w w' : World} {Q X : Nat → Prop} {A : Option Addr} {l : List α} (h : ElsQ E w Q A l) (hg : Grew w w' X) (hx : ∀ b, Q b → ¬ X b) : ElsQ E w' Q A l := h.kept (fun b hq hl => hg.block b hl (hx b hq)) hg.size
theorem ElsQ.below {α : Type} {E : Enc α} {w w' : World} {Q : Nat → Prop} {A : Option Addr} {l : List α} (h : ElsQ E w Q A l) (hg : Below w.heap.size w w') : ElsQ E w' Q A l := h.kept (fun b _ hl => hg.block b hl) hg.size
theorem ElsQ.head {α : Type} {E : Enc α} {w : World} {Q : Nat → Prop} {A : Option Addr} {l : List α} (h : ElsQ E w Q A l) (n : Nat) : ElsQ E w Q A (l.take n) := fun hn => by
  rw [List.length_take] at hn
  obtain ⟨ad, e, hq, hb, hc⟩ := h (by omega)
  refine ⟨ad, e, hq, hb, fun i u hu => hc i u ?_⟩
  rw [ev_take, List.getElem?_take] at hu
  split at hu
  · exact hu
  · cases hu
theorem ElsQ.of_own {α : Type} {E : Enc α} {w : World} {B n c : Nat} {Q : Nat → Prop} {T : TypeId} {A : Option Addr} {l : List α} (h : Own (E := E) w B T (.slice A n c) l) (hQ : ∀ b, B ≤ b → Q b) : ElsQ E w Q A l := fun hn => by
  obtain ⟨A', c', e, h1, h2, h3⟩ := h.els
  simp only [Value.slice.injEq] at e
  obtain ⟨rfl, rfl, rfl⟩ := e
  obtain ⟨ad, e, hb, hc⟩ := h3 hn
  subst e
  exact ⟨ad, rfl, hQ _ (h.lt _ rfl).1, hb, hc⟩
theorem gro_set1 (w : World) (g j : Nat) (u : Value) : w.grownBy (w.setCell ⟨g, j, none⟩ u) (some g) :=
  ⟨rfl, rfl, rfl, by simp, fun k _ hk => heap_setCell_other w ⟨g, j, none⟩ k u (fun e => hk (by simp [e]))⟩
end Go.Proofs.Ytkimhdcngagmaaa.Sh
/-
  Numbers as elements of rows.
-/
namespace Go.Proofs.Ytkimhdcngagmaaa.Sh
open Go Go.RowKit

set_option linter.unusedSimpArgs false
set_option linter.unusedVariables false
def encN : Enc Int := ⟨1, fun n => [.int .i64 n], by omega, fun _ => rfl, fun x u hu => by simp at hu; rcases hu with rfl; rfl⟩
theorem slN : SlN Try.prog 63 3 1 8 := by
  obtain ⟨i0, hi0, hz0, hz1, hz2⟩ := info_parts (P := Try.prog) (e := 3) (z := .int .i64 0) (size := 1) (bytes := 8) (by kernel_rfl)
  exact ⟨Try.underlying63, ⟨i0, _, hi0, hz0, hz1, hz2, rfl⟩, by omega⟩
theorem Els.num {w : World} {B : Nat} {A : Option Addr} {l : List Int} {j : Nat} {n : Int} (h : Els encN w B A l) (hj : l[j]? = some n) : ∃ ad, A = some ad ∧ ad.block < B ∧ w.cell? (ad.add j) = some (.int .i64 n) := by
  obtain ⟨ad, aj, e, hb, ea, _, h0, _⟩ := h.get hj
  refine ⟨ad, e, hb, ?_⟩
  have := h0 _ rfl
  rw [← ea, show encN.k = 1 from rfl, Nat.mul_one] at this
  exact this
end Go.Proofs.Ytkimhdcngagmaaa.Sh
/-
  A role in a block of its own; results that hold a struct; worlds one after another.
-/
namespace Go.Proofs.Ytkimhdcngagmaaa.Sh
open Go Go.RowKit

/-- A role in a block of its own. -/
def RoleAt (w : World) (g : Nat) (o n : ByteArray) : Prop := w.heap[g]? = some (.cells #[.string o, .string n] 51 (0, 0))
theorem RoleAt.new (w : World) (o n : ByteArray) : RoleAt (w.alloc (.cells #[.string o, .string n] 51)) w.heap.size o n := heap_alloc_new w _
theorem RoleAt.c0 {w : World} {g : Nat} {o n : ByteArray} (h : RoleAt w g o n) : w.cell? ⟨g, 0, none⟩ = some (.string o) := by rw [cell_of_row w g 0 _ _ (0, 0) h]; rfl
theorem RoleAt.c1 {w : World} {g : Nat} {o n : ByteArray} (h : RoleAt w g o n) : w.cell? ⟨g, 1, none⟩ = some (.string n) := by rw [cell_of_row w g 1 _ _ (0, 0) h]; rfl
theorem RoleAt.lt {w : World} {g : Nat} {o n : ByteArray} (h : RoleAt w g o n) : g < w.heap.size := (Array.getElem?_eq_some_iff.1 h).1
theorem RoleAt.below {w w' : World} {B g : Nat} {o n : ByteArray} (h : RoleAt w g o n) (hb : Below B w w') (hg : g < B) : RoleAt w' g o n := (hb.block g hg).trans h
theorem RoleAt.kept {w w' : World} {g : Nat} {o n : ByteArray} (h : RoleAt w g o n) (hb : Below w.heap.size w w') : RoleAt w' g o n := h.below hb h.lt
theorem below_box (w : World) (o n : ByteArray) : Below w.heap.size w (w.alloc (.cells #[.string o, .string n] 51)) := (Below.refl _ _).alloc (Nat.le_refl _) _
theorem results_cell_tmp {P : Program} {fn : Func} {p q : Tmp} {ty : TypeId} (h : fn.results = #[.cell p ty, .tmp q]) (tmps : Array Value) (w : World) (b o : Nat) (cs : List Value) (d : TypeDesc)
    (hp : tmps.getD p undef = .pointer (some ⟨b, o, none⟩)) (hc : w.rangeAt b o cs) (hu : P.underlying ty = some d) (hd : d.isRow = true) (hi : (P.info? ty).map (·.size) = some cs.length) :
    (results fn tmps).run P w = .ok (.tuple #[.agg cs.toArray, tmps.getD q undef]) w := by
  have hp' : tmps[p]?.getD undef = .pointer (some ⟨b, o, none⟩) := by simpa using hp
  simp [results, h, hp', asAddr, run_loadVar_mid w b o ty cs d hc hu hd hi]
/-- Two texts in a block of two cells, behind a store of both. -/
theorem pair_set {w : World} {g : Nat} {u v x y : Value} {t : TypeId} (h : w.heap[g]? = some (.cells #[u, v] t (0, 0))) : ((w.setCell ⟨g, 0, none⟩ x).setCell ⟨g, 1, none⟩ y).heap[g]? = some (.cells #[x, y] t (0, 0)) :=
  heap_setCell_same _ g 1 _ _ y (heap_setCell_same w g 0 _ _ x h)
theorem info_role : (Try.prog.info? 51).map (·.size) = some 2 := by kernel_rfl
theorem results_cell1 {P : Program} {fn : Func} {p : Tmp} {ty : TypeId} (h : fn.results = #[.cell p ty]) (tmps : Array Value) (w : World) (b o : Nat) (cs : List Value) (d : TypeDesc)
    (hp : tmps.getD p undef = .pointer (some ⟨b, o, none⟩)) (hc : w.rangeAt b o cs) (hu : P.underlying ty = some d) (hd : d.isRow = true) (hi : (P.info? ty).map (·.size) = some cs.length) :
    (results fn tmps).run P w = .ok (.agg cs.toArray) w := by
  have hp' : tmps[p]?.getD undef = .pointer (some ⟨b, o, none⟩) := by simpa using hp
  simp [results, h, hp', asAddr, run_loadVar_mid w b o ty cs d hc hu hd hi]
theorem kept_trans {W w' W' : World} {B : Nat} (h : Below B W w') (hB : B ≤ w'.heap.size) (bb : Below w'.heap.size w' W') : Below B W W' := h.trans (bb.mono hB)
end Go.Proofs.Ytkimhdcngagmaaa.Sh
/-
  The document's own bare and May of a credential.
-/
namespace Go.Proofs.Ytkimhdcngagmaaa.Sh
open Go Go.RowKit

/-- A credential in a block of its own. -/
def CrAt (w : World) (g : Nat) (c : Crd) : Prop := w.heap[g]? = some (.cells c.cells.toArray 53 (0, 0))
theorem CrAt.new (w : World) (c : Crd) : CrAt (w.alloc (.cells c.cells.toArray 53)) w.heap.size c := heap_alloc_new w _
theorem CrAt.lt {w : World} {g : Nat} {c : Crd} (h : CrAt w g c) : g < w.heap.size := (Array.getElem?_eq_some_iff.1 h).1
theorem CrAt.kept {w w' : World} {g : Nat} {c : Crd} (h : CrAt w g c) (hb : Below w.heap.size w w') : CrAt w' g c := (hb.block g h.lt).trans h
theorem CrAt.below {w w' : World} {B g : Nat} {c : Crd} (h : CrAt w g c) (hb : Below B w w') (hg : g < B) : CrAt w' g c := (hb.block g hg).trans h
theorem CrAt.cell {w : World} {g : Nat} {c : Crd} (h : CrAt w g c) (k : Nat) (v : Value) (hk : c.cells[k]? = some v) : w.cell? ⟨g, k, none⟩ = some v := by
  rw [cell_of_row w g k _ _ (0, 0) h]
  simpa using hk
section
variable {w : World} {g : Nat} {d q kd : Int} {nm wh ao an bo bn : ByteArray}
theorem CrAt.all (h : CrAt w g ⟨d, q, nm, kd, wh, ao, an, bo, bn⟩) :
    w.cell? ⟨g, 0, none⟩ = some (.int .i64 d) ∧ w.cell? ⟨g, 1, none⟩ = some (.int .i64 q) ∧ w.cell? ⟨g, 2, none⟩ = some (.string nm) ∧ w.cell? ⟨g, 3, none⟩ = some (.int .i64 kd) ∧ w.cell? ⟨g, 4, none⟩ = some (.string wh) ∧
      w.cell? ⟨g, 5, none⟩ = some (.string ao) ∧ w.cell? ⟨g, 6, none⟩ = some (.string an) ∧ w.cell? ⟨g, 7, none⟩ = some (.string bo) ∧ w.cell? ⟨g, 8, none⟩ = some (.string bn) :=
  ⟨h.cell 0 _ rfl, h.cell 1 _ rfl, h.cell 2 _ rfl, h.cell 3 _ rfl, h.cell 4 _ rfl, h.cell 5 _ rfl, h.cell 6 _ rfl, h.cell 7 _ rfl, h.cell 8 _ rfl⟩
end
theorem below_cr (w : World) (c : Crd) : Below w.heap.size w (w.alloc (.cells c.cells.toArray 53)) := (Below.refl _ _).alloc (Nat.le_refl _) _
/-- A text that is not empty. -/
theorem sne {s : ByteArray} (h : s ≠ E0) : ¬ s.toList = [] ∧ (s.toList == []) = false ∧ s.toList.isEmpty = false ∧ ¬ s = ⟨#[]⟩ := by
  have h5 : ¬ s.toList = [] := fun e => h (ba_eq (by rw [← Lib.toList_data, e]; rfl))
  exact ⟨h5, beq_eq_false_iff_ne.2 h5, by cases hs : s.toList with | nil => exact absurd hs h5 | cons _ _ => rfl, h⟩

theorem refBare_any (o n : ByteArray) (w : World) :
    Calls Try.prog 50 #[.agg #[.string o, .string n]] w fun e w' => e = .returned (.bool (mayB n && decide (o = E0))) ∧ Below w.heap.size w w' := by
  have HM := hid (fun w => refMay_any n w)
  obtain ⟨m, hm⟩ : ∃ m, mayL n.data.toList = m := ⟨_, rfl⟩
  rw [hm] at HM
  have hm' : mayB n = m := hm
  rw [hm']
  clear hm hm'
  go_enter Try.func50, Try.ntmps50
  go_wp2_with fail
  refine (HM.out _).mono ?_
  rintro er w2 ⟨rfl, rfl⟩
  cases m with
  | false =>
    go_wp2
    go_ret
    exact ⟨rfl, (Below.refl _ _).alloc (Nat.le_refl _) _⟩
  | true =>
    by_cases ho : o = E0
    · subst ho
      have HE : Hid (decide (E0 = E0) = true) := hid (by simp)
      unfold E0
      go_wp2
      go_ret
      exact ⟨rfl, (Below.refl _ _).alloc (Nat.le_refl _) _⟩
    · obtain ⟨s1, s2, s3, s4⟩ := sne ho
      have HE : Hid (decide (o = E0) = false) := hid (by simp [ho])
      clear ho
      go_wp2
      go_ret
      exact ⟨by rw [HE.out]; rfl, (Below.refl _ _).alloc (Nat.le_refl _) _⟩

set_option maxHeartbeats 4000000 in
theorem refMayC_any (c : Crd) (w : World) :
    Calls Try.prog 41 #[.agg c.cells.toArray] w fun e w' => e = .returned (.bool (mayC c)) ∧ Below w.heap.size w w' := by
  obtain ⟨d, q, nm, kd, wh, ao, an, bo, bn⟩ := c
  have HM1 := hid (fun w => refMay_any nm w)
  have HM2 := hid (fun w => refMay_any wh w)
  have HM3 := hid (fun w => refRole_any ao an w)
  have HM4 := hid (fun w => refRole_any bo bn w)
  have HM5 := hid (fun w => refBare_any ao an w)
  have HM6 := hid (fun w => refBare_any bo bn w)
  obtain ⟨b1, hb1⟩ : ∃ b, mayL nm.data.toList = b := ⟨_, rfl⟩
  obtain ⟨b2, hb2⟩ : ∃ b, mayL wh.data.toList = b := ⟨_, rfl⟩
  obtain ⟨b3, hb3⟩ : ∃ b, roleL ao.data.toList an.data.toList = b := ⟨_, rfl⟩
  obtain ⟨b4, hb4⟩ : ∃ b, roleL bo.data.toList bn.data.toList = b := ⟨_, rfl⟩
  obtain ⟨b5, hb5⟩ : ∃ b, (mayB an && decide (ao = E0)) = b := ⟨_, rfl⟩
  obtain ⟨b6, hb6⟩ : ∃ b, (mayB bn && decide (bo = E0)) = b := ⟨_, rfl⟩
  rw [hb1] at HM1
  rw [hb2] at HM2
  rw [hb3] at HM3
  rw [hb4] at HM4
  rw [hb5] at HM5
  rw [hb6] at HM6
  have HMC : Hid (mayC ⟨d, q, nm, kd, wh, ao, an, bo, bn⟩ = ((decide (1 ≤ d ∧ d ≤ 16 ∧ 1 ≤ q ∧ q ≤ 4000) && b1) &&
      (if kd = 1 then b2 && decide (ao = E0 ∧ an = E0) && decide (bo = E0 ∧ bn = E0) else decide (wh = E0) && (if kd = 2 then b3 && decide (bo = E0 ∧ bn = E0) else if kd = 3 then b5 && b6 else if kd = 4 then b3 && b4 else false)))) := hid (by
    unfold mayC headOk kindOk mayB roleB
    simp only
    rw [hb1, hb2, hb3, hb4]
    have h5 : (mayL an.data.toList && decide (ao = E0)) = b5 := hb5
    have h6 : (mayL bn.data.toList && decide (bo = E0)) = b6 := hb6
    rw [h5, h6])
  clear hb1 hb2 hb3 hb4 hb5 hb6
  unfold Crd.cells
  go_enter Try.func41, Try.ntmps41
  obtain ⟨w0, hw0⟩ : ∃ w0, w0 = w.alloc (.cells (Crd.cells ⟨d, q, nm, kd, wh, ao, an, bo, bn⟩).toArray 53) := ⟨_, rfl⟩
  have r0 : CrAt w0 w.heap.size ⟨d, q, nm, kd, wh, ao, an, bo, bn⟩ := by rw [hw0]; exact CrAt.new w _
  have b0 : Below w.heap.size w w0 := by rw [hw0]; exact below_cr w _
  unfold Crd.cells at hw0
  simp only at hw0
  go_wp2_with fail
  rw [← hw0]
  clear hw0
  refine (HM1.out w0).mono ?_
  rintro er w1 ⟨rfl, rfl⟩
  obtain ⟨c0, c1, c2, c3, c4, c5, c6, c7, c8⟩ := r0.all
  have R0 := hid r0
  have B0 := hid b0
  clear r0 b0
  go_wp2_with fail
  refine (HM2.out _).mono ?_
  rintro er w1 ⟨rfl, rfl⟩
  go_wp2_with fail
  refine (HM3.out _).mono ?_
  rintro er w1 ⟨rfl, bb⟩
  have r1 := R0.out.kept bb
  have b1' := B0.out.trans (bb.mono B0.out.size)
  clear bb c0 c1 c2 c3 c4 c5 c6 c7 c8
  obtain ⟨c0, c1, c2, c3, c4, c5, c6, c7, c8⟩ := r1.all
  have R1 := hid r1
  have B1 := hid b1'
  clear r1 b1' R0 B0
  go_wp2_with fail
  refine (HM4.out _).mono ?_
  rintro er w2 ⟨rfl, bb⟩
  have r2 := R1.out.kept bb
  have b2' := B1.out.trans (bb.mono B1.out.size)
  clear bb c0 c1 c2 c3 c4 c5 c6 c7 c8
  obtain ⟨c0, c1, c2, c3, c4, c5, c6, c7, c8⟩ := r2.all
  have R2 := hid r2
  have B2 := hid b2'
  clear r2 b2' R1 B1
  by_cases g1 : d < 1
  · have HF : Hid (mayC ⟨d, q, nm, kd, wh, ao, an, bo, bn⟩ = false) := hid (by rw [HMC.out, decide_eq_false (by omega)]; simp)
    go_wp2
    go_ret
    exact ⟨by rw [HF.out]; rfl, B2.out⟩
  by_cases g2 : 16 < d
  · have HF : Hid (mayC ⟨d, q, nm, kd, wh, ao, an, bo, bn⟩ = false) := hid (by rw [HMC.out, decide_eq_false (by omega)]; simp)
    go_wp2
    go_ret
    exact ⟨by rw [HF.out]; rfl, B2.out⟩
  by_cases g3 : q < 1
  · have HF : Hid (mayC ⟨d, q, nm, kd, wh, ao, an, bo, bn⟩ = false) := hid (by rw [HMC.out, decide_eq_false (by omega)]; simp)
    go_wp2
    go_ret
    exact ⟨by rw [HF.out]; rfl, B2.out⟩
  by_cases g4 : 4000 < q
  · have HF : Hid (mayC ⟨d, q, nm, kd, wh, ao, an, bo, bn⟩ = false) := hid (by rw [HMC.out, decide_eq_false (by omega)]; simp)
    go_wp2
    go_ret
    exact ⟨by rw [HF.out]; rfl, B2.out⟩
  have HC2 : Hid (mayC ⟨d, q, nm, kd, wh, ao, an, bo, bn⟩ = (b1 &&
      (if kd = 1 then b2 && decide (ao = E0 ∧ an = E0) && decide (bo = E0 ∧ bn = E0) else decide (wh = E0) && (if kd = 2 then b3 && decide (bo = E0 ∧ bn = E0) else if kd = 3 then b5 && b6 else if kd = 4 then b3 && b4 else false)))) := hid (by rw [HMC.out, decide_eq_true (by omega)]; simp)
  clear HMC
  cases b1 with
  | false =>
    have HF : Hid (mayC ⟨d, q, nm, kd, wh, ao, an, bo, bn⟩ = false) := hid (by rw [HC2.out]; simp)
    go_wp2
    go_ret
    exact ⟨by rw [HF.out]; rfl, B2.out⟩
  | true =>
  have r3 : CrAt (w2.alloc (.cells #[.string ⟨#[]⟩, .string ⟨#[]⟩] 51)) w.heap.size ⟨d, q, nm, kd, wh, ao, an, bo, bn⟩ := R2.out.kept ((Below.refl _ _).alloc (Nat.le_refl _) _)
  have B3 := hid (B2.out.alloc B2.out.size (.cells #[.string ⟨#[]⟩, .string ⟨#[]⟩] 51))
  obtain ⟨e0, e1, e2, e3, e4, e5, e6, e7, e8⟩ := r3.all
  have R3 := hid r3
  clear r3 R2 B2
  by_cases k1 : kd = 1
  · subst k1
    cases b2 with
    | false =>
      have HF : Hid (mayC ⟨d, q, nm, 1, wh, ao, an, bo, bn⟩ = false) := hid (by rw [HC2.out]; simp [])
      go_wp2
      go_ret
      exact ⟨by rw [HF.out]; rfl, B3.out⟩
    | true =>
      by_cases zao : ao = E0
      · obtain rfl : ao = ⟨#[]⟩ := zao
        by_cases zan : an = E0
        · obtain rfl : an = ⟨#[]⟩ := zan
          by_cases zbo : bo = E0
          · obtain rfl : bo = ⟨#[]⟩ := zbo
            by_cases zbn : bn = E0
            · obtain rfl : bn = ⟨#[]⟩ := zbn
              have HF : Hid (mayC ⟨d, q, nm, 1, wh, ⟨#[]⟩, ⟨#[]⟩, ⟨#[]⟩, ⟨#[]⟩⟩ = true) := hid (by rw [HC2.out]; simp [E0])
              go_wp2
              go_ret
              exact ⟨by rw [HF.out]; rfl, B3.out⟩
            · obtain ⟨s1, s2, s3, s4⟩ := sne zbn
              have HF : Hid (mayC ⟨d, q, nm, 1, wh, ⟨#[]⟩, ⟨#[]⟩, ⟨#[]⟩, bn⟩ = false) := hid (by rw [HC2.out]; simp [zbn])
              go_wp2
              go_ret
              exact ⟨by rw [HF.out]; rfl, B3.out⟩
          · obtain ⟨s1, s2, s3, s4⟩ := sne zbo
            have HF : Hid (mayC ⟨d, q, nm, 1, wh, ⟨#[]⟩, ⟨#[]⟩, bo, bn⟩ = false) := hid (by rw [HC2.out]; simp [zbo])
            go_wp2
            go_ret
            exact ⟨by rw [HF.out]; rfl, B3.out⟩
        · obtain ⟨s1, s2, s3, s4⟩ := sne zan
          have HF : Hid (mayC ⟨d, q, nm, 1, wh, ⟨#[]⟩, an, bo, bn⟩ = false) := hid (by rw [HC2.out]; simp [zan])
          go_wp2
          go_ret
          exact ⟨by rw [HF.out]; rfl, B3.out⟩
      · obtain ⟨s1, s2, s3, s4⟩ := sne zao
        have HF : Hid (mayC ⟨d, q, nm, 1, wh, ao, an, bo, bn⟩ = false) := hid (by rw [HC2.out]; simp [zao])
        go_wp2
        go_ret
        exact ⟨by rw [HF.out]; rfl, B3.out⟩
  by_cases zwh : wh = E0
  · obtain rfl : wh = ⟨#[]⟩ := zwh
    by_cases k2 : kd = 2
    · subst k2
      clear k1
      cases b3 with
      | false =>
        have HF : Hid (mayC ⟨d, q, nm, 2, ⟨#[]⟩, ao, an, bo, bn⟩ = false) := hid (by rw [HC2.out]; simp [E0])
        go_wp2
        go_ret
        exact ⟨by rw [HF.out]; rfl, B3.out⟩
      | true =>
        by_cases zbo : bo = E0
        · obtain rfl : bo = ⟨#[]⟩ := zbo
          by_cases zbn : bn = E0
          · obtain rfl : bn = ⟨#[]⟩ := zbn
            have HF : Hid (mayC ⟨d, q, nm, 2, ⟨#[]⟩, ao, an, ⟨#[]⟩, ⟨#[]⟩⟩ = true) := hid (by rw [HC2.out]; simp [E0])
            go_wp2
            go_ret
            exact ⟨by rw [HF.out]; rfl, B3.out⟩
          · obtain ⟨s1, s2, s3, s4⟩ := sne zbn
            have HF : Hid (mayC ⟨d, q, nm, 2, ⟨#[]⟩, ao, an, ⟨#[]⟩, bn⟩ = false) := hid (by rw [HC2.out]; simp [zbn])
            go_wp2
            go_ret
            exact ⟨by rw [HF.out]; rfl, B3.out⟩
        · obtain ⟨s1, s2, s3, s4⟩ := sne zbo
          have HF : Hid (mayC ⟨d, q, nm, 2, ⟨#[]⟩, ao, an, bo, bn⟩ = false) := hid (by rw [HC2.out]; simp [zbo])
          go_wp2
          go_ret
          exact ⟨by rw [HF.out]; rfl, B3.out⟩
    by_cases k3 : kd = 3
    · subst k3
      clear k1 k2
      have HF : Hid (mayC ⟨d, q, nm, 3, ⟨#[]⟩, ao, an, bo, bn⟩ = (b5 && b6)) := hid (by rw [HC2.out]; simp [E0])
      go_wp2_with fail
      refine (HM5.out _).mono ?_
      rintro er w4 ⟨rfl, bb⟩
      have r4 := R3.out.kept bb
      have b4' := B3.out.trans (bb.mono B3.out.size)
      clear bb c0 c1 c2 c3 c4 c5 c6 c7 c8 e0 e1 e2 e3 e4 e5 e6 e7 e8
      obtain ⟨c0, c1, c2, c3, c4, c5, c6, c7, c8⟩ := r4.all
      have R4 := hid r4
      have B4 := hid b4'
      clear r4 b4'
      go_wp2_with fail
      refine (HM6.out _).mono ?_
      rintro er w5 ⟨rfl, bb⟩
      have b5' := B4.out.trans (bb.mono B4.out.size)
      clear bb c0 c1 c2 c3 c4 c5 c6 c7 c8
      cases b5 with
      | false =>
        go_wp2
        go_ret
        exact ⟨by rw [HF.out]; rfl, b5'⟩
      | true =>
        go_wp2
        go_ret
        exact ⟨by rw [HF.out]; rfl, b5'⟩
    by_cases k4 : kd = 4
    · subst k4
      clear k1 k2 k3
      cases b3 with
      | false =>
        have HF : Hid (mayC ⟨d, q, nm, 4, ⟨#[]⟩, ao, an, bo, bn⟩ = false) := hid (by rw [HC2.out]; simp [E0])
        go_wp2
        go_ret
        exact ⟨by rw [HF.out]; rfl, B3.out⟩
      | true =>
        have HF : Hid (mayC ⟨d, q, nm, 4, ⟨#[]⟩, ao, an, bo, bn⟩ = b4) := hid (by rw [HC2.out]; simp [E0])
        go_wp2
        go_ret
        exact ⟨by rw [HF.out]; rfl, B3.out⟩
    · have HF : Hid (mayC ⟨d, q, nm, kd, ⟨#[]⟩, ao, an, bo, bn⟩ = false) := hid (by rw [HC2.out]; simp [k1, k2, k3, k4])
      go_wp2
      go_ret
      exact ⟨by rw [HF.out]; rfl, B3.out⟩
  · obtain ⟨s1, s2, s3, s4⟩ := sne zwh
    have HF : Hid (mayC ⟨d, q, nm, kd, wh, ao, an, bo, bn⟩ = false) := hid (by rw [HC2.out]; simp [k1, zwh])
    go_wp2
    go_ret
    exact ⟨by rw [HF.out]; rfl, B3.out⟩
end Go.Proofs.Ytkimhdcngagmaaa.Sh
/-
  The document's own Role and Text of a credential.
-/
namespace Go.Proofs.Ytkimhdcngagmaaa.Sh
open Go Go.RowKit

theorem RoleAt.f {w : World} {g : Nat} {o n : ByteArray} (h : RoleAt w g o n) (k : Nat) : w.frozen? ⟨g, k, none⟩ = false := frozen_of_row w g k _ _ h
theorem domB_size (d : Int) : (domB d).size ≤ 3 := by
  rw [← size_list]
  show (domL d).length ≤ 3
  unfold domL
  split
  · simp
  · split <;> simp
theorem role_sizes {o n : ByteArray} (h : roleL o.data.toList n.data.toList = true) : o.size ≤ 3 ∧ n.size ≤ 8 := by
  unfold roleL at h
  simp only [Bool.and_eq_true, decide_eq_true_eq] at h
  refine ⟨?_, mayL_size h.1⟩
  have e := size_list o
  rw [← (domL_numL _ h.2).1] at e
  rw [← e]
  have := domB_size (numL o.data.toList : Int)
  rw [← size_list] at this
  exact this
theorem e0_size : E0.size = 0 := rfl
theorem may_sizes {c : Crd} (h : mayC c = true) : c.nm.size ≤ 8 ∧ c.wh.size ≤ 8 ∧ c.ao.size ≤ 3 ∧ c.an.size ≤ 8 ∧ c.bo.size ≤ 3 ∧ c.bn.size ≤ 8 := by
  obtain ⟨_, _, _, _, h5⟩ := may_head h
  refine ⟨mayL_size h5, ?_⟩
  rcases may_kind h with ⟨_, m, a, b, c, d⟩ | ⟨_, a, m, c, d⟩ | ⟨_, a, b, m, d, m2⟩ | ⟨_, a, m, m2⟩
  · rw [a, b, c, d, e0_size]; exact ⟨mayL_size m, by omega, by omega, by omega, by omega⟩
  · rw [a, c, d, e0_size]; exact ⟨by omega, (role_sizes m).1, (role_sizes m).2, by omega, by omega⟩
  · rw [a, b, d, e0_size]; exact ⟨by omega, by omega, mayL_size m, by omega, mayL_size m2⟩
  · rw [a, e0_size]; exact ⟨by omega, (role_sizes m).1, (role_sizes m).2, (role_sizes m2).1, (role_sizes m2).2⟩
end Go.Proofs.Ytkimhdcngagmaaa.Sh
