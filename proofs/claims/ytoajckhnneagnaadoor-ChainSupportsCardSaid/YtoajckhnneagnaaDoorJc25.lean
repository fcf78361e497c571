/-
  The document's own why, by contract: kinds 1, 2 and 4, and where the role is another one.
-/
import Derived.Test.YtoajckhnneagnaaDoorJc24
import Derived.Test.YtoajckhnneagnaaDoorJc18
set_option linter.unusedVariables false
set_option linter.unusedSimpArgs false
namespace Go.Proofs.YtoajckhnneagnaaDoor.Sh
open Go Go.RowKit

set_option linter.unusedVariables false
set_option linter.unusedSimpArgs false
def WhyP (B : Nat) (w' : World) (o : Option (List Pr)) (e : Ending) : Prop :=
  (o = none ∧ ∃ v, e = .returned (.tuple #[v, .bool false])) ∨ ∃ (ps : List Pr) (n : Nat) (A : Option Addr) (c : Nat), o = some ps ∧ ps.length = n ∧ e = .returned (.tuple #[.slice A n c, .bool true]) ∧ Els encP w' w'.heap.size A ps ∧ ∀ ad, A = some ad → B ≤ ad.block
def PrB (w : World) (g : Nat) (o n x : ByteArray) : Prop := w.heap[g]? = some (.cells #[.string o, .string n, .string x] 47 (0, 0))
theorem PrB.lt {w : World} {g : Nat} {o n x : ByteArray} (h : PrB w g o n x) : g < w.heap.size := (Array.getElem?_eq_some_iff.1 h).1
theorem PrB.kept {w w' : World} {g : Nat} {o n x : ByteArray} (h : PrB w g o n x) (hb : Below w.heap.size w w') : PrB w' g o n x := (hb.block g h.lt).trans h
theorem PrB.all {w : World} {g : Nat} {o n x : ByteArray} (h : PrB w g o n x) : w.cell? ⟨g, 0, none⟩ = some (.string o) ∧ w.cell? ⟨g, 1, none⟩ = some (.string n) ∧ w.cell? ⟨g, 2, none⟩ = some (.string x) :=
  ⟨by rw [cell_of_row w g 0 _ _ (0, 0) h]; rfl, by rw [cell_of_row w g 1 _ _ (0, 0) h]; rfl, by rw [cell_of_row w g 2 _ _ (0, 0) h]; rfl⟩
theorem keep_alloc8 {w : World} {o X : Obj} {g : Nat} (h : w.heap[g]? = some X) : (w.alloc o).heap[g]? = some X := ((MapKept.heap_alloc w o).2 g (Array.getElem?_eq_some_iff.1 h).1).trans h
theorem els_one8 (w : World) (o n x : ByteArray) : Els encP (w.alloc (.cells #[.string o, .string n, .string x] 47)) (w.alloc (.cells #[.string o, .string n, .string x] 47)).heap.size (some ⟨w.heap.size, 0, none⟩) [((o, n), x)] := fun _ => by
  obtain ⟨ad, e, hc⟩ := reads_new w #[.string o, .string n, .string x] 47 (0, 0) (by simp)
  injection e with e
  subst e
  exact ⟨_, rfl, by simp, hc⟩
theorem els_two8 (w : World) (o n x o' n' x' : ByteArray) : Els encP (w.alloc (.cells #[.string o, .string n, .string x, .string o', .string n', .string x'] 47)) (w.alloc (.cells #[.string o, .string n, .string x, .string o', .string n', .string x'] 47)).heap.size (some ⟨w.heap.size, 0, none⟩) [((o, n), x), ((o', n'), x')] := fun _ => by
  obtain ⟨ad, e, hc⟩ := reads_new w #[.string o, .string n, .string x, .string o', .string n', .string x'] 47 (0, 0) (by simp)
  injection e with e
  subst e
  exact ⟨_, rfl, by simp, hc⟩
theorem PrB.new (w : World) (o n x : ByteArray) : PrB (w.alloc (.cells #[.string o, .string n, .string x] 47)) w.heap.size o n x := heap_alloc_new w _
set_option maxHeartbeats 8000000 in
set_option maxRecDepth 100000 in
theorem refWhy_ne (c : Crd) (p : Pr) (hr : p.1 ≠ roleOf c) (hc : mayC c = true) (A : Option Addr) (l : List Pr) (ln cap : Nat) (hn : l.length = ln) (hm : ln ≤ 1000000) (w : World) (h : Els encP w w.heap.size A l) :
    Calls Tryd.prog 48 #[.agg c.cells.toArray, .agg #[.string p.1.1, .string p.1.2, .string p.2], .slice A ln cap] w fun e w' => WhyP w.heap.size w' (why c (· ∈ l) p) e ∧ Below w.heap.size w w' := by
  have hwn : why c (· ∈ l) p = none := why_none.2 fun hd => hr hd.1
  rw [hwn]
  obtain ⟨⟨o, n⟩, who⟩ := p
  have e0 := may_head hc
  have HRO := hid (fun W => refRoleC_any c (by have := e0.1; omega) (by have := e0; omega) W)
  obtain ⟨d, q, nm, kd, wh, ao, an, bo, bn⟩ := c
  obtain ⟨D, hD⟩ : ∃ D, domB d = D := ⟨_, rfl⟩
  simp only at HRO
  rw [hD] at HRO
  have HRL : Hid (roleOf ⟨d, q, nm, kd, wh, ao, an, bo, bn⟩ = (D, nm)) := hid (by unfold roleOf; rw [hD])
  obtain ⟨w1, hw1⟩ : ∃ w1, w1 = w.alloc (.cells (Crd.cells ⟨d, q, nm, kd, wh, ao, an, bo, bn⟩).toArray 55) := ⟨_, rfl⟩
  obtain ⟨w3, hw3⟩ : ∃ w3, w3 = w1.alloc (.cells #[.string o, .string n, .string who] 47) := ⟨_, rfl⟩
  obtain ⟨gr, hgr⟩ : ∃ g, w.heap.size = g := ⟨_, rfl⟩
  obtain ⟨gc, hgc⟩ : ∃ g, gr + 1 = g := ⟨_, rfl⟩
  have hz1 : w1.heap.size = gc := by rw [hw1, World.size_alloc, hgr, hgc]
  have q1 : Below w.heap.size w w1 := by rw [hw1]; exact (Below.refl _ _).alloc (Nat.le_refl _) _
  have q3 : Below w1.heap.size w1 w3 := by rw [hw3]; exact (Below.refl _ _).alloc (Nat.le_refl _) _
  have r1 : CrAt w1 gr ⟨d, q, nm, kd, wh, ao, an, bo, bn⟩ := by rw [hw1, ← hgr]; exact CrAt.new w _
  have HC3 := hid (r1.kept q3)
  have HP3 : Hid (PrB w3 gc o n who) := hid (by rw [hw3, ← hz1]; exact PrB.new w1 _ _ _)
  have HQ3 : Hid (Below w.heap.size w w3) := hid (q1.trans (q3.mono q1.size))
  have HEL := hid (fun W (hW : Below w3.heap.size w3 W) => (h.below (HQ3.out.trans (hW.mono HQ3.out.size))).more (Nat.le_trans HQ3.out.size hW.size))
  have HKS := hid (fun W (hW : Below w3.heap.size w3 W) => by
    have k1 := (HC3.out.kept hW).all
    have k2 := (HP3.out.kept hW).all
    exact (⟨k1.1, k1.2.1, k1.2.2.1, k1.2.2.2.1, k1.2.2.2.2.1, k1.2.2.2.2.2.1, k1.2.2.2.2.2.2.1, k1.2.2.2.2.2.2.2.1, k1.2.2.2.2.2.2.2.2, k2.1, k2.2.1, k2.2.2⟩ : W.cell? ⟨gr, 0, none⟩ = some (.int .i64 d) ∧ W.cell? ⟨gr, 1, none⟩ = some (.int .i64 q) ∧ W.cell? ⟨gr, 2, none⟩ = some (.string nm) ∧ W.cell? ⟨gr, 3, none⟩ = some (.int .i64 kd) ∧ W.cell? ⟨gr, 4, none⟩ = some (.string wh) ∧ W.cell? ⟨gr, 5, none⟩ = some (.string ao) ∧ W.cell? ⟨gr, 6, none⟩ = some (.string an) ∧ W.cell? ⟨gr, 7, none⟩ = some (.string bo) ∧ W.cell? ⟨gr, 8, none⟩ = some (.string bn) ∧ W.cell? ⟨gc, 0, none⟩ = some (.string o) ∧ W.cell? ⟨gc, 1, none⟩ = some (.string n) ∧ W.cell? ⟨gc, 2, none⟩ = some (.string who)))
  have HLN := hid hn
  have HLM : Hid (ln ≤ 1000000) := hid hm
  have hne : (D, nm) ≠ (o, n) := fun e => hr (by rw [HRL.out]; exact e.symm)
  have hcase : (¬ D.toList = o.toList ∧ (D.toList == o.toList) = false) ∨ (D = o ∧ ¬ nm.toList = n.toList ∧ (nm.toList == n.toList) = false) := by
    by_cases h1 : D = o
    · exact .inr ⟨h1, inne fun h2 => hne (by rw [h1, h2])⟩
    · exact .inl (inne h1)
  clear hr hwn hne
  rcases hcase with ⟨x1, x2⟩ | ⟨x0, x1, x2⟩
  · unfold Crd.cells at hw1 HRO ⊢
    simp only at hw1 HRO ⊢
    clear q1 q3 r1 hD e0 hz1 h hn hm hc
    go_enter Tryd.func48, Tryd.ntmps48
    go_wp2_with fail
    rw [← hw1]
    try rw [hgr]
    rw [← hw3]
    try rw [hgc]
    clear hw1 hw3 hgr hgc
    go_region_held3 (fun w' => w'.cell? ⟨gr, 0, none⟩ = some (.int .i64 d) ∧ w'.cell? ⟨gr, 1, none⟩ = some (.int .i64 q) ∧ w'.cell? ⟨gr, 2, none⟩ = some (.string nm) ∧ w'.cell? ⟨gr, 3, none⟩ = some (.int .i64 kd) ∧ w'.cell? ⟨gr, 4, none⟩ = some (.string wh) ∧ w'.cell? ⟨gr, 5, none⟩ = some (.string ao) ∧ w'.cell? ⟨gr, 6, none⟩ = some (.string an) ∧ w'.cell? ⟨gr, 7, none⟩ = some (.string bo) ∧ w'.cell? ⟨gr, 8, none⟩ = some (.string bn) ∧ w'.cell? ⟨gc, 0, none⟩ = some (.string o) ∧ w'.cell? ⟨gc, 1, none⟩ = some (.string n) ∧ w'.cell? ⟨gc, 2, none⟩ = some (.string who))
      (first | exact HKS.out _ (Below.refl _ _).drew | exact HKS.out _ BW.out)
      ((first | (go_at_call 51; (refine (HRO.out _).mono ?_); rintro er w4 ⟨rfl, bb⟩; have BW : Hid (Below w3.heap.size w3 w4) := hid ((Below.refl w3.heap.size w3).drew.trans bb); clear bb)))
    all_goals
      go_wp2_with fail
      go_ret2
      exact ⟨.inl ⟨rfl, _, rfl⟩, HQ3.out.trans (BW.out.mono HQ3.out.size)⟩
  · subst x0
    unfold Crd.cells at hw1 HRO ⊢
    simp only at hw1 HRO ⊢
    clear q1 q3 r1 hD e0 hz1 h hn hm hc
    go_enter Tryd.func48, Tryd.ntmps48
    go_wp2_with fail
    rw [← hw1]
    try rw [hgr]
    rw [← hw3]
    try rw [hgc]
    clear hw1 hw3 hgr hgc
    go_region_held3 (fun w' => w'.cell? ⟨gr, 0, none⟩ = some (.int .i64 d) ∧ w'.cell? ⟨gr, 1, none⟩ = some (.int .i64 q) ∧ w'.cell? ⟨gr, 2, none⟩ = some (.string nm) ∧ w'.cell? ⟨gr, 3, none⟩ = some (.int .i64 kd) ∧ w'.cell? ⟨gr, 4, none⟩ = some (.string wh) ∧ w'.cell? ⟨gr, 5, none⟩ = some (.string ao) ∧ w'.cell? ⟨gr, 6, none⟩ = some (.string an) ∧ w'.cell? ⟨gr, 7, none⟩ = some (.string bo) ∧ w'.cell? ⟨gr, 8, none⟩ = some (.string bn) ∧ w'.cell? ⟨gc, 0, none⟩ = some (.string D) ∧ w'.cell? ⟨gc, 1, none⟩ = some (.string n) ∧ w'.cell? ⟨gc, 2, none⟩ = some (.string who))
      (first | exact HKS.out _ (Below.refl _ _).drew | exact HKS.out _ BW.out)
      ((first | (go_at_call 51; (refine (HRO.out _).mono ?_); rintro er w4 ⟨rfl, bb⟩; have BW : Hid (Below w3.heap.size w3 w4) := hid ((Below.refl w3.heap.size w3).drew.trans bb); clear bb)))
    all_goals
      go_wp2_with fail
      go_ret2
      exact ⟨.inl ⟨rfl, _, rfl⟩, HQ3.out.trans (BW.out.mono HQ3.out.size)⟩
set_option maxHeartbeats 8000000 in
set_option maxRecDepth 100000 in
theorem refWhy_1 (c : Crd) (p : Pr) (hk : c.kd = 1) (hr : p.1 = roleOf c) (hc : mayC c = true) (A : Option Addr) (l : List Pr) (ln cap : Nat) (hn : l.length = ln) (hm : ln ≤ 1000000) (w : World) (h : Els encP w w.heap.size A l) :
    Calls Tryd.prog 48 #[.agg c.cells.toArray, .agg #[.string p.1.1, .string p.1.2, .string p.2], .slice A ln cap] w fun e w' => WhyP w.heap.size w' (why c (· ∈ l) p) e ∧ Below w.heap.size w w' := by
  obtain ⟨⟨o, n⟩, who⟩ := p
  have e0 := may_head hc
  have HRO := hid (fun W => refRoleC_any c (by have := e0.1; omega) (by have := e0; omega) W)
  obtain ⟨d, q, nm, kd, wh, ao, an, bo, bn⟩ := c
  simp only at hk
  subst hk
  obtain ⟨D, hD⟩ : ∃ D, domB d = D := ⟨_, rfl⟩
  simp only at HRO
  rw [hD] at HRO
  have HRL : Hid (roleOf ⟨d, q, nm, 1, wh, ao, an, bo, bn⟩ = (D, nm)) := hid (by unfold roleOf; rw [hD])
  obtain ⟨w1, hw1⟩ : ∃ w1, w1 = w.alloc (.cells (Crd.cells ⟨d, q, nm, 1, wh, ao, an, bo, bn⟩).toArray 55) := ⟨_, rfl⟩
  obtain ⟨w3, hw3⟩ : ∃ w3, w3 = w1.alloc (.cells #[.string o, .string n, .string who] 47) := ⟨_, rfl⟩
  obtain ⟨gr, hgr⟩ : ∃ g, w.heap.size = g := ⟨_, rfl⟩
  obtain ⟨gc, hgc⟩ : ∃ g, gr + 1 = g := ⟨_, rfl⟩
  have hz1 : w1.heap.size = gc := by rw [hw1, World.size_alloc, hgr, hgc]
  have q1 : Below w.heap.size w w1 := by rw [hw1]; exact (Below.refl _ _).alloc (Nat.le_refl _) _
  have q3 : Below w1.heap.size w1 w3 := by rw [hw3]; exact (Below.refl _ _).alloc (Nat.le_refl _) _
  have r1 : CrAt w1 gr ⟨d, q, nm, 1, wh, ao, an, bo, bn⟩ := by rw [hw1, ← hgr]; exact CrAt.new w _
  have HC3 := hid (r1.kept q3)
  have HP3 : Hid (PrB w3 gc o n who) := hid (by rw [hw3, ← hz1]; exact PrB.new w1 _ _ _)
  have HQ3 : Hid (Below w.heap.size w w3) := hid (q1.trans (q3.mono q1.size))
  have HEL := hid (fun W (hW : Below w3.heap.size w3 W) => (h.below (HQ3.out.trans (hW.mono HQ3.out.size))).more (Nat.le_trans HQ3.out.size hW.size))
  have HKS := hid (fun W (hW : Below w3.heap.size w3 W) => by
    have k1 := (HC3.out.kept hW).all
    have k2 := (HP3.out.kept hW).all
    exact (⟨k1.1, k1.2.1, k1.2.2.1, k1.2.2.2.1, k1.2.2.2.2.1, k1.2.2.2.2.2.1, k1.2.2.2.2.2.2.1, k1.2.2.2.2.2.2.2.1, k1.2.2.2.2.2.2.2.2, k2.1, k2.2.1, k2.2.2⟩ : W.cell? ⟨gr, 0, none⟩ = some (.int .i64 d) ∧ W.cell? ⟨gr, 1, none⟩ = some (.int .i64 q) ∧ W.cell? ⟨gr, 2, none⟩ = some (.string nm) ∧ W.cell? ⟨gr, 3, none⟩ = some (.int .i64 1) ∧ W.cell? ⟨gr, 4, none⟩ = some (.string wh) ∧ W.cell? ⟨gr, 5, none⟩ = some (.string ao) ∧ W.cell? ⟨gr, 6, none⟩ = some (.string an) ∧ W.cell? ⟨gr, 7, none⟩ = some (.string bo) ∧ W.cell? ⟨gr, 8, none⟩ = some (.string bn) ∧ W.cell? ⟨gc, 0, none⟩ = some (.string o) ∧ W.cell? ⟨gc, 1, none⟩ = some (.string n) ∧ W.cell? ⟨gc, 2, none⟩ = some (.string who)))
  have HLN := hid hn
  have HLM : Hid (ln ≤ 1000000) := hid hm
  have hon : D = o ∧ nm = n := by rw [HRL.out] at hr; simp only [Prod.mk.injEq] at hr; exact ⟨hr.1.symm, hr.2.symm⟩
  obtain ⟨rfl, rfl⟩ := hon
  by_cases hx : wh = who
  · have hwy : why ⟨d, q, nm, 1, wh, ao, an, bo, bn⟩ (· ∈ l) ((D, nm), who) = some [] := why_iff.2 ⟨hr, .inl ⟨rfl, hx.symm, rfl⟩⟩
    rw [hwy]
    subst hx
    clear hwy hr
    unfold Crd.cells at hw1 HRO ⊢
    simp only at hw1 HRO ⊢
    clear q1 q3 r1 hD e0 hz1 h hn hm hc
    go_enter Tryd.func48, Tryd.ntmps48
    go_wp2_with fail
    rw [← hw1]
    try rw [hgr]
    rw [← hw3]
    try rw [hgc]
    clear hw1 hw3 hgr hgc
    go_region_held3 (fun w' => w'.cell? ⟨gr, 0, none⟩ = some (.int .i64 d) ∧ w'.cell? ⟨gr, 1, none⟩ = some (.int .i64 q) ∧ w'.cell? ⟨gr, 2, none⟩ = some (.string nm) ∧ w'.cell? ⟨gr, 3, none⟩ = some (.int .i64 1) ∧ w'.cell? ⟨gr, 4, none⟩ = some (.string wh) ∧ w'.cell? ⟨gr, 5, none⟩ = some (.string ao) ∧ w'.cell? ⟨gr, 6, none⟩ = some (.string an) ∧ w'.cell? ⟨gr, 7, none⟩ = some (.string bo) ∧ w'.cell? ⟨gr, 8, none⟩ = some (.string bn) ∧ w'.cell? ⟨gc, 0, none⟩ = some (.string D) ∧ w'.cell? ⟨gc, 1, none⟩ = some (.string nm) ∧ w'.cell? ⟨gc, 2, none⟩ = some (.string wh))
      (first | exact HKS.out _ (Below.refl _ _).drew | exact HKS.out _ BW.out)
      ((first | (go_at_call 51; (refine (HRO.out _).mono ?_); rintro er w4 ⟨rfl, bb⟩; have BW : Hid (Below w3.heap.size w3 w4) := hid ((Below.refl w3.heap.size w3).drew.trans bb); clear bb)))
    all_goals
      obtain ⟨a0, a1, a2, a3, a4, a5, a6, a7, a8, p0, p1, p2⟩ := HKS.out _ BW.out
      go_wp2_with fail
      go_quiet (fail)
      go_wp2
      go_ret2
      exact ⟨.inr ⟨[], 0, none, 0, rfl, rfl, rfl, Els.nil, fun ad e => by cases e⟩, below_drewN (HQ3.out.trans (BW.out.mono HQ3.out.size)) _⟩
  · have hwy : why ⟨d, q, nm, 1, wh, ao, an, bo, bn⟩ (· ∈ l) ((D, nm), who) = none := why_none.2 fun hd => by
      rcases hd.2 with h1 | h1 | h1 | h1
      · exact hx h1.2.symm
      · exact absurd h1.1 (show ¬ (1 : Int) = 2 by decide)
      · exact absurd h1.1 (show ¬ (1 : Int) = 3 by decide)
      · exact absurd h1.1 (show ¬ (1 : Int) = 4 by decide)
    rw [hwy]
    obtain ⟨x1, x2⟩ := inne hx
    clear hwy hr hx
    unfold Crd.cells at hw1 HRO ⊢
    simp only at hw1 HRO ⊢
    clear q1 q3 r1 hD e0 hz1 h hn hm hc
    go_enter Tryd.func48, Tryd.ntmps48
    go_wp2_with fail
    rw [← hw1]
    try rw [hgr]
    rw [← hw3]
    try rw [hgc]
    clear hw1 hw3 hgr hgc
    go_region_held3 (fun w' => w'.cell? ⟨gr, 0, none⟩ = some (.int .i64 d) ∧ w'.cell? ⟨gr, 1, none⟩ = some (.int .i64 q) ∧ w'.cell? ⟨gr, 2, none⟩ = some (.string nm) ∧ w'.cell? ⟨gr, 3, none⟩ = some (.int .i64 1) ∧ w'.cell? ⟨gr, 4, none⟩ = some (.string wh) ∧ w'.cell? ⟨gr, 5, none⟩ = some (.string ao) ∧ w'.cell? ⟨gr, 6, none⟩ = some (.string an) ∧ w'.cell? ⟨gr, 7, none⟩ = some (.string bo) ∧ w'.cell? ⟨gr, 8, none⟩ = some (.string bn) ∧ w'.cell? ⟨gc, 0, none⟩ = some (.string D) ∧ w'.cell? ⟨gc, 1, none⟩ = some (.string nm) ∧ w'.cell? ⟨gc, 2, none⟩ = some (.string who))
      (first | exact HKS.out _ (Below.refl _ _).drew | exact HKS.out _ BW.out)
      ((first | (go_at_call 51; (refine (HRO.out _).mono ?_); rintro er w4 ⟨rfl, bb⟩; have BW : Hid (Below w3.heap.size w3 w4) := hid ((Below.refl w3.heap.size w3).drew.trans bb); clear bb)))
    all_goals
      obtain ⟨a0, a1, a2, a3, a4, a5, a6, a7, a8, p0, p1, p2⟩ := HKS.out _ BW.out
      go_wp2_with fail
      go_quiet (fail)
      go_wp2
      go_ret2
      exact ⟨.inl ⟨rfl, _, rfl⟩, below_drewN (HQ3.out.trans (BW.out.mono HQ3.out.size)) _⟩
set_option maxHeartbeats 8000000 in
set_option maxRecDepth 100000 in
theorem refWhy_2 (c : Crd) (p : Pr) (hk : c.kd = 2) (hr : p.1 = roleOf c) (hc : mayC c = true) (A : Option Addr) (l : List Pr) (ln cap : Nat) (hn : l.length = ln) (hm : ln ≤ 1000000) (w : World) (h : Els encP w w.heap.size A l) :
    Calls Tryd.prog 48 #[.agg c.cells.toArray, .agg #[.string p.1.1, .string p.1.2, .string p.2], .slice A ln cap] w fun e w' => WhyP w.heap.size w' (why c (· ∈ l) p) e ∧ Below w.heap.size w w' := by
  obtain ⟨⟨o, n⟩, who⟩ := p
  have e0 := may_head hc
  have HRO := hid (fun W => refRoleC_any c (by have := e0.1; omega) (by have := e0; omega) W)
  obtain ⟨d, q, nm, kd, wh, ao, an, bo, bn⟩ := c
  simp only at hk
  subst hk
  obtain ⟨D, hD⟩ : ∃ D, domB d = D := ⟨_, rfl⟩
  simp only at HRO
  rw [hD] at HRO
  have HRL : Hid (roleOf ⟨d, q, nm, 2, wh, ao, an, bo, bn⟩ = (D, nm)) := hid (by unfold roleOf; rw [hD])
  obtain ⟨w1, hw1⟩ : ∃ w1, w1 = w.alloc (.cells (Crd.cells ⟨d, q, nm, 2, wh, ao, an, bo, bn⟩).toArray 55) := ⟨_, rfl⟩
  obtain ⟨w3, hw3⟩ : ∃ w3, w3 = w1.alloc (.cells #[.string o, .string n, .string who] 47) := ⟨_, rfl⟩
  obtain ⟨gr, hgr⟩ : ∃ g, w.heap.size = g := ⟨_, rfl⟩
  obtain ⟨gc, hgc⟩ : ∃ g, gr + 1 = g := ⟨_, rfl⟩
  have hz1 : w1.heap.size = gc := by rw [hw1, World.size_alloc, hgr, hgc]
  have q1 : Below w.heap.size w w1 := by rw [hw1]; exact (Below.refl _ _).alloc (Nat.le_refl _) _
  have q3 : Below w1.heap.size w1 w3 := by rw [hw3]; exact (Below.refl _ _).alloc (Nat.le_refl _) _
  have r1 : CrAt w1 gr ⟨d, q, nm, 2, wh, ao, an, bo, bn⟩ := by rw [hw1, ← hgr]; exact CrAt.new w _
  have HC3 := hid (r1.kept q3)
  have HP3 : Hid (PrB w3 gc o n who) := hid (by rw [hw3, ← hz1]; exact PrB.new w1 _ _ _)
  have HQ3 : Hid (Below w.heap.size w w3) := hid (q1.trans (q3.mono q1.size))
  have HEL := hid (fun W (hW : Below w3.heap.size w3 W) => (h.below (HQ3.out.trans (hW.mono HQ3.out.size))).more (Nat.le_trans HQ3.out.size hW.size))
  have HKS := hid (fun W (hW : Below w3.heap.size w3 W) => by
    have k1 := (HC3.out.kept hW).all
    have k2 := (HP3.out.kept hW).all
    exact (⟨k1.1, k1.2.1, k1.2.2.1, k1.2.2.2.1, k1.2.2.2.2.1, k1.2.2.2.2.2.1, k1.2.2.2.2.2.2.1, k1.2.2.2.2.2.2.2.1, k1.2.2.2.2.2.2.2.2, k2.1, k2.2.1, k2.2.2⟩ : W.cell? ⟨gr, 0, none⟩ = some (.int .i64 d) ∧ W.cell? ⟨gr, 1, none⟩ = some (.int .i64 q) ∧ W.cell? ⟨gr, 2, none⟩ = some (.string nm) ∧ W.cell? ⟨gr, 3, none⟩ = some (.int .i64 2) ∧ W.cell? ⟨gr, 4, none⟩ = some (.string wh) ∧ W.cell? ⟨gr, 5, none⟩ = some (.string ao) ∧ W.cell? ⟨gr, 6, none⟩ = some (.string an) ∧ W.cell? ⟨gr, 7, none⟩ = some (.string bo) ∧ W.cell? ⟨gr, 8, none⟩ = some (.string bn) ∧ W.cell? ⟨gc, 0, none⟩ = some (.string o) ∧ W.cell? ⟨gc, 1, none⟩ = some (.string n) ∧ W.cell? ⟨gc, 2, none⟩ = some (.string who)))
  have HLN := hid hn
  have HLM : Hid (ln ≤ 1000000) := hid hm
  have hon : D = o ∧ nm = n := by rw [HRL.out] at hr; simp only [Prod.mk.injEq] at hr; exact ⟨hr.1.symm, hr.2.symm⟩
  obtain ⟨rfl, rfl⟩ := hon
  have HY := hid (fun (e : ((ao, an), who) ∈ l) => show why ⟨d, q, nm, 2, wh, ao, an, bo, bn⟩ (· ∈ l) ((D, nm), who) = some [((ao, an), who)] from why_iff.2 ⟨hr, .inr (.inl ⟨rfl, e, rfl⟩)⟩)
  have HNO := hid (fun (e : ((ao, an), who) ∉ l) => show why ⟨d, q, nm, 2, wh, ao, an, bo, bn⟩ (· ∈ l) ((D, nm), who) = none from why_none.2 fun hd => by
      rcases hd.2 with h1 | h1 | h1 | h1
      · exact absurd h1.1 (show ¬ (2 : Int) = 1 by decide)
      · exact e h1.2
      · exact absurd h1.1 (show ¬ (2 : Int) = 3 by decide)
      · exact absurd h1.1 (show ¬ (2 : Int) = 4 by decide))
  obtain ⟨ow, how⟩ : ∃ ow, why ⟨d, q, nm, 2, wh, ao, an, bo, bn⟩ (· ∈ l) ((D, nm), who) = ow := ⟨_, rfl⟩
  rw [how] at HY HNO ⊢
  obtain ⟨T, hT⟩ : ∃ T, decide (((ao, an), who) ∈ l) = T := ⟨_, rfl⟩
  have HT := hid hT
  clear hr how hT
  unfold Crd.cells at hw1 HRO ⊢
  simp only at hw1 HRO ⊢
  clear q1 q3 r1 hD e0 hz1 h hn hm hc
  go_enter Tryd.func48, Tryd.ntmps48
  go_wp2_with fail
  rw [← hw1]
  try rw [hgr]
  rw [← hw3]
  try rw [hgc]
  clear hw1 hw3 hgr hgc
  go_region_held3 (fun w' => w'.cell? ⟨gr, 0, none⟩ = some (.int .i64 d) ∧ w'.cell? ⟨gr, 1, none⟩ = some (.int .i64 q) ∧ w'.cell? ⟨gr, 2, none⟩ = some (.string nm) ∧ w'.cell? ⟨gr, 3, none⟩ = some (.int .i64 2) ∧ w'.cell? ⟨gr, 4, none⟩ = some (.string wh) ∧ w'.cell? ⟨gr, 5, none⟩ = some (.string ao) ∧ w'.cell? ⟨gr, 6, none⟩ = some (.string an) ∧ w'.cell? ⟨gr, 7, none⟩ = some (.string bo) ∧ w'.cell? ⟨gr, 8, none⟩ = some (.string bn) ∧ w'.cell? ⟨gc, 0, none⟩ = some (.string D) ∧ w'.cell? ⟨gc, 1, none⟩ = some (.string nm) ∧ w'.cell? ⟨gc, 2, none⟩ = some (.string who))
    (first | exact HKS.out _ (Below.refl _ _).drew | exact HKS.out _ BW.out)
    ((first | (go_at_call 51; (refine (HRO.out _).mono ?_); rintro er w4 ⟨rfl, bb⟩; have BW : Hid (Below w3.heap.size w3 w4) := hid ((Below.refl w3.heap.size w3).drew.trans bb); clear bb)))
  all_goals
    obtain ⟨a0, a1, a2, a3, a4, a5, a6, a7, a8, p0, p1, p2⟩ := HKS.out _ BW.out
    go_upto_region 7 with fail
    obtain ⟨w4', hw4⟩ : ∃ x, x = w4.alloc (.cells #[.string ao, .string an, .string who] 47) := ⟨_, rfl⟩
    have BW4 : Hid (Below w3.heap.size w3 w4') := hid (by rw [hw4]; exact BW.out.alloc BW.out.size _)
    obtain ⟨g1, hg1⟩ : ∃ x, w4.heap.size = x := ⟨_, rfl⟩
    have HP4 : Hid (PrB w4' g1 ao an who) := hid (by rw [hw4, ← hg1]; exact PrB.new w4 _ _ _)
    rw [← hw4]
    try rw [hg1]
    clear a0 a1 a2 a3 a4 a5 a6 a7 a8 p0 p1 p2 hw4 hg1
    obtain ⟨a0, a1, a2, a3, a4, a5, a6, a7, a8, p0, p1, p2⟩ := HKS.out _ BW4.out
    go_upto_region 8 with fail
    obtain ⟨w5, hw5⟩ : ∃ w5, w5 = w4'.alloc (.cells #[.string bo, .string bn, .string who] 47) := ⟨_, rfl⟩
    rw [← hw5]
    have HB5 : Hid (Below w3.heap.size w3 w5) := hid (by rw [hw5]; exact BW4.out.alloc BW4.out.size _)
    have HP5 : Hid (PrB w5 g1 ao an who) := hid (by rw [hw5]; exact keep_alloc8 HP4.out)
    clear hw5 BW4 HP4 a0 a1 a2 a3 a4 a5 a6 a7 a8 p0 p1 p2
    have HIN := hid (in_any A l ln cap HLN.out (by have := HLM.out; omega) ao an who w5 (HEL.out w5 HB5.out))
    rw [HT.out] at HIN
    obtain ⟨p0, p1, p2⟩ := HP5.out.all
    have k3 := (HKS.out w5 HB5.out).2.2.2.1
    go_upto_region 9 with (go_at_call 21; (refine HIN.out.mono ?_); rintro er w6 ⟨rfl, b6⟩; have HB6 := hid (HB5.out.trans (b6.mono HB5.out.size)); have HP6 := hid (HP5.out.kept b6); clear b6)
    clear p0 p1 p2 k3
    obtain ⟨p0, p1, p2⟩ := HP6.out.all
    have k3 := (HKS.out w6 HB6.out).2.2.2.1
    have HE7 := hid (els_one8 w6 ao an who)
    have HB7 := hid ((Below.refl w6.heap.size w6).alloc (Nat.le_refl _) (.cells #[.string ao, .string an, .string who] 47))
    cases T with
    | false =>
      have HOW := hid (HNO.out (of_decide_eq_false HT.out))
      go_wp2_with fail
      go_ret2
      exact ⟨.inl ⟨HOW.out, _, rfl⟩, HQ3.out.trans ((HB6.out.trans (HB7.out.mono HB6.out.size)).mono HQ3.out.size)⟩
    | true =>
      have HOW := hid (HY.out (of_decide_eq_true HT.out))
      go_wp2_with fail
      go_ret2
      exact ⟨.inr ⟨_, 1, _, 1, HOW.out, rfl, rfl, HE7.out, fun ad e => by cases e; exact Nat.le_trans HQ3.out.size HB6.out.size⟩, HQ3.out.trans ((HB6.out.trans (HB7.out.mono HB6.out.size)).mono HQ3.out.size)⟩
set_option maxHeartbeats 8000000 in
set_option maxRecDepth 100000 in
theorem refWhy_4 (c : Crd) (p : Pr) (hk : c.kd = 4) (hr : p.1 = roleOf c) (hc : mayC c = true) (A : Option Addr) (l : List Pr) (ln cap : Nat) (hn : l.length = ln) (hm : ln ≤ 1000000) (w : World) (h : Els encP w w.heap.size A l) :
    Calls Tryd.prog 48 #[.agg c.cells.toArray, .agg #[.string p.1.1, .string p.1.2, .string p.2], .slice A ln cap] w fun e w' => WhyP w.heap.size w' (why c (· ∈ l) p) e ∧ Below w.heap.size w w' := by
  obtain ⟨⟨o, n⟩, who⟩ := p
  have e0 := may_head hc
  have HRO := hid (fun W => refRoleC_any c (by have := e0.1; omega) (by have := e0; omega) W)
  obtain ⟨d, q, nm, kd, wh, ao, an, bo, bn⟩ := c
  simp only at hk
  subst hk
  obtain ⟨D, hD⟩ : ∃ D, domB d = D := ⟨_, rfl⟩
  simp only at HRO
  rw [hD] at HRO
  have HRL : Hid (roleOf ⟨d, q, nm, 4, wh, ao, an, bo, bn⟩ = (D, nm)) := hid (by unfold roleOf; rw [hD])
  obtain ⟨w1, hw1⟩ : ∃ w1, w1 = w.alloc (.cells (Crd.cells ⟨d, q, nm, 4, wh, ao, an, bo, bn⟩).toArray 55) := ⟨_, rfl⟩
  obtain ⟨w3, hw3⟩ : ∃ w3, w3 = w1.alloc (.cells #[.string o, .string n, .string who] 47) := ⟨_, rfl⟩
  obtain ⟨gr, hgr⟩ : ∃ g, w.heap.size = g := ⟨_, rfl⟩
  obtain ⟨gc, hgc⟩ : ∃ g, gr + 1 = g := ⟨_, rfl⟩
  have hz1 : w1.heap.size = gc := by rw [hw1, World.size_alloc, hgr, hgc]
  have q1 : Below w.heap.size w w1 := by rw [hw1]; exact (Below.refl _ _).alloc (Nat.le_refl _) _
  have q3 : Below w1.heap.size w1 w3 := by rw [hw3]; exact (Below.refl _ _).alloc (Nat.le_refl _) _
  have r1 : CrAt w1 gr ⟨d, q, nm, 4, wh, ao, an, bo, bn⟩ := by rw [hw1, ← hgr]; exact CrAt.new w _
  have HC3 := hid (r1.kept q3)
  have HP3 : Hid (PrB w3 gc o n who) := hid (by rw [hw3, ← hz1]; exact PrB.new w1 _ _ _)
  have HQ3 : Hid (Below w.heap.size w w3) := hid (q1.trans (q3.mono q1.size))
  have HEL := hid (fun W (hW : Below w3.heap.size w3 W) => (h.below (HQ3.out.trans (hW.mono HQ3.out.size))).more (Nat.le_trans HQ3.out.size hW.size))
  have HKS := hid (fun W (hW : Below w3.heap.size w3 W) => by
    have k1 := (HC3.out.kept hW).all
    have k2 := (HP3.out.kept hW).all
    exact (⟨k1.1, k1.2.1, k1.2.2.1, k1.2.2.2.1, k1.2.2.2.2.1, k1.2.2.2.2.2.1, k1.2.2.2.2.2.2.1, k1.2.2.2.2.2.2.2.1, k1.2.2.2.2.2.2.2.2, k2.1, k2.2.1, k2.2.2⟩ : W.cell? ⟨gr, 0, none⟩ = some (.int .i64 d) ∧ W.cell? ⟨gr, 1, none⟩ = some (.int .i64 q) ∧ W.cell? ⟨gr, 2, none⟩ = some (.string nm) ∧ W.cell? ⟨gr, 3, none⟩ = some (.int .i64 4) ∧ W.cell? ⟨gr, 4, none⟩ = some (.string wh) ∧ W.cell? ⟨gr, 5, none⟩ = some (.string ao) ∧ W.cell? ⟨gr, 6, none⟩ = some (.string an) ∧ W.cell? ⟨gr, 7, none⟩ = some (.string bo) ∧ W.cell? ⟨gr, 8, none⟩ = some (.string bn) ∧ W.cell? ⟨gc, 0, none⟩ = some (.string o) ∧ W.cell? ⟨gc, 1, none⟩ = some (.string n) ∧ W.cell? ⟨gc, 2, none⟩ = some (.string who)))
  have HLN := hid hn
  have HLM : Hid (ln ≤ 1000000) := hid hm
  have hon : D = o ∧ nm = n := by rw [HRL.out] at hr; simp only [Prod.mk.injEq] at hr; exact ⟨hr.1.symm, hr.2.symm⟩
  obtain ⟨rfl, rfl⟩ := hon
  have HY := hid (fun (e : ((ao, an), who) ∈ l) (e2 : ((bo, bn), who) ∈ l) => show why ⟨d, q, nm, 4, wh, ao, an, bo, bn⟩ (· ∈ l) ((D, nm), who) = some [((ao, an), who), ((bo, bn), who)] from why_iff.2 ⟨hr, .inr (.inr (.inr ⟨rfl, e, e2, rfl⟩))⟩)
  have HNO := hid (fun (e : ¬ (((ao, an), who) ∈ l ∧ ((bo, bn), who) ∈ l)) => show why ⟨d, q, nm, 4, wh, ao, an, bo, bn⟩ (· ∈ l) ((D, nm), who) = none from why_none.2 fun hd => by
      rcases hd.2 with h1 | h1 | h1 | h1
      · exact absurd h1.1 (show ¬ (4 : Int) = 1 by decide)
      · exact absurd h1.1 (show ¬ (4 : Int) = 2 by decide)
      · exact absurd h1.1 (show ¬ (4 : Int) = 3 by decide)
      · exact e h1.2)
  obtain ⟨ow, how⟩ : ∃ ow, why ⟨d, q, nm, 4, wh, ao, an, bo, bn⟩ (· ∈ l) ((D, nm), who) = ow := ⟨_, rfl⟩
  rw [how] at HY HNO ⊢
  obtain ⟨T, hT⟩ : ∃ T, decide (((ao, an), who) ∈ l) = T := ⟨_, rfl⟩
  have HT := hid hT
  obtain ⟨T2, hT2⟩ : ∃ T, decide (((bo, bn), who) ∈ l) = T := ⟨_, rfl⟩
  have HT2 := hid hT2
  clear hr how hT hT2
  unfold Crd.cells at hw1 HRO ⊢
  simp only at hw1 HRO ⊢
  clear q1 q3 r1 hD e0 hz1 h hn hm hc
  go_enter Tryd.func48, Tryd.ntmps48
  go_wp2_with fail
  rw [← hw1]
  try rw [hgr]
  rw [← hw3]
  try rw [hgc]
  clear hw1 hw3 hgr hgc
  go_region_held3 (fun w' => w'.cell? ⟨gr, 0, none⟩ = some (.int .i64 d) ∧ w'.cell? ⟨gr, 1, none⟩ = some (.int .i64 q) ∧ w'.cell? ⟨gr, 2, none⟩ = some (.string nm) ∧ w'.cell? ⟨gr, 3, none⟩ = some (.int .i64 4) ∧ w'.cell? ⟨gr, 4, none⟩ = some (.string wh) ∧ w'.cell? ⟨gr, 5, none⟩ = some (.string ao) ∧ w'.cell? ⟨gr, 6, none⟩ = some (.string an) ∧ w'.cell? ⟨gr, 7, none⟩ = some (.string bo) ∧ w'.cell? ⟨gr, 8, none⟩ = some (.string bn) ∧ w'.cell? ⟨gc, 0, none⟩ = some (.string D) ∧ w'.cell? ⟨gc, 1, none⟩ = some (.string nm) ∧ w'.cell? ⟨gc, 2, none⟩ = some (.string who))
    (first | exact HKS.out _ (Below.refl _ _).drew | exact HKS.out _ BW.out)
    ((first | (go_at_call 51; (refine (HRO.out _).mono ?_); rintro er w4 ⟨rfl, bb⟩; have BW : Hid (Below w3.heap.size w3 w4) := hid ((Below.refl w3.heap.size w3).drew.trans bb); clear bb)))
  all_goals
    obtain ⟨a0, a1, a2, a3, a4, a5, a6, a7, a8, p0, p1, p2⟩ := HKS.out _ BW.out
    go_upto_region 7 with fail
    obtain ⟨w4', hw4⟩ : ∃ x, x = w4.alloc (.cells #[.string ao, .string an, .string who] 47) := ⟨_, rfl⟩
    have BW4 : Hid (Below w3.heap.size w3 w4') := hid (by rw [hw4]; exact BW.out.alloc BW.out.size _)
    obtain ⟨g1, hg1⟩ : ∃ x, w4.heap.size = x := ⟨_, rfl⟩
    have HP4 : Hid (PrB w4' g1 ao an who) := hid (by rw [hw4, ← hg1]; exact PrB.new w4 _ _ _)
    rw [← hw4]
    try rw [hg1]
    clear a0 a1 a2 a3 a4 a5 a6 a7 a8 p0 p1 p2 hw4 hg1
    obtain ⟨a0, a1, a2, a3, a4, a5, a6, a7, a8, p0, p1, p2⟩ := HKS.out _ BW4.out
    go_upto_region 8 with fail
    obtain ⟨w5, hw5⟩ : ∃ w5, w5 = w4'.alloc (.cells #[.string bo, .string bn, .string who] 47) := ⟨_, rfl⟩
    obtain ⟨g2, hg2⟩ : ∃ x, w4'.heap.size = x := ⟨_, rfl⟩
    rw [← hw5]
    try rw [hg2]
    have HB5 : Hid (Below w3.heap.size w3 w5) := hid (by rw [hw5]; exact BW4.out.alloc BW4.out.size _)
    have HP5 : Hid (PrB w5 g1 ao an who) := hid (by rw [hw5]; exact keep_alloc8 HP4.out)
    have HQ5 : Hid (PrB w5 g2 bo bn who) := hid (by rw [hw5, ← hg2]; exact PrB.new w4' _ _ _)
    clear hw5 hg2 BW4 HP4 a0 a1 a2 a3 a4 a5 a6 a7 a8 p0 p1 p2
    have HIN := hid (in_any A l ln cap HLN.out (by have := HLM.out; omega) ao an who w5 (HEL.out w5 HB5.out))
    rw [HT.out] at HIN
    obtain ⟨p0, p1, p2⟩ := HP5.out.all
    have k3 := (HKS.out w5 HB5.out).2.2.2.1
    go_upto_region 9 with (go_at_call 21; (refine HIN.out.mono ?_); rintro er w6 ⟨rfl, b6⟩; have HB6 := hid (HB5.out.trans (b6.mono HB5.out.size)); have HP6 := hid (HP5.out.kept b6); have HQ6 := hid (HQ5.out.kept b6); clear b6)
    clear p0 p1 p2 k3
    have HIN2 := hid (in_any A l ln cap HLN.out (by have := HLM.out; omega) bo bn who w6 (HEL.out w6 HB6.out))
    rw [HT2.out] at HIN2
    obtain ⟨p0, p1, p2⟩ := HQ6.out.all
    have k3 := (HKS.out w6 HB6.out).2.2.2.1
    go_upto_region 12 with (go_at_call 21; (refine HIN2.out.mono ?_); rintro er w7 ⟨rfl, b7⟩; have HB7 := hid (HB6.out.trans (b7.mono HB6.out.size)); have HP7 := hid (HP6.out.kept b7); have HQ7 := hid (HQ6.out.kept b7); clear b7)
    clear p0 p1 p2 k3 HIN HIN2 HP5 HP6 HQ5 HQ6 HB5 HB6
    obtain ⟨p0, p1, p2⟩ := HP7.out.all
    obtain ⟨q0, q1, q2⟩ := HQ7.out.all
    have HE8 := hid (els_two8 w7 ao an who bo bn who)
    have HB8 := hid ((Below.refl w7.heap.size w7).alloc (Nat.le_refl _) (.cells #[.string ao, .string an, .string who, .string bo, .string bn, .string who] 47))
    cases T with
    | false =>
      have HOW := hid (HNO.out (fun e => of_decide_eq_false HT.out e.1))
      go_wp2_with fail
      go_ret2
      exact ⟨.inl ⟨HOW.out, _, rfl⟩, HQ3.out.trans ((HB7.out.trans (HB8.out.mono HB7.out.size)).mono HQ3.out.size)⟩
    | true =>
      cases T2 with
      | false =>
        have HOW := hid (HNO.out (fun e => of_decide_eq_false HT2.out e.2))
        go_wp2_with fail
        go_ret2
        exact ⟨.inl ⟨HOW.out, _, rfl⟩, HQ3.out.trans ((HB7.out.trans (HB8.out.mono HB7.out.size)).mono HQ3.out.size)⟩
      | true =>
        have HOW := hid (HY.out (of_decide_eq_true HT.out) (of_decide_eq_true HT2.out))
        go_wp2_with fail
        go_ret2
        exact ⟨.inr ⟨_, 2, _, 2, HOW.out, rfl, rfl, HE8.out, fun ad e => by cases e; exact Nat.le_trans HQ3.out.size HB7.out.size⟩, HQ3.out.trans ((HB7.out.trans (HB8.out.mono HB7.out.size)).mono HQ3.out.size)⟩
set_option maxHeartbeats 8000000 in
set_option maxRecDepth 100000 in
theorem refWhy_3 (c : Crd) (p : Pr) (hk : c.kd = 3) (hr : p.1 = roleOf c) (hc : mayC c = true) (A : Option Addr) (l : List Pr) (ln cap : Nat) (hn : l.length = ln) (hm : ln ≤ 1000000) (w : World) (h : Els encP w w.heap.size A l) :
    Calls Tryd.prog 48 #[.agg c.cells.toArray, .agg #[.string p.1.1, .string p.1.2, .string p.2], .slice A ln cap] w fun e w' => WhyP w.heap.size w' (why c (· ∈ l) p) e ∧ Below w.heap.size w w' := by
  obtain ⟨⟨o, n⟩, who⟩ := p
  have e0 := may_head hc
  have HRO := hid (fun W => refRoleC_any c (by have := e0.1; omega) (by have := e0; omega) W)
  have HFI := hid (fun W => first_any c (by have := e0.1; omega) (by have := e0.2.1; omega) W)
  obtain ⟨d, q, nm, kd, wh, ao, an, bo, bn⟩ := c
  simp only at hk
  subst hk
  obtain ⟨D, hD⟩ : ∃ D, domB d = D := ⟨_, rfl⟩
  simp only at HRO HFI
  rw [hD] at HRO HFI
  have HRL : Hid (roleOf ⟨d, q, nm, 3, wh, ao, an, bo, bn⟩ = (D, nm)) := hid (by unfold roleOf; rw [hD])
  obtain ⟨w1, hw1⟩ : ∃ w1, w1 = w.alloc (.cells (Crd.cells ⟨d, q, nm, 3, wh, ao, an, bo, bn⟩).toArray 55) := ⟨_, rfl⟩
  obtain ⟨w3, hw3⟩ : ∃ w3, w3 = w1.alloc (.cells #[.string o, .string n, .string who] 47) := ⟨_, rfl⟩
  obtain ⟨gr, hgr⟩ : ∃ g, w.heap.size = g := ⟨_, rfl⟩
  obtain ⟨gc, hgc⟩ : ∃ g, gr + 1 = g := ⟨_, rfl⟩
  have hz1 : w1.heap.size = gc := by rw [hw1, World.size_alloc, hgr, hgc]
  have q1 : Below w.heap.size w w1 := by rw [hw1]; exact (Below.refl _ _).alloc (Nat.le_refl _) _
  have q3 : Below w1.heap.size w1 w3 := by rw [hw3]; exact (Below.refl _ _).alloc (Nat.le_refl _) _
  have r1 : CrAt w1 gr ⟨d, q, nm, 3, wh, ao, an, bo, bn⟩ := by rw [hw1, ← hgr]; exact CrAt.new w _
  have HC3 := hid (r1.kept q3)
  have HP3 : Hid (PrB w3 gc o n who) := hid (by rw [hw3, ← hz1]; exact PrB.new w1 _ _ _)
  have HQ3 : Hid (Below w.heap.size w w3) := hid (q1.trans (q3.mono q1.size))
  have HEL := hid (fun W (hW : Below w3.heap.size w3 W) => (h.below (HQ3.out.trans (hW.mono HQ3.out.size))).more (Nat.le_trans HQ3.out.size hW.size))
  have HKS := hid (fun W (hW : Below w3.heap.size w3 W) => by
    have k1 := (HC3.out.kept hW).all
    have k2 := (HP3.out.kept hW).all
    exact (⟨k1.1, k1.2.1, k1.2.2.1, k1.2.2.2.1, k1.2.2.2.2.1, k1.2.2.2.2.2.1, k1.2.2.2.2.2.2.1, k1.2.2.2.2.2.2.2.1, k1.2.2.2.2.2.2.2.2, k2.1, k2.2.1, k2.2.2⟩ : W.cell? ⟨gr, 0, none⟩ = some (.int .i64 d) ∧ W.cell? ⟨gr, 1, none⟩ = some (.int .i64 q) ∧ W.cell? ⟨gr, 2, none⟩ = some (.string nm) ∧ W.cell? ⟨gr, 3, none⟩ = some (.int .i64 3) ∧ W.cell? ⟨gr, 4, none⟩ = some (.string wh) ∧ W.cell? ⟨gr, 5, none⟩ = some (.string ao) ∧ W.cell? ⟨gr, 6, none⟩ = some (.string an) ∧ W.cell? ⟨gr, 7, none⟩ = some (.string bo) ∧ W.cell? ⟨gr, 8, none⟩ = some (.string bn) ∧ W.cell? ⟨gc, 0, none⟩ = some (.string o) ∧ W.cell? ⟨gc, 1, none⟩ = some (.string n) ∧ W.cell? ⟨gc, 2, none⟩ = some (.string who)))
  have HLN := hid hn
  have HLM : Hid (ln ≤ 1000000) := hid hm
  have hon : D = o ∧ nm = n := by rw [HRL.out] at hr; simp only [Prod.mk.injEq] at hr; exact ⟨hr.1.symm, hr.2.symm⟩
  obtain ⟨rfl, rfl⟩ := hon
  have HY := hid (fun (i : Nat) (hi : i < 16) (h1 : ((D, an), domN i) ∈ l) (h2 : ((domN i, bn), who) ∈ l) (h3 : ∀ j, j < i → ¬ (((D, an), domN j) ∈ l ∧ ((domN j, bn), who) ∈ l)) => show why ⟨d, q, nm, 3, wh, ao, an, bo, bn⟩ (· ∈ l) ((D, nm), who) = some [((D, an), domN i), ((domN i, bn), who)] by
    have hF : firstOf ⟨d, q, nm, 3, wh, ao, an, bo, bn⟩ = (D, an) := by unfold firstOf; rw [hD]
    exact why_iff.2 ⟨hr, .inr (.inr (.inl ⟨rfl, i, hi, by rw [hF]; exact h1, h2, by rw [hF]; exact h3, by rw [hF]⟩))⟩)
  have HNO := hid (fun (h3 : ∀ j, j < 16 → ¬ (((D, an), domN j) ∈ l ∧ ((domN j, bn), who) ∈ l)) => show why ⟨d, q, nm, 3, wh, ao, an, bo, bn⟩ (· ∈ l) ((D, nm), who) = none from why_none.2 fun hd => by
      have hF : firstOf ⟨d, q, nm, 3, wh, ao, an, bo, bn⟩ = (D, an) := by unfold firstOf; rw [hD]
      rcases hd.2 with h1 | h1 | h1 | h1
      · exact absurd h1.1 (show ¬ (3 : Int) = 1 by decide)
      · exact absurd h1.1 (show ¬ (3 : Int) = 2 by decide)
      · obtain ⟨-, y, g1, g2, g3⟩ := h1
        obtain ⟨i, hi, rfl⟩ := (isD_iff y).1 g2
        rw [hF] at g1
        exact h3 i hi ⟨g1, g3⟩
      · exact absurd h1.1 (show ¬ (3 : Int) = 4 by decide))
  obtain ⟨ow, how⟩ : ∃ ow, why ⟨d, q, nm, 3, wh, ao, an, bo, bn⟩ (· ∈ l) ((D, nm), who) = ow := ⟨_, rfl⟩
  rw [how] at HY HNO ⊢
  clear hr how
  unfold Crd.cells at hw1 HRO HFI ⊢
  simp only at hw1 HRO HFI ⊢
  clear q1 q3 r1 hD e0 hz1 h hn hm hc
  go_enter Tryd.func48, Tryd.ntmps48
  go_wp2_with fail
  rw [← hw1]
  try rw [hgr]
  rw [← hw3]
  try rw [hgc]
  clear hw1 hw3 hgr hgc
  go_region_held3 (fun w' => w'.cell? ⟨gr, 0, none⟩ = some (.int .i64 d) ∧ w'.cell? ⟨gr, 1, none⟩ = some (.int .i64 q) ∧ w'.cell? ⟨gr, 2, none⟩ = some (.string nm) ∧ w'.cell? ⟨gr, 3, none⟩ = some (.int .i64 3) ∧ w'.cell? ⟨gr, 4, none⟩ = some (.string wh) ∧ w'.cell? ⟨gr, 5, none⟩ = some (.string ao) ∧ w'.cell? ⟨gr, 6, none⟩ = some (.string an) ∧ w'.cell? ⟨gr, 7, none⟩ = some (.string bo) ∧ w'.cell? ⟨gr, 8, none⟩ = some (.string bn) ∧ w'.cell? ⟨gc, 0, none⟩ = some (.string D) ∧ w'.cell? ⟨gc, 1, none⟩ = some (.string nm) ∧ w'.cell? ⟨gc, 2, none⟩ = some (.string who))
    (first | exact HKS.out _ (Below.refl _ _).drew | exact HKS.out _ BW.out)
    ((first | (go_at_call 51; (refine (HRO.out _).mono ?_); rintro er w4 ⟨rfl, bb⟩; have BW : Hid (Below w3.heap.size w3 w4) := hid ((Below.refl w3.heap.size w3).drew.trans bb); clear bb)))
  all_goals
    obtain ⟨a0, a1, a2, a3, a4, a5, a6, a7, a8, p0, p1, p2⟩ := HKS.out _ BW.out
    go_upto_region 14 with fail
    clear a0 a1 a2 a3 a4 a5 a6 a7 a8 p0 p1 p2
    go_loopw [12] (fun v12 wr => ∃ j : Nat, v12 = .int .i64 ((j + 1 : Nat) : Int) ∧ j ≤ 16 ∧ Hid (∀ i, i < j → ¬ (((D, an), domN i) ∈ l ∧ ((domN i, bn), who) ∈ l)) ∧ Hid (Below w3.heap.size w3 wr)) (fun v12 _ => 17 - (intOf v12).toNat)
    case atStart => exact ⟨0, rfl, Nat.zero_le _, hid (fun i hi => absurd hi (Nat.not_lt_zero i)), hid BW.out⟩
    case round =>
      obtain ⟨j, rfl, hj16, HNX, HBR⟩ := hrel
      by_cases hj : j < 16
      · obtain ⟨Y, hY⟩ : ∃ Y, domN j = Y := ⟨_, rfl⟩
        have HYD := hid hY
        obtain ⟨K, hK⟩ : ∃ K, j + 1 = K := ⟨_, rfl⟩
        have HKK := hid hK
        have HDO : Hid (∀ W, Calls Tryd.prog 71 #[.int .i64 (K : Int)] W fun e w' => e = .returned (.string Y) ∧ Below W.heap.size W w') := hid (fun W => by rw [← hY, ← hK]; exact refDomain_any ((j + 1 : Nat) : Int) (by omega) (by omega) W)
        rw [hK]
        have hk0 : (K : Int) ≤ 16 := by omega
        have hk1 : (1 : Int) ≤ (K : Int) := by omega
        clear hK hY
        go_upto_region 17 with (go_at_call 71; (refine (HDO.out _).mono ?_); rintro er w4a ⟨rfl, b4⟩; have HB4 := hid (HBR.out.trans (b4.mono HBR.out.size)); clear b4)
        obtain ⟨a0, a1, a2, a3, a4, a5, a6, a7, a8, p0, p1, p2⟩ := HKS.out _ HB4.out
        go_upto_region 18 with (go_at_call 53; (refine (HFI.out _).mono ?_); rintro er w5 ⟨rfl, b5⟩; have HB5 := hid (HB4.out.trans (b5.mono HB4.out.size)); clear b5)
        clear a0 a1 a2 a3 a4 a5 a6 a7 a8 p0 p1 p2
        obtain ⟨w6, hw6⟩ : ∃ x, x = w5.alloc (.cells #[.string D, .string an, .string Y] 47) := ⟨_, rfl⟩
        have HB6 : Hid (Below w3.heap.size w3 w6) := hid (by rw [hw6]; exact HB5.out.alloc HB5.out.size _)
        obtain ⟨g1, hg1⟩ : ∃ x, w5.heap.size = x := ⟨_, rfl⟩
        have HP6 : Hid (PrB w6 g1 D an Y) := hid (by rw [hw6, ← hg1]; exact PrB.new w5 _ _ _)
        rw [← hw6]
        try rw [hg1]
        clear hw6 hg1
        obtain ⟨a0, a1, a2, a3, a4, a5, a6, a7, a8, p0, p1, p2⟩ := HKS.out _ HB6.out
        go_upto_region 19 with fail
        obtain ⟨w7, hw7⟩ : ∃ x, x = w6.alloc (.cells #[.string Y, .string bn, .string who] 47) := ⟨_, rfl⟩
        obtain ⟨g2, hg2⟩ : ∃ x, w6.heap.size = x := ⟨_, rfl⟩
        rw [← hw7]
        try rw [hg2]
        have HB7 : Hid (Below w3.heap.size w3 w7) := hid (by rw [hw7]; exact HB6.out.alloc HB6.out.size _)
        have HP7 : Hid (PrB w7 g1 D an Y) := hid (by rw [hw7]; exact keep_alloc8 HP6.out)
        have HQ7 : Hid (PrB w7 g2 Y bn who) := hid (by rw [hw7, ← hg2]; exact PrB.new w6 _ _ _)
        clear hw7 hg2 a0 a1 a2 a3 a4 a5 a6 a7 a8 p0 p1 p2
        obtain ⟨T, hT⟩ : ∃ T, decide (((D, an), Y) ∈ l) = T := ⟨_, rfl⟩
        have HT := hid hT
        obtain ⟨T2, hT2⟩ : ∃ T, decide (((Y, bn), who) ∈ l) = T := ⟨_, rfl⟩
        have HT2 := hid hT2
        clear hT hT2
        have HIN := hid (in_any A l ln cap HLN.out (by have := HLM.out; omega) D an Y w7 (HEL.out w7 HB7.out))
        rw [HT.out] at HIN
        obtain ⟨p0, p1, p2⟩ := HP7.out.all
        go_upto_region 20 with (go_at_call 21; (refine HIN.out.mono ?_); rintro er w8 ⟨rfl, b8⟩; have HB8 := hid (HB7.out.trans (b8.mono HB7.out.size)); have HP8 := hid (HP7.out.kept b8); have HQ8 := hid (HQ7.out.kept b8); clear b8)
        clear p0 p1 p2
        have HIN2 := hid (in_any A l ln cap HLN.out (by have := HLM.out; omega) Y bn who w8 (HEL.out w8 HB8.out))
        rw [HT2.out] at HIN2
        obtain ⟨p0, p1, p2⟩ := HQ8.out.all
        go_upto_region 21 with (go_at_call 21; (refine HIN2.out.mono ?_); rintro er w9 ⟨rfl, b9⟩; have HB9 := hid (HB8.out.trans (b9.mono HB8.out.size)); have HP9 := hid (HP8.out.kept b9); have HQ9 := hid (HQ8.out.kept b9); clear b9)
        clear p0 p1 p2 HIN HIN2 HP7 HP8 HQ7 HQ8 HB5 HB6 HB7 HB8
        obtain ⟨p0, p1, p2⟩ := HP9.out.all
        obtain ⟨q0, q1, q2⟩ := HQ9.out.all
        have HNE : Hid (¬ (T = true ∧ T2 = true) → ∀ i, i < K → ¬ (((D, an), domN i) ∈ l ∧ ((domN i, bn), who) ∈ l)) := hid (fun hh i hi h1 => by
          rcases Nat.lt_or_ge i j with h2 | h2
          · exact HNX.out i h2 h1
          · have h3 : i = j := by have := HKK.out; omega
            rw [h3, HYD.out] at h1
            exact hh ⟨by rw [← HT.out]; exact decide_eq_true h1.1, by rw [← HT2.out]; exact decide_eq_true h1.2⟩)
        cases T with
        | false =>
          have HN2 := hid (HNE.out (by simp))
          go_wp2_with fail
          go_roundw
          case rel => exact ⟨K, by go_num, by omega, HN2, HB9⟩
          case measure => simp [intOf]; omega
        | true =>
          cases T2 with
          | false =>
            have HN2 := hid (HNE.out (by simp))
            go_wp2_with fail
            go_roundw
            case rel => exact ⟨K, by go_num, by omega, HN2, HB9⟩
            case measure => simp [intOf]; omega
          | true =>
            have HOW := hid (HY.out j hj (by rw [HYD.out]; exact of_decide_eq_true HT.out) (by rw [HYD.out]; exact of_decide_eq_true HT2.out) HNX.out)
            have HE8 := hid (els_two8 w9 D an Y Y bn who)
            have HBA := hid ((Below.refl w9.heap.size w9).alloc (Nat.le_refl _) (.cells #[.string D, .string an, .string Y, .string Y, .string bn, .string who] 47))
            go_wp2_with fail
            go_ret2
            exact ⟨.inr ⟨_, 2, _, 2, HOW.out, rfl, rfl, by rw [HYD.out]; exact HE8.out, fun ad e => by cases e; exact Nat.le_trans HQ3.out.size HB9.out.size⟩, HQ3.out.trans ((HB9.out.trans (HBA.out.mono HB9.out.size)).mono HQ3.out.size)⟩
      · obtain rfl : j = 16 := by omega
        have HOW := hid (HNO.out HNX.out)
        go_wp2_with fail
        go_ret2
        exact ⟨.inl ⟨HOW.out, _, rfl⟩, HQ3.out.trans (HBR.out.mono HQ3.out.size)⟩
theorem refWhy_any (c : Crd) (p : Pr) (hc : mayC c = true) (A : Option Addr) (l : List Pr) (ln cap : Nat) (hn : l.length = ln) (hm : ln ≤ 1000000) (w : World) (h : Els encP w w.heap.size A l) :
    Calls Tryd.prog 48 #[.agg c.cells.toArray, .agg #[.string p.1.1, .string p.1.2, .string p.2], .slice A ln cap] w fun e w' => WhyP w.heap.size w' (why c (· ∈ l) p) e ∧ Below w.heap.size w w' := by
  by_cases hr : p.1 = roleOf c
  · rcases may_kd hc with hk | hk | hk | hk
    · exact refWhy_1 c p hk hr hc A l ln cap hn hm w h
    · exact refWhy_2 c p hk hr hc A l ln cap hn hm w h
    · exact refWhy_3 c p hk hr hc A l ln cap hn hm w h
    · exact refWhy_4 c p hk hr hc A l ln cap hn hm w h
  · exact refWhy_ne c p hr hc A l ln cap hn hm w h
end Go.Proofs.YtoajckhnneagnaaDoor.Sh
