/-
  The document's own bare and May of a credential.
-/
import Derived.Test.YtfbapbpggicfbaaGreatDoorJz4
import Derived.Test.YtfbapbpggicfbaaGreatDoorJz6
set_option linter.unusedVariables false
set_option linter.unusedSimpArgs false
namespace Go.Proofs.YtfbapbpggicfbaaGreatDoor.Sh
open Go Go.RowKit

/-- A credential in a block of its own. -/
def CrAt (w : World) (g : Nat) (c : Crd) : Prop := w.heap[g]? = some (.cells c.cells.toArray 43 (0, 0))
theorem CrAt.new (w : World) (c : Crd) : CrAt (w.alloc (.cells c.cells.toArray 43)) w.heap.size c := heap_alloc_new w _
theorem CrAt.lt {w : World} {g : Nat} {c : Crd} (h : CrAt w g c) : g < w.heap.size := (Array.getElem?_eq_some_iff.1 h).1
theorem CrAt.kept {w w' : World} {g : Nat} {c : Crd} (h : CrAt w g c) (hb : Below w.heap.size w w') : CrAt w' g c := (hb.block g h.lt).trans h
theorem CrAt.below {w w' : World} {B g : Nat} {c : Crd} (h : CrAt w g c) (hb : Below B w w') (hg : g < B) : CrAt w' g c := (hb.block g hg).trans h
theorem CrAt.cell {w : World} {g : Nat} {c : Crd} (h : CrAt w g c) (k : Nat) (v : Value) (hk : c.cells[k]? = some v) : w.cell? ⟨g, k, none⟩ = some v := by
  rw [cell_of_row w g k _ _ (0, 0) h]
  simpa using hk
section
variable {w : World} {g : Nat} {d q kd : Int} {nm wh ao an bo bn : ByteArray}
theorem CrAt.all (h : CrAt w g ⟨d, q, nm, kd, wh, ao, an, bo, bn⟩) :
    w.cell? ⟨g, 0, none⟩ = some (.int .i64 d) ∧ w.cell? ⟨g, 1, none⟩ = some (.int .i64 q) ∧ w.cell? ⟨g, 2, none⟩ = some (.string nm) ∧ w.cell? ⟨g, 3, none⟩ = some (.int .i64 kd) ∧ w.cell? ⟨g, 4, none⟩ = some (.string wh) ∧
      w.cell? ⟨g, 5, none⟩ = some (.string ao) ∧ w.cell? ⟨g, 6, none⟩ = some (.string an) ∧ w.cell? ⟨g, 7, none⟩ = some (.string bo) ∧ w.cell? ⟨g, 8, none⟩ = some (.string bn) :=
  ⟨h.cell 0 _ rfl, h.cell 1 _ rfl, h.cell 2 _ rfl, h.cell 3 _ rfl, h.cell 4 _ rfl, h.cell 5 _ rfl, h.cell 6 _ rfl, h.cell 7 _ rfl, h.cell 8 _ rfl⟩
end
theorem below_cr (w : World) (c : Crd) : Below w.heap.size w (w.alloc (.cells c.cells.toArray 43)) := (Below.refl _ _).alloc (Nat.le_refl _) _
/-- A text that is not empty. -/
theorem sne {s : ByteArray} (h : s ≠ E0) : ¬ s.toList = [] ∧ (s.toList == []) = false ∧ s.toList.isEmpty = false ∧ ¬ s = ⟨#[]⟩ := by
  have h5 : ¬ s.toList = [] := fun e => h (ba_eq (by rw [← Lib.toList_data, e]; rfl))
  exact ⟨h5, beq_eq_false_iff_ne.2 h5, by cases hs : s.toList with | nil => exact absurd hs h5 | cons _ _ => rfl, h⟩

theorem refBare_any (o n : ByteArray) (w : World) :
    Calls Tryz.prog 75 #[.agg #[.string o, .string n]] w fun e w' => e = .returned (.bool (mayB n && decide (o = E0))) ∧ Below w.heap.size w w' := by
  have HM := hid (fun w => refMay_any n w)
  obtain ⟨m, hm⟩ : ∃ m, mayL n.data.toList = m := ⟨_, rfl⟩
  rw [hm] at HM
  have hm' : mayB n = m := hm
  rw [hm']
  clear hm hm'
  go_enter Tryz.func75, Tryz.ntmps75
  go_wp2_with fail
  refine (HM.out _).mono ?_
  rintro er w2 ⟨rfl, rfl⟩
  cases m with
  | false =>
    go_wp2
    go_ret
    exact ⟨rfl, (Below.refl _ _).alloc (Nat.le_refl _) _⟩
  | true =>
    by_cases ho : o = E0
    · subst ho
      have HE : Hid (decide (E0 = E0) = true) := hid (by simp)
      unfold E0
      go_wp2
      go_ret
      exact ⟨rfl, (Below.refl _ _).alloc (Nat.le_refl _) _⟩
    · obtain ⟨s1, s2, s3, s4⟩ := sne ho
      have HE : Hid (decide (o = E0) = false) := hid (by simp [ho])
      clear ho
      go_wp2
      go_ret
      exact ⟨by rw [HE.out]; rfl, (Below.refl _ _).alloc (Nat.le_refl _) _⟩

set_option maxHeartbeats 4000000 in
theorem refMayC_any (c : Crd) (w : World) :
    Calls Tryz.prog 60 #[.agg c.cells.toArray] w fun e w' => e = .returned (.bool (mayC c)) ∧ Below w.heap.size w w' := by
  obtain ⟨d, q, nm, kd, wh, ao, an, bo, bn⟩ := c
  have HM1 := hid (fun w => refMay_any nm w)
  have HM2 := hid (fun w => refMay_any wh w)
  have HM3 := hid (fun w => refRole_any ao an w)
  have HM4 := hid (fun w => refRole_any bo bn w)
  have HM5 := hid (fun w => refBare_any ao an w)
  have HM6 := hid (fun w => refBare_any bo bn w)
  obtain ⟨b1, hb1⟩ : ∃ b, mayL nm.data.toList = b := ⟨_, rfl⟩
  obtain ⟨b2, hb2⟩ : ∃ b, mayL wh.data.toList = b := ⟨_, rfl⟩
  obtain ⟨b3, hb3⟩ : ∃ b, roleL ao.data.toList an.data.toList = b := ⟨_, rfl⟩
  obtain ⟨b4, hb4⟩ : ∃ b, roleL bo.data.toList bn.data.toList = b := ⟨_, rfl⟩
  obtain ⟨b5, hb5⟩ : ∃ b, (mayB an && decide (ao = E0)) = b := ⟨_, rfl⟩
  obtain ⟨b6, hb6⟩ : ∃ b, (mayB bn && decide (bo = E0)) = b := ⟨_, rfl⟩
  rw [hb1] at HM1
  rw [hb2] at HM2
  rw [hb3] at HM3
  rw [hb4] at HM4
  rw [hb5] at HM5
  rw [hb6] at HM6
  have HMC : Hid (mayC ⟨d, q, nm, kd, wh, ao, an, bo, bn⟩ = ((decide (1 ≤ d ∧ d ≤ 16 ∧ 1 ≤ q ∧ q ≤ 4000) && b1) &&
      (if kd = 1 then b2 && decide (ao = E0 ∧ an = E0) && decide (bo = E0 ∧ bn = E0) else decide (wh = E0) && (if kd = 2 then b3 && decide (bo = E0 ∧ bn = E0) else if kd = 3 then b5 && b6 else if kd = 4 then b3 && b4 else false)))) := hid (by
    unfold mayC headOk kindOk mayB roleB
    simp only
    rw [hb1, hb2, hb3, hb4]
    have h5 : (mayL an.data.toList && decide (ao = E0)) = b5 := hb5
    have h6 : (mayL bn.data.toList && decide (bo = E0)) = b6 := hb6
    rw [h5, h6])
  clear hb1 hb2 hb3 hb4 hb5 hb6
  unfold Crd.cells
  go_enter Tryz.func60, Tryz.ntmps60
  obtain ⟨w0, hw0⟩ : ∃ w0, w0 = w.alloc (.cells (Crd.cells ⟨d, q, nm, kd, wh, ao, an, bo, bn⟩).toArray 43) := ⟨_, rfl⟩
  have r0 : CrAt w0 w.heap.size ⟨d, q, nm, kd, wh, ao, an, bo, bn⟩ := by rw [hw0]; exact CrAt.new w _
  have b0 : Below w.heap.size w w0 := by rw [hw0]; exact below_cr w _
  unfold Crd.cells at hw0
  simp only at hw0
  go_wp2_with fail
  rw [← hw0]
  clear hw0
  refine (HM1.out w0).mono ?_
  rintro er w1 ⟨rfl, rfl⟩
  obtain ⟨c0, c1, c2, c3, c4, c5, c6, c7, c8⟩ := r0.all
  have R0 := hid r0
  have B0 := hid b0
  clear r0 b0
  go_wp2_with fail
  refine (HM2.out _).mono ?_
  rintro er w1 ⟨rfl, rfl⟩
  go_wp2_with fail
  refine (HM3.out _).mono ?_
  rintro er w1 ⟨rfl, bb⟩
  have r1 := R0.out.kept bb
  have b1' := B0.out.trans (bb.mono B0.out.size)
  clear bb c0 c1 c2 c3 c4 c5 c6 c7 c8
  obtain ⟨c0, c1, c2, c3, c4, c5, c6, c7, c8⟩ := r1.all
  have R1 := hid r1
  have B1 := hid b1'
  clear r1 b1' R0 B0
  go_wp2_with fail
  refine (HM4.out _).mono ?_
  rintro er w2 ⟨rfl, bb⟩
  have r2 := R1.out.kept bb
  have b2' := B1.out.trans (bb.mono B1.out.size)
  clear bb c0 c1 c2 c3 c4 c5 c6 c7 c8
  obtain ⟨c0, c1, c2, c3, c4, c5, c6, c7, c8⟩ := r2.all
  have R2 := hid r2
  have B2 := hid b2'
  clear r2 b2' R1 B1
  by_cases g1 : d < 1
  · have HF : Hid (mayC ⟨d, q, nm, kd, wh, ao, an, bo, bn⟩ = false) := hid (by rw [HMC.out, decide_eq_false (by omega)]; simp)
    go_wp2
    go_ret
    exact ⟨by rw [HF.out]; rfl, B2.out⟩
  by_cases g2 : 16 < d
  · have HF : Hid (mayC ⟨d, q, nm, kd, wh, ao, an, bo, bn⟩ = false) := hid (by rw [HMC.out, decide_eq_false (by omega)]; simp)
    go_wp2
    go_ret
    exact ⟨by rw [HF.out]; rfl, B2.out⟩
  by_cases g3 : q < 1
  · have HF : Hid (mayC ⟨d, q, nm, kd, wh, ao, an, bo, bn⟩ = false) := hid (by rw [HMC.out, decide_eq_false (by omega)]; simp)
    go_wp2
    go_ret
    exact ⟨by rw [HF.out]; rfl, B2.out⟩
  by_cases g4 : 4000 < q
  · have HF : Hid (mayC ⟨d, q, nm, kd, wh, ao, an, bo, bn⟩ = false) := hid (by rw [HMC.out, decide_eq_false (by omega)]; simp)
    go_wp2
    go_ret
    exact ⟨by rw [HF.out]; rfl, B2.out⟩
  have HC2 : Hid (mayC ⟨d, q, nm, kd, wh, ao, an, bo, bn⟩ = (b1 &&
      (if kd = 1 then b2 && decide (ao = E0 ∧ an = E0) && decide (bo = E0 ∧ bn = E0) else decide (wh = E0) && (if kd = 2 then b3 && decide (bo = E0 ∧ bn = E0) else if kd = 3 then b5 && b6 else if kd = 4 then b3 && b4 else false)))) := hid (by rw [HMC.out, decide_eq_true (by omega)]; simp)
  clear HMC
  cases b1 with
  | false =>
    have HF : Hid (mayC ⟨d, q, nm, kd, wh, ao, an, bo, bn⟩ = false) := hid (by rw [HC2.out]; simp)
    go_wp2
    go_ret
    exact ⟨by rw [HF.out]; rfl, B2.out⟩
  | true =>
  have r3 : CrAt (w2.alloc (.cells #[.string ⟨#[]⟩, .string ⟨#[]⟩] 24)) w.heap.size ⟨d, q, nm, kd, wh, ao, an, bo, bn⟩ := R2.out.kept ((Below.refl _ _).alloc (Nat.le_refl _) _)
  have B3 := hid (B2.out.alloc B2.out.size (.cells #[.string ⟨#[]⟩, .string ⟨#[]⟩] 24))
  obtain ⟨e0, e1, e2, e3, e4, e5, e6, e7, e8⟩ := r3.all
  have R3 := hid r3
  clear r3 R2 B2
  by_cases k1 : kd = 1
  · subst k1
    cases b2 with
    | false =>
      have HF : Hid (mayC ⟨d, q, nm, 1, wh, ao, an, bo, bn⟩ = false) := hid (by rw [HC2.out]; simp [])
      go_wp2
      go_ret
      exact ⟨by rw [HF.out]; rfl, B3.out⟩
    | true =>
      by_cases zao : ao = E0
      · obtain rfl : ao = ⟨#[]⟩ := zao
        by_cases zan : an = E0
        · obtain rfl : an = ⟨#[]⟩ := zan
          by_cases zbo : bo = E0
          · obtain rfl : bo = ⟨#[]⟩ := zbo
            by_cases zbn : bn = E0
            · obtain rfl : bn = ⟨#[]⟩ := zbn
              have HF : Hid (mayC ⟨d, q, nm, 1, wh, ⟨#[]⟩, ⟨#[]⟩, ⟨#[]⟩, ⟨#[]⟩⟩ = true) := hid (by rw [HC2.out]; simp [E0])
              go_wp2
              go_ret
              exact ⟨by rw [HF.out]; rfl, B3.out⟩
            · obtain ⟨s1, s2, s3, s4⟩ := sne zbn
              have HF : Hid (mayC ⟨d, q, nm, 1, wh, ⟨#[]⟩, ⟨#[]⟩, ⟨#[]⟩, bn⟩ = false) := hid (by rw [HC2.out]; simp [zbn])
              go_wp2
              go_ret
              exact ⟨by rw [HF.out]; rfl, B3.out⟩
          · obtain ⟨s1, s2, s3, s4⟩ := sne zbo
            have HF : Hid (mayC ⟨d, q, nm, 1, wh, ⟨#[]⟩, ⟨#[]⟩, bo, bn⟩ = false) := hid (by rw [HC2.out]; simp [zbo])
            go_wp2
            go_ret
            exact ⟨by rw [HF.out]; rfl, B3.out⟩
        · obtain ⟨s1, s2, s3, s4⟩ := sne zan
          have HF : Hid (mayC ⟨d, q, nm, 1, wh, ⟨#[]⟩, an, bo, bn⟩ = false) := hid (by rw [HC2.out]; simp [zan])
          go_wp2
          go_ret
          exact ⟨by rw [HF.out]; rfl, B3.out⟩
      · obtain ⟨s1, s2, s3, s4⟩ := sne zao
        have HF : Hid (mayC ⟨d, q, nm, 1, wh, ao, an, bo, bn⟩ = false) := hid (by rw [HC2.out]; simp [zao])
        go_wp2
        go_ret
        exact ⟨by rw [HF.out]; rfl, B3.out⟩
  by_cases zwh : wh = E0
  · obtain rfl : wh = ⟨#[]⟩ := zwh
    by_cases k2 : kd = 2
    · subst k2
      clear k1
      cases b3 with
      | false =>
        have HF : Hid (mayC ⟨d, q, nm, 2, ⟨#[]⟩, ao, an, bo, bn⟩ = false) := hid (by rw [HC2.out]; simp [E0])
        go_wp2
        go_ret
        exact ⟨by rw [HF.out]; rfl, B3.out⟩
      | true =>
        by_cases zbo : bo = E0
        · obtain rfl : bo = ⟨#[]⟩ := zbo
          by_cases zbn : bn = E0
          · obtain rfl : bn = ⟨#[]⟩ := zbn
            have HF : Hid (mayC ⟨d, q, nm, 2, ⟨#[]⟩, ao, an, ⟨#[]⟩, ⟨#[]⟩⟩ = true) := hid (by rw [HC2.out]; simp [E0])
            go_wp2
            go_ret
            exact ⟨by rw [HF.out]; rfl, B3.out⟩
          · obtain ⟨s1, s2, s3, s4⟩ := sne zbn
            have HF : Hid (mayC ⟨d, q, nm, 2, ⟨#[]⟩, ao, an, ⟨#[]⟩, bn⟩ = false) := hid (by rw [HC2.out]; simp [zbn])
            go_wp2
            go_ret
            exact ⟨by rw [HF.out]; rfl, B3.out⟩
        · obtain ⟨s1, s2, s3, s4⟩ := sne zbo
          have HF : Hid (mayC ⟨d, q, nm, 2, ⟨#[]⟩, ao, an, bo, bn⟩ = false) := hid (by rw [HC2.out]; simp [zbo])
          go_wp2
          go_ret
          exact ⟨by rw [HF.out]; rfl, B3.out⟩
    by_cases k3 : kd = 3
    · subst k3
      clear k1 k2
      have HF : Hid (mayC ⟨d, q, nm, 3, ⟨#[]⟩, ao, an, bo, bn⟩ = (b5 && b6)) := hid (by rw [HC2.out]; simp [E0])
      go_wp2_with fail
      refine (HM5.out _).mono ?_
      rintro er w4 ⟨rfl, bb⟩
      have r4 := R3.out.kept bb
      have b4' := B3.out.trans (bb.mono B3.out.size)
      clear bb c0 c1 c2 c3 c4 c5 c6 c7 c8 e0 e1 e2 e3 e4 e5 e6 e7 e8
      obtain ⟨c0, c1, c2, c3, c4, c5, c6, c7, c8⟩ := r4.all
      have R4 := hid r4
      have B4 := hid b4'
      clear r4 b4'
      go_wp2_with fail
      refine (HM6.out _).mono ?_
      rintro er w5 ⟨rfl, bb⟩
      have b5' := B4.out.trans (bb.mono B4.out.size)
      clear bb c0 c1 c2 c3 c4 c5 c6 c7 c8
      cases b5 with
      | false =>
        go_wp2
        go_ret
        exact ⟨by rw [HF.out]; rfl, b5'⟩
      | true =>
        go_wp2
        go_ret
        exact ⟨by rw [HF.out]; rfl, b5'⟩
    by_cases k4 : kd = 4
    · subst k4
      clear k1 k2 k3
      cases b3 with
      | false =>
        have HF : Hid (mayC ⟨d, q, nm, 4, ⟨#[]⟩, ao, an, bo, bn⟩ = false) := hid (by rw [HC2.out]; simp [E0])
        go_wp2
        go_ret
        exact ⟨by rw [HF.out]; rfl, B3.out⟩
      | true =>
        have HF : Hid (mayC ⟨d, q, nm, 4, ⟨#[]⟩, ao, an, bo, bn⟩ = b4) := hid (by rw [HC2.out]; simp [E0])
        go_wp2
        go_ret
        exact ⟨by rw [HF.out]; rfl, B3.out⟩
    · have HF : Hid (mayC ⟨d, q, nm, kd, ⟨#[]⟩, ao, an, bo, bn⟩ = false) := hid (by rw [HC2.out]; simp [k1, k2, k3, k4])
      go_wp2
      go_ret
      exact ⟨by rw [HF.out]; rfl, B3.out⟩
  · obtain ⟨s1, s2, s3, s4⟩ := sne zwh
    have HF : Hid (mayC ⟨d, q, nm, kd, wh, ao, an, bo, bn⟩ = false) := hid (by rw [HC2.out]; simp [k1, zwh])
    go_wp2
    go_ret
    exact ⟨by rw [HF.out]; rfl, B3.out⟩
end Go.Proofs.YtfbapbpggicfbaaGreatDoor.Sh
/-
  The document's own Role and Text of a credential.
-/
namespace Go.Proofs.YtfbapbpggicfbaaGreatDoor.Sh
open Go Go.RowKit

theorem RoleAt.f {w : World} {g : Nat} {o n : ByteArray} (h : RoleAt w g o n) (k : Nat) : w.frozen? ⟨g, k, none⟩ = false := frozen_of_row w g k _ _ h
set_option maxHeartbeats 2000000 in
theorem refRoleC_any (c : Crd) (h0 : -9223372036854775808 ≤ c.d) (h1 : c.d < 9223372036854775808) (w : World) :
    Calls Tryz.prog 77 #[.agg c.cells.toArray] w fun e w' => e = .returned (.agg #[.string (domB c.d), .string c.nm]) ∧ Below w.heap.size w w' := by
  obtain ⟨d, q, nm, kd, wh, ao, an, bo, bn⟩ := c
  simp only at h0 h1 ⊢
  obtain ⟨D, hD⟩ : ∃ D, domB d = D := ⟨_, rfl⟩
  have HD0 : Hid (∀ w, Calls Tryz.prog 93 #[.int .i64 d] w fun e w' => e = .returned (.string D) ∧ Below w.heap.size w w') := hid (fun w => by rw [← hD]; exact refDomain_any d h0 h1 w)
  rw [hD]
  clear hD
  obtain ⟨w1, hw1⟩ : ∃ w1, w1 = (w.alloc (.cells (Crd.cells ⟨d, q, nm, kd, wh, ao, an, bo, bn⟩).toArray 43)).alloc (.cells #[.string ⟨#[]⟩, .string ⟨#[]⟩] 24) := ⟨_, rfl⟩
  have r1 : CrAt w1 w.heap.size ⟨d, q, nm, kd, wh, ao, an, bo, bn⟩ := by rw [hw1]; exact (CrAt.new w _).kept (below_box _ _ _)
  have s1 : RoleAt w1 (w.heap.size + 1) ⟨#[]⟩ ⟨#[]⟩ := by rw [hw1]; have := RoleAt.new (w.alloc (.cells (Crd.cells ⟨d, q, nm, kd, wh, ao, an, bo, bn⟩).toArray 43)) ⟨#[]⟩ ⟨#[]⟩; rwa [World.size_alloc] at this
  have b1 : Below w.heap.size w w1 := by rw [hw1]; exact (below_cr w _).alloc (by rw [World.size_alloc]; exact Nat.le_succ _) _
  unfold Crd.cells at hw1 ⊢
  simp only at hw1 ⊢
  go_enter Tryz.func77, Tryz.ntmps77
  go_wp2_with fail
  rw [← hw1]
  clear hw1
  have HK := hid (fun W (hW : Below w1.heap.size w1 W) => (⟨(r1.kept hW).cell 0 _ rfl, (r1.kept hW).cell 2 _ rfl, (s1.kept hW).c0, (s1.kept hW).c1, (s1.kept hW).f 0, (s1.kept hW).f 1⟩ :
    W.cell? ⟨w.heap.size, 0, none⟩ = some (.int .i64 d) ∧ W.cell? ⟨w.heap.size, 2, none⟩ = some (.string nm) ∧ W.cell? ⟨w.heap.size + 1, 0, none⟩ = some (.string ⟨#[]⟩) ∧ W.cell? ⟨w.heap.size + 1, 1, none⟩ = some (.string ⟨#[]⟩) ∧ W.frozen? ⟨w.heap.size + 1, 0, none⟩ = false ∧ W.frozen? ⟨w.heap.size + 1, 1, none⟩ = false))
  have HS := hid (fun W (hW : Below w1.heap.size w1 W) => s1.kept hW)
  have HD := hid (Below.refl w1.heap.size w1).drew
  have H0 := hid b1
  clear r1 s1 b1
  obtain ⟨k1, k2, k3, k4, k5, k6⟩ := HK.out _ (Below.refl _ _)
  go_region_with ((go_at_call 93; (refine (HD0.out _).mono ?_); rintro er w5 ⟨rfl, bb⟩; have B1 := hid (kept_trans HD.out HD.out.size bb); (obtain ⟨j1, j2, j3, j4, j5, j6⟩ := HK.out _ B1.out); clear bb))
  all_goals
    go_wp2
    refine bodyPost_ret (results_mid (h := Tryz.results77) _ _ (w.heap.size + 1) 0 [.string D, .string nm] _ rfl (range_row (pair_set (HS.out _ B1.out))) Tryz.underlying24 rfl info_role) rfl
      ⟨rfl, ((H0.out.trans (B1.out.mono H0.out.size)).setCell (Nat.le_succ _) _).setCell (Nat.le_succ _) _⟩

theorem domB_size (d : Int) : (domB d).size ≤ 3 := by
  rw [← size_list]
  show (domL d).length ≤ 3
  unfold domL
  split
  · simp
  · split <;> simp
theorem role_sizes {o n : ByteArray} (h : roleL o.data.toList n.data.toList = true) : o.size ≤ 3 ∧ n.size ≤ 8 := by
  unfold roleL at h
  simp only [Bool.and_eq_true, decide_eq_true_eq] at h
  refine ⟨?_, mayL_size h.1⟩
  have e := size_list o
  rw [← (domL_numL _ h.2).1] at e
  rw [← e]
  have := domB_size (numL o.data.toList : Int)
  rw [← size_list] at this
  exact this
theorem e0_size : E0.size = 0 := rfl
theorem may_sizes {c : Crd} (h : mayC c = true) : c.nm.size ≤ 8 ∧ c.wh.size ≤ 8 ∧ c.ao.size ≤ 3 ∧ c.an.size ≤ 8 ∧ c.bo.size ≤ 3 ∧ c.bn.size ≤ 8 := by
  obtain ⟨_, _, _, _, h5⟩ := may_head h
  refine ⟨mayL_size h5, ?_⟩
  rcases may_kind h with ⟨_, m, a, b, c, d⟩ | ⟨_, a, m, c, d⟩ | ⟨_, a, b, m, d, m2⟩ | ⟨_, a, m, m2⟩
  · rw [a, b, c, d, e0_size]; exact ⟨mayL_size m, by omega, by omega, by omega, by omega⟩
  · rw [a, c, d, e0_size]; exact ⟨by omega, (role_sizes m).1, (role_sizes m).2, by omega, by omega⟩
  · rw [a, b, d, e0_size]; exact ⟨by omega, by omega, mayL_size m, by omega, mayL_size m2⟩
  · rw [a, e0_size]; exact ⟨by omega, (role_sizes m).1, (role_sizes m).2, (role_sizes m2).1, (role_sizes m2).2⟩
end Go.Proofs.YtfbapbpggicfbaaGreatDoor.Sh
/-
  The document's own name, ReadRole and Read of a credential.
-/
namespace Go.Proofs.YtfbapbpggicfbaaGreatDoor.Sh
open Go Go.RowKit

theorem grown_set (w : World) (g k : Nat) (u : Value) : w.grownBy (w.setCell ⟨g, k, none⟩ u) (some g) :=
  ⟨rfl, rfl, rfl, by simp, fun i _ hne => Below.heap_setCell w ⟨g, k, none⟩ u i (fun e => hne (by rw [e]))⟩

/-- A store into a block that is new since a. -/
theorem gro_new {a w w' : World} {g b : Nat} (h : a.grownBy w (some g)) (hg : w.grownBy w' (some b)) (hb : a.heap.size ≤ b) : a.grownBy w' (some g) :=
  ⟨hg.os.trans h.os, hg.tape.trans h.tape, hg.output.trans h.output, Nat.le_trans h.size hg.size, fun k hk hne =>
    (hg.block k (Nat.lt_of_lt_of_le hk h.size) (fun e => by injection e with e; omega)).trans (h.block k hk hne)⟩
theorem gro_trans {a b c : World} {row : Option Nat} (h : a.grownBy b row) (k : b.grownBy c row) : a.grownBy c row :=
  ⟨k.os.trans h.os, k.tape.trans h.tape, k.output.trans h.output, Nat.le_trans h.size k.size, fun i hi hne => (k.block i (Nat.lt_of_lt_of_le hi h.size) hne).trans (h.block i hi hne)⟩
theorem gro_below {a w w' : World} {row : Option Nat} (h : a.grownBy w row) (hb : Below w.heap.size w w') : a.grownBy w' row :=
  ⟨hb.os.trans h.os, hb.tape.trans h.tape, hb.output.trans h.output, Nat.le_trans h.size hb.size, fun i hi hne => (hb.block i (Nat.lt_of_lt_of_le hi h.size)).trans (h.block i hi hne)⟩
theorem gro_alloc {a w : World} {row : Option Nat} (h : a.grownBy w row) (o : Obj) : a.grownBy (w.alloc o) row := gro_below h ((Below.refl _ _).alloc (Nat.le_refl _) _)
theorem gro_refl (w : World) (row : Option Nat) : w.grownBy w row := ⟨rfl, rfl, rfl, Nat.le_refl _, fun _ _ _ => rfl⟩

theorem CrAt.grown {w w' : World} {X : Nat} {r : Option Nat} {x : Crd} (h : CrAt w X x) (hg : w.grownBy w' r) (hne : r ≠ some X) : CrAt w' X x := (hg.block X h.lt (fun e => hne e.symm)).trans h
section
variable {T : TypeId} {w0 w w' : World} {lo hi g n c p p' : Nat} {A : Option Addr} {l : List UInt8} {e e' : Int} {X R : Nat} {x : Crd} {er : Ending} {v : Value}
end
section
variable {w : World} {X : Nat} {d q kd : Int} {nm wh ao an bo bn : ByteArray}
theorem CrAt.set0 (h : CrAt w X ⟨d, q, nm, kd, wh, ao, an, bo, bn⟩) (v : Int) : CrAt (w.setCell ⟨X, 0, none⟩ (.int .i64 v)) X ⟨v, q, nm, kd, wh, ao, an, bo, bn⟩ := heap_setCell_same w X 0 _ _ _ h
theorem CrAt.set1 (h : CrAt w X ⟨d, q, nm, kd, wh, ao, an, bo, bn⟩) (v : Int) : CrAt (w.setCell ⟨X, 1, none⟩ (.int .i64 v)) X ⟨d, v, nm, kd, wh, ao, an, bo, bn⟩ := heap_setCell_same w X 1 _ _ _ h
theorem CrAt.set2 (h : CrAt w X ⟨d, q, nm, kd, wh, ao, an, bo, bn⟩) (v : ByteArray) : CrAt (w.setCell ⟨X, 2, none⟩ (.string v)) X ⟨d, q, v, kd, wh, ao, an, bo, bn⟩ := heap_setCell_same w X 2 _ _ _ h
theorem CrAt.set3 (h : CrAt w X ⟨d, q, nm, kd, wh, ao, an, bo, bn⟩) (v : Int) : CrAt (w.setCell ⟨X, 3, none⟩ (.int .i64 v)) X ⟨d, q, nm, v, wh, ao, an, bo, bn⟩ := heap_setCell_same w X 3 _ _ _ h
theorem CrAt.set4 (h : CrAt w X ⟨d, q, nm, kd, wh, ao, an, bo, bn⟩) (v : ByteArray) : CrAt (w.setCell ⟨X, 4, none⟩ (.string v)) X ⟨d, q, nm, kd, v, ao, an, bo, bn⟩ := heap_setCell_same w X 4 _ _ _ h
theorem CrAt.set5 (h : CrAt w X ⟨d, q, nm, kd, wh, ao, an, bo, bn⟩) (v : ByteArray) : CrAt (w.setCell ⟨X, 5, none⟩ (.string v)) X ⟨d, q, nm, kd, wh, v, an, bo, bn⟩ := heap_setCell_same w X 5 _ _ _ h
theorem CrAt.set6 (h : CrAt w X ⟨d, q, nm, kd, wh, ao, an, bo, bn⟩) (v : ByteArray) : CrAt (w.setCell ⟨X, 6, none⟩ (.string v)) X ⟨d, q, nm, kd, wh, ao, v, bo, bn⟩ := heap_setCell_same w X 6 _ _ _ h
theorem CrAt.set7 (h : CrAt w X ⟨d, q, nm, kd, wh, ao, an, bo, bn⟩) (v : ByteArray) : CrAt (w.setCell ⟨X, 7, none⟩ (.string v)) X ⟨d, q, nm, kd, wh, ao, an, v, bn⟩ := heap_setCell_same w X 7 _ _ _ h
theorem CrAt.set8 (h : CrAt w X ⟨d, q, nm, kd, wh, ao, an, bo, bn⟩) (v : ByteArray) : CrAt (w.setCell ⟨X, 8, none⟩ (.string v)) X ⟨d, q, nm, kd, wh, ao, an, bo, v⟩ := heap_setCell_same w X 8 _ _ _ h
theorem CrAt.f (h : CrAt w X ⟨d, q, nm, kd, wh, ao, an, bo, bn⟩) (k : Nat) : w.frozen? ⟨X, k, none⟩ = false := frozen_of_row w X k _ _ h
end

end Go.Proofs.YtfbapbpggicfbaaGreatDoor.Sh
/-
  The document's own Read of a credential.
-/
namespace Go.Proofs.YtfbapbpggicfbaaGreatDoor.Sh
open Go Go.RowKit

theorem info_cred : (Tryz.prog.info? 43).map (·.size) = some 9 := by kernel_rfl
/-- Nine cells behind a store of all of them. -/
theorem nine_set {w : World} {g : Nat} {u0 u1 u2 u3 u4 u5 u6 u7 u8 v0 v1 v2 v3 v4 v5 v6 v7 v8 : Value} {t : TypeId} (h : w.heap[g]? = some (.cells #[u0, u1, u2, u3, u4, u5, u6, u7, u8] t (0, 0))) :
    (((((((((w.setCell ⟨g, 0, none⟩ v0).setCell ⟨g, 1, none⟩ v1).setCell ⟨g, 2, none⟩ v2).setCell ⟨g, 3, none⟩ v3).setCell ⟨g, 4, none⟩ v4).setCell ⟨g, 5, none⟩ v5).setCell ⟨g, 6, none⟩ v6).setCell ⟨g, 7, none⟩ v7).setCell ⟨g, 8, none⟩ v8).heap[g]? = some (.cells #[v0, v1, v2, v3, v4, v5, v6, v7, v8] t (0, 0)) := by
  have h0 : (w.setCell ⟨g, 0, none⟩ v0).heap[g]? = some (.cells #[v0, u1, u2, u3, u4, u5, u6, u7, u8] t (0, 0)) := heap_setCell_same w g 0 _ _ v0 h
  have h1 : ((w.setCell ⟨g, 0, none⟩ v0).setCell ⟨g, 1, none⟩ v1).heap[g]? = some (.cells #[v0, v1, u2, u3, u4, u5, u6, u7, u8] t (0, 0)) := heap_setCell_same (w.setCell ⟨g, 0, none⟩ v0) g 1 _ _ v1 h0
  have h2 : (((w.setCell ⟨g, 0, none⟩ v0).setCell ⟨g, 1, none⟩ v1).setCell ⟨g, 2, none⟩ v2).heap[g]? = some (.cells #[v0, v1, v2, u3, u4, u5, u6, u7, u8] t (0, 0)) := heap_setCell_same ((w.setCell ⟨g, 0, none⟩ v0).setCell ⟨g, 1, none⟩ v1) g 2 _ _ v2 h1
  have h3 : ((((w.setCell ⟨g, 0, none⟩ v0).setCell ⟨g, 1, none⟩ v1).setCell ⟨g, 2, none⟩ v2).setCell ⟨g, 3, none⟩ v3).heap[g]? = some (.cells #[v0, v1, v2, v3, u4, u5, u6, u7, u8] t (0, 0)) := heap_setCell_same (((w.setCell ⟨g, 0, none⟩ v0).setCell ⟨g, 1, none⟩ v1).setCell ⟨g, 2, none⟩ v2) g 3 _ _ v3 h2
  have h4 : (((((w.setCell ⟨g, 0, none⟩ v0).setCell ⟨g, 1, none⟩ v1).setCell ⟨g, 2, none⟩ v2).setCell ⟨g, 3, none⟩ v3).setCell ⟨g, 4, none⟩ v4).heap[g]? = some (.cells #[v0, v1, v2, v3, v4, u5, u6, u7, u8] t (0, 0)) := heap_setCell_same ((((w.setCell ⟨g, 0, none⟩ v0).setCell ⟨g, 1, none⟩ v1).setCell ⟨g, 2, none⟩ v2).setCell ⟨g, 3, none⟩ v3) g 4 _ _ v4 h3
  have h5 : ((((((w.setCell ⟨g, 0, none⟩ v0).setCell ⟨g, 1, none⟩ v1).setCell ⟨g, 2, none⟩ v2).setCell ⟨g, 3, none⟩ v3).setCell ⟨g, 4, none⟩ v4).setCell ⟨g, 5, none⟩ v5).heap[g]? = some (.cells #[v0, v1, v2, v3, v4, v5, u6, u7, u8] t (0, 0)) := heap_setCell_same (((((w.setCell ⟨g, 0, none⟩ v0).setCell ⟨g, 1, none⟩ v1).setCell ⟨g, 2, none⟩ v2).setCell ⟨g, 3, none⟩ v3).setCell ⟨g, 4, none⟩ v4) g 5 _ _ v5 h4
  have h6 : (((((((w.setCell ⟨g, 0, none⟩ v0).setCell ⟨g, 1, none⟩ v1).setCell ⟨g, 2, none⟩ v2).setCell ⟨g, 3, none⟩ v3).setCell ⟨g, 4, none⟩ v4).setCell ⟨g, 5, none⟩ v5).setCell ⟨g, 6, none⟩ v6).heap[g]? = some (.cells #[v0, v1, v2, v3, v4, v5, v6, u7, u8] t (0, 0)) := heap_setCell_same ((((((w.setCell ⟨g, 0, none⟩ v0).setCell ⟨g, 1, none⟩ v1).setCell ⟨g, 2, none⟩ v2).setCell ⟨g, 3, none⟩ v3).setCell ⟨g, 4, none⟩ v4).setCell ⟨g, 5, none⟩ v5) g 6 _ _ v6 h5
  have h7 : ((((((((w.setCell ⟨g, 0, none⟩ v0).setCell ⟨g, 1, none⟩ v1).setCell ⟨g, 2, none⟩ v2).setCell ⟨g, 3, none⟩ v3).setCell ⟨g, 4, none⟩ v4).setCell ⟨g, 5, none⟩ v5).setCell ⟨g, 6, none⟩ v6).setCell ⟨g, 7, none⟩ v7).heap[g]? = some (.cells #[v0, v1, v2, v3, v4, v5, v6, v7, u8] t (0, 0)) := heap_setCell_same (((((((w.setCell ⟨g, 0, none⟩ v0).setCell ⟨g, 1, none⟩ v1).setCell ⟨g, 2, none⟩ v2).setCell ⟨g, 3, none⟩ v3).setCell ⟨g, 4, none⟩ v4).setCell ⟨g, 5, none⟩ v5).setCell ⟨g, 6, none⟩ v6) g 7 _ _ v7 h6
  have h8 : (((((((((w.setCell ⟨g, 0, none⟩ v0).setCell ⟨g, 1, none⟩ v1).setCell ⟨g, 2, none⟩ v2).setCell ⟨g, 3, none⟩ v3).setCell ⟨g, 4, none⟩ v4).setCell ⟨g, 5, none⟩ v5).setCell ⟨g, 6, none⟩ v6).setCell ⟨g, 7, none⟩ v7).setCell ⟨g, 8, none⟩ v8).heap[g]? = some (.cells #[v0, v1, v2, v3, v4, v5, v6, v7, v8] t (0, 0)) := heap_setCell_same ((((((((w.setCell ⟨g, 0, none⟩ v0).setCell ⟨g, 1, none⟩ v1).setCell ⟨g, 2, none⟩ v2).setCell ⟨g, 3, none⟩ v3).setCell ⟨g, 4, none⟩ v4).setCell ⟨g, 5, none⟩ v5).setCell ⟨g, 6, none⟩ v6).setCell ⟨g, 7, none⟩ v7) g 8 _ _ v8 h7
  exact h8
section
variable {T : TypeId} {w0 w : World} {lo hi g n c p : Nat} {A : Option Addr} {l : List UInt8} {e : Int} {X R : Nat} {x : Crd}
end

end Go.Proofs.YtfbapbpggicfbaaGreatDoor.Sh
