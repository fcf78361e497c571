/-
  The program's own between, local, filled, May and Role of a credential, by contract.
-/
import Derived.Test.YtkimhdcngagmaaaJa7
import Derived.Test.YtkimhdcngagmaaaJa8
import Derived.Test.YtkimhdcngagmaaaJa15
import Derived.Test.YtkimhdcngagmaaaJa10
set_option linter.unusedVariables false
set_option linter.unusedSimpArgs false
namespace Go.Proofs.Ytkimhdcngagmaaa.Sh
open Go Go.RowKit

theorem between_any (n m : Int) (w : World) : Calls Try.prog 52 #[.int .i64 n, .int .i64 m] w fun e w' => e = .returned (.bool (decide (1 ≤ n ∧ n ≤ m))) ∧ w = w' := by
  by_cases h1 : 1 ≤ n
  · by_cases h2 : n ≤ m
    · rw [decide_eq_true (show 1 ≤ n ∧ n ≤ m from ⟨h1, h2⟩)]
      go_enter Try.func52, Try.ntmps52
      go_wp2
      go_ret
      exact ⟨rfl, rfl⟩
    · rw [decide_eq_false (show ¬ (1 ≤ n ∧ n ≤ m) from fun h => h2 h.2)]
      go_enter Try.func52, Try.ntmps52
      go_wp2
      go_ret
      exact ⟨rfl, rfl⟩
  · rw [decide_eq_false (show ¬ (1 ≤ n ∧ n ≤ m) from fun h => h1 h.1)]
    go_enter Try.func52, Try.ntmps52
    go_wp2
    go_ret
    exact ⟨rfl, rfl⟩
theorem local_any (o n : ByteArray) (w : World) :
    Calls Try.prog 61 #[.agg #[.string o, .string n]] w fun e w' => e = .returned (.bool (mayB n && decide (o = E0))) ∧ Below w.heap.size w w' := by
  have HM := hid (fun w => may_any n w)
  obtain ⟨m, hm⟩ : ∃ m, mayL n.data.toList = m := ⟨_, rfl⟩
  rw [hm] at HM
  have hm' : mayB n = m := hm
  rw [hm']
  clear hm hm'
  obtain ⟨w0, hw0⟩ : ∃ w0, w0 = w.alloc (.cells #[.string o, .string n] 51) := ⟨_, rfl⟩
  have r0 : RoleAt w0 w.heap.size o n := by rw [hw0]; exact RoleAt.new w o n
  have b0 : Below w.heap.size w w0 := by rw [hw0]; exact below_box w o n
  have z0 := r0.c0
  have z1 := r0.c1
  have R0 := hid r0
  have B0 := hid b0
  clear r0 b0
  by_cases ho : o = E0
  · subst ho
    rw [show (m && decide (E0 = E0)) = m by simp]
    unfold E0 at hw0 z0 ⊢
    go_enter Try.func61, Try.ntmps61
    rw [hw0] at z0 z1
    go_wp2_with fail
    rw [← hw0] at z0 z1 ⊢
    refine (HM.out _).mono ?_
    rintro er w2 ⟨rfl, bb⟩
    have B2 := hid (B0.out.trans (bb.mono B0.out.size))
    clear bb z0 z1
    go_wp2
    go_ret
    exact ⟨rfl, B2.out⟩
  · obtain ⟨s1, s2, s3, s4⟩ := sne ho
    rw [show (m && decide (o = E0)) = false by simp [ho]]
    clear ho
    go_enter Try.func61, Try.ntmps61
    rw [hw0] at z0 z1
    go_wp2
    rw [← hw0] at z0 z1 ⊢
    go_ret
    exact ⟨rfl, B0.out⟩

/-- What filled answers where it looks at a role or a name first. -/
theorem kind_1 {d q : Int} {nm wh ao an bo bn : ByteArray} : kindOk ⟨d, q, nm, 1, wh, ao, an, bo, bn⟩ = (mayB wh && decide (ao = E0 ∧ an = E0) && decide (bo = E0 ∧ bn = E0)) := rfl
theorem kind_2 {d q : Int} {nm wh ao an bo bn : ByteArray} : kindOk ⟨d, q, nm, 2, wh, ao, an, bo, bn⟩ = (decide (wh = E0) && (roleB ao an && decide (bo = E0 ∧ bn = E0))) := rfl
theorem kind_3 {d q : Int} {nm wh ao an bo bn : ByteArray} : kindOk ⟨d, q, nm, 3, wh, ao, an, bo, bn⟩ = (decide (wh = E0) && ((mayB an && decide (ao = E0)) && (mayB bn && decide (bo = E0)))) := rfl
theorem kind_4 {d q : Int} {nm wh ao an bo bn : ByteArray} : kindOk ⟨d, q, nm, 4, wh, ao, an, bo, bn⟩ = (decide (wh = E0) && (roleB ao an && roleB bo bn)) := rfl
theorem kind_5 {d q kd : Int} {nm wh ao an bo bn : ByteArray} (h1 : kd ≠ 1) (h2 : kd ≠ 2) (h3 : kd ≠ 3) (h4 : kd ≠ 4) : kindOk ⟨d, q, nm, kd, wh, ao, an, bo, bn⟩ = false := by
  unfold kindOk
  simp only
  rw [if_neg h1, if_neg h2, if_neg h3, if_neg h4, Bool.and_false]
/-- A credential and the empty role beside it, as filled lays them. -/
structure Fl (w w1 : World) (x : Crd) : Prop where
  row : CrAt w1 w.heap.size x
  none : RoleAt w1 (w.heap.size + 1) ⟨#[]⟩ ⟨#[]⟩
  bel : Below w.heap.size w w1
theorem Fl.kept {w w1 w2 : World} {x : Crd} (h : Fl w w1 x) (b : Below w1.heap.size w1 w2) : Fl w w2 x := ⟨h.row.kept b, h.none.kept b, h.bel.trans (b.mono h.bel.size)⟩
theorem Fl.new (w : World) (x : Crd) : Fl w ((w.alloc (.cells x.cells.toArray 53)).alloc (.cells #[.string ⟨#[]⟩, .string ⟨#[]⟩] 51)) x :=
  ⟨(CrAt.new w _).kept (below_box _ _ _), by have := RoleAt.new (w.alloc (.cells x.cells.toArray 53)) ⟨#[]⟩ ⟨#[]⟩; rwa [World.size_alloc] at this, (below_cr w _).alloc (by rw [World.size_alloc]; exact Nat.le_succ _) _⟩

set_option maxHeartbeats 4000000 in
theorem filled_any (c : Crd) (w : World) :
    Calls Try.prog 54 #[.agg c.cells.toArray] w fun e w' => e = .returned (.bool (kindOk c)) ∧ Below w.heap.size w w' := by
  obtain ⟨w1, hw1⟩ : ∃ w1, w1 = (w.alloc (.cells c.cells.toArray 53)).alloc (.cells #[.string ⟨#[]⟩, .string ⟨#[]⟩] 51) := ⟨_, rfl⟩
  have HF1 := hid (hw1 ▸ Fl.new w c)
  obtain ⟨d, q, nm, kd, wh, ao, an, bo, bn⟩ := c
  have HM2 := hid (fun w => may_any wh w)
  have HM3 := hid (fun w => role_any ao an w)
  have HM4 := hid (fun w => role_any bo bn w)
  have HM5 := hid (fun w => local_any ao an w)
  have HM6 := hid (fun w => local_any bo bn w)
  have K1 := @kind_1 d q nm wh ao an bo bn
  have K2 := @kind_2 d q nm wh ao an bo bn
  have K3 := @kind_3 d q nm wh ao an bo bn
  have K4 := @kind_4 d q nm wh ao an bo bn
  unfold mayB at K1
  unfold roleB at K2 K4
  obtain ⟨b2, hb2⟩ : ∃ b, mayL wh.data.toList = b := ⟨_, rfl⟩
  obtain ⟨b3, hb3⟩ : ∃ b, roleL ao.data.toList an.data.toList = b := ⟨_, rfl⟩
  obtain ⟨b4, hb4⟩ : ∃ b, roleL bo.data.toList bn.data.toList = b := ⟨_, rfl⟩
  obtain ⟨b5, hb5⟩ : ∃ b, (mayB an && decide (ao = E0)) = b := ⟨_, rfl⟩
  obtain ⟨b6, hb6⟩ : ∃ b, (mayB bn && decide (bo = E0)) = b := ⟨_, rfl⟩
  rw [hb2] at HM2 K1
  rw [hb3] at HM3 K2 K4
  rw [hb4] at HM4 K4
  rw [hb5] at HM5 K3
  rw [hb6] at HM6 K3
  clear hb2 hb3 hb4 hb5 hb6
  have K1 := hid K1
  have K2 := hid K2
  have K3 := hid K3
  have K4 := hid K4
  unfold Crd.cells at hw1 ⊢
  simp only at hw1 ⊢
  obtain ⟨c0, c1, c2, c3, c4, c5, c6, c7, c8⟩ := HF1.out.row.all
  have z0 := HF1.out.none.c0
  have z1 := HF1.out.none.c1
  by_cases k1 : kd = 1
  · subst k1
    go_enter Try.func54, Try.ntmps54
    rw [hw1] at c0 c1 c2 c3 c4 c5 c6 c7 c8 z0 z1
    go_wp2_with fail
    rw [← hw1] at c0 c1 c2 c3 c4 c5 c6 c7 c8 z0 z1 ⊢
    clear hw1
    refine (HM2.out _).mono ?_
    rintro er w2 ⟨rfl, bb⟩
    have HF2 := hid (HF1.out.kept bb)
    clear bb c0 c1 c2 c3 c4 c5 c6 c7 c8 z0 z1
    obtain ⟨c0, c1, c2, c3, c4, c5, c6, c7, c8⟩ := HF2.out.row.all
    have z0 := HF2.out.none.c0
    have z1 := HF2.out.none.c1
    cases b2 with
    | false =>
      have HF : Hid (kindOk ⟨d, q, nm, 1, wh, ao, an, bo, bn⟩ = false) := hid (by rw [K1.out]; simp [E0])
      go_wp2
      go_ret
      exact ⟨by rw [HF.out]; rfl, HF2.out.bel⟩
    | true =>
      by_cases zao : ao = E0
      · obtain rfl : ao = ⟨#[]⟩ := zao
        by_cases zan : an = E0
        · obtain rfl : an = ⟨#[]⟩ := zan
          by_cases zbo : bo = E0
          · obtain rfl : bo = ⟨#[]⟩ := zbo
            by_cases zbn : bn = E0
            · obtain rfl : bn = ⟨#[]⟩ := zbn
              have HF : Hid (kindOk ⟨d, q, nm, 1, wh, ⟨#[]⟩, ⟨#[]⟩, ⟨#[]⟩, ⟨#[]⟩⟩ = true) := hid (by rw [K1.out]; simp [E0])
              go_wp2
              go_ret
              exact ⟨by rw [HF.out]; rfl, HF2.out.bel⟩
            · obtain ⟨s1, s2, s3, s4⟩ := sne zbn
              have HF : Hid (kindOk ⟨d, q, nm, 1, wh, ⟨#[]⟩, ⟨#[]⟩, ⟨#[]⟩, bn⟩ = false) := hid (by rw [K1.out]; simp [E0, s4])
              clear zbn
              go_wp2
              go_ret
              exact ⟨by rw [HF.out]; rfl, HF2.out.bel⟩
          · obtain ⟨s1, s2, s3, s4⟩ := sne zbo
            have HF : Hid (kindOk ⟨d, q, nm, 1, wh, ⟨#[]⟩, ⟨#[]⟩, bo, bn⟩ = false) := hid (by rw [K1.out]; simp [E0, s4])
            clear zbo
            go_wp2
            go_ret
            exact ⟨by rw [HF.out]; rfl, HF2.out.bel⟩
        · obtain ⟨s1, s2, s3, s4⟩ := sne zan
          have HF : Hid (kindOk ⟨d, q, nm, 1, wh, ⟨#[]⟩, an, bo, bn⟩ = false) := hid (by rw [K1.out]; simp [E0, s4])
          clear zan
          go_wp2
          go_ret
          exact ⟨by rw [HF.out]; rfl, HF2.out.bel⟩
      · obtain ⟨s1, s2, s3, s4⟩ := sne zao
        have HF : Hid (kindOk ⟨d, q, nm, 1, wh, ao, an, bo, bn⟩ = false) := hid (by rw [K1.out]; simp [E0, s4])
        clear zao
        go_wp2
        go_ret
        exact ⟨by rw [HF.out]; rfl, HF2.out.bel⟩
  by_cases k2 : kd = 2
  · subst k2
    clear k1
    by_cases zwh : wh = E0
    · obtain rfl : wh = ⟨#[]⟩ := zwh
      go_enter Try.func54, Try.ntmps54
      rw [hw1] at c0 c1 c2 c3 c4 c5 c6 c7 c8 z0 z1
      go_wp2_with fail
      rw [← hw1] at c0 c1 c2 c3 c4 c5 c6 c7 c8 z0 z1 ⊢
      clear hw1
      refine (HM3.out _).mono ?_
      rintro er w2 ⟨rfl, bb⟩
      have HF2 := hid (HF1.out.kept bb)
      clear bb c0 c1 c2 c3 c4 c5 c6 c7 c8 z0 z1
      obtain ⟨c0, c1, c2, c3, c4, c5, c6, c7, c8⟩ := HF2.out.row.all
      have z0 := HF2.out.none.c0
      have z1 := HF2.out.none.c1
      cases b3 with
      | false =>
        have HF : Hid (kindOk ⟨d, q, nm, 2, ⟨#[]⟩, ao, an, bo, bn⟩ = false) := hid (by rw [K2.out]; simp [E0])
        go_wp2
        go_ret
        exact ⟨by rw [HF.out]; rfl, HF2.out.bel⟩
      | true =>
        by_cases zbo : bo = E0
        · obtain rfl : bo = ⟨#[]⟩ := zbo
          by_cases zbn : bn = E0
          · obtain rfl : bn = ⟨#[]⟩ := zbn
            have HF : Hid (kindOk ⟨d, q, nm, 2, ⟨#[]⟩, ao, an, ⟨#[]⟩, ⟨#[]⟩⟩ = true) := hid (by rw [K2.out]; simp [E0])
            go_wp2
            go_ret
            exact ⟨by rw [HF.out]; rfl, HF2.out.bel⟩
          · obtain ⟨s1, s2, s3, s4⟩ := sne zbn
            have HF : Hid (kindOk ⟨d, q, nm, 2, ⟨#[]⟩, ao, an, ⟨#[]⟩, bn⟩ = false) := hid (by rw [K2.out]; simp [E0, s4])
            clear zbn
            go_wp2
            go_ret
            exact ⟨by rw [HF.out]; rfl, HF2.out.bel⟩
        · obtain ⟨s1, s2, s3, s4⟩ := sne zbo
          have HF : Hid (kindOk ⟨d, q, nm, 2, ⟨#[]⟩, ao, an, bo, bn⟩ = false) := hid (by rw [K2.out]; simp [E0, s4])
          clear zbo
          go_wp2
          go_ret
          exact ⟨by rw [HF.out]; rfl, HF2.out.bel⟩
    · obtain ⟨s1, s2, s3, s4⟩ := sne zwh
      have HF : Hid (kindOk ⟨d, q, nm, 2, wh, ao, an, bo, bn⟩ = false) := hid (by rw [K2.out]; simp [E0, s4])
      clear zwh
      go_enter Try.func54, Try.ntmps54
      rw [hw1] at c0 c1 c2 c3 c4 c5 c6 c7 c8 z0 z1
      go_wp2
      rw [← hw1]
      go_ret
      exact ⟨by rw [HF.out]; rfl, HF1.out.bel⟩
  by_cases k3 : kd = 3
  · subst k3
    clear k1 k2
    by_cases zwh : wh = E0
    · obtain rfl : wh = ⟨#[]⟩ := zwh
      go_enter Try.func54, Try.ntmps54
      rw [hw1] at c0 c1 c2 c3 c4 c5 c6 c7 c8 z0 z1
      go_wp2_with fail
      rw [← hw1] at c0 c1 c2 c3 c4 c5 c6 c7 c8 z0 z1 ⊢
      clear hw1
      refine (HM5.out _).mono ?_
      rintro er w2 ⟨rfl, bb⟩
      have HF2 := hid (HF1.out.kept bb)
      clear bb c0 c1 c2 c3 c4 c5 c6 c7 c8 z0 z1
      obtain ⟨c0, c1, c2, c3, c4, c5, c6, c7, c8⟩ := HF2.out.row.all
      have z0 := HF2.out.none.c0
      have z1 := HF2.out.none.c1
      cases b5 with
      | false =>
        have HF : Hid (kindOk ⟨d, q, nm, 3, ⟨#[]⟩, ao, an, bo, bn⟩ = false) := hid (by rw [K3.out]; simp [E0])
        go_wp2
        go_ret
        exact ⟨by rw [HF.out]; rfl, HF2.out.bel⟩
      | true =>
        go_wp2_with fail
        refine (HM6.out _).mono ?_
        rintro er w3 ⟨rfl, bb⟩
        have HF3 := hid (HF2.out.kept bb)
        clear bb c0 c1 c2 c3 c4 c5 c6 c7 c8 z0 z1
        obtain ⟨c0, c1, c2, c3, c4, c5, c6, c7, c8⟩ := HF3.out.row.all
        have z0 := HF3.out.none.c0
        have z1 := HF3.out.none.c1
        have HF : Hid (kindOk ⟨d, q, nm, 3, ⟨#[]⟩, ao, an, bo, bn⟩ = b6) := hid (by rw [K3.out]; simp [E0])
        go_wp2
        go_ret
        exact ⟨by rw [HF.out]; rfl, HF3.out.bel⟩
    · obtain ⟨s1, s2, s3, s4⟩ := sne zwh
      have HF : Hid (kindOk ⟨d, q, nm, 3, wh, ao, an, bo, bn⟩ = false) := hid (by rw [K3.out]; simp [E0, s4])
      clear zwh
      go_enter Try.func54, Try.ntmps54
      rw [hw1] at c0 c1 c2 c3 c4 c5 c6 c7 c8 z0 z1
      go_wp2
      rw [← hw1]
      go_ret
      exact ⟨by rw [HF.out]; rfl, HF1.out.bel⟩
  by_cases k4 : kd = 4
  · subst k4
    clear k1 k2 k3
    go_enter Try.func54, Try.ntmps54
    rw [hw1] at c0 c1 c2 c3 c4 c5 c6 c7 c8 z0 z1
    go_wp2_with fail
    rw [← hw1] at c0 c1 c2 c3 c4 c5 c6 c7 c8 z0 z1 ⊢
    clear hw1
    refine (HM4.out _).mono ?_
    rintro er w2 ⟨rfl, bb⟩
    have HF2 := hid (HF1.out.kept bb)
    clear bb c0 c1 c2 c3 c4 c5 c6 c7 c8 z0 z1
    obtain ⟨c0, c1, c2, c3, c4, c5, c6, c7, c8⟩ := HF2.out.row.all
    have z0 := HF2.out.none.c0
    have z1 := HF2.out.none.c1
    cases b4 with
    | false =>
      have HF : Hid (kindOk ⟨d, q, nm, 4, wh, ao, an, bo, bn⟩ = false) := hid (by rw [K4.out]; simp [E0])
      go_wp2
      go_ret
      exact ⟨by rw [HF.out]; rfl, HF2.out.bel⟩
    | true =>
      have f7 := HF2.out.row.f 7
      have f8 := HF2.out.row.f 8
      have hF3 : Fl w ((w2.setCell ⟨w.heap.size, 7, none⟩ (.string ⟨#[]⟩)).setCell ⟨w.heap.size, 8, none⟩ (.string ⟨#[]⟩)) ⟨d, q, nm, 4, wh, ao, an, ⟨#[]⟩, ⟨#[]⟩⟩ :=
        ⟨(HF2.out.row.set7 ⟨#[]⟩).set8 ⟨#[]⟩, by
          have g1 := grown_set w2 w.heap.size 7 (.string ⟨#[]⟩)
          have g2 := grown_set (w2.setCell ⟨w.heap.size, 7, none⟩ (.string ⟨#[]⟩)) w.heap.size 8 (.string ⟨#[]⟩)
          have e1 : RoleAt (w2.setCell ⟨w.heap.size, 7, none⟩ (.string ⟨#[]⟩)) (w.heap.size + 1) ⟨#[]⟩ ⟨#[]⟩ := (g1.block _ HF2.out.none.lt (fun e => by injection e with e; omega)).trans HF2.out.none
          exact (g2.block _ e1.lt (fun e => by injection e with e; omega)).trans e1, (HF2.out.bel.setCell (Nat.le_refl _) _).setCell (Nat.le_refl _) _⟩
      have HF3 := hid hF3
      clear hF3
      by_cases zwh : wh = E0
      · obtain rfl : wh = ⟨#[]⟩ := zwh
        go_wp2_with fail
        refine (HM3.out _).mono ?_
        rintro er w4 ⟨rfl, bb⟩
        have HF4 := hid (HF3.out.kept bb)
        clear bb c0 c1 c2 c3 c4 c5 c6 c7 c8 z0 z1 f7 f8
        obtain ⟨c0, c1, c2, c3, c4, c5, c6, c7, c8⟩ := HF4.out.row.all
        have z0 := HF4.out.none.c0
        have z1 := HF4.out.none.c1
        cases b3 with
        | false =>
          have HF : Hid (kindOk ⟨d, q, nm, 4, ⟨#[]⟩, ao, an, bo, bn⟩ = false) := hid (by rw [K4.out]; simp [E0])
          go_wp2
          go_ret
          exact ⟨by rw [HF.out]; rfl, HF4.out.bel⟩
        | true =>
          have HF : Hid (kindOk ⟨d, q, nm, 4, ⟨#[]⟩, ao, an, bo, bn⟩ = true) := hid (by rw [K4.out]; simp [E0])
          go_wp2
          go_ret
          exact ⟨by rw [HF.out]; rfl, HF4.out.bel⟩
      · obtain ⟨s1, s2, s3, s4⟩ := sne zwh
        have HF : Hid (kindOk ⟨d, q, nm, 4, wh, ao, an, bo, bn⟩ = false) := hid (by rw [K4.out]; simp [E0, s4])
        clear zwh
        go_wp2
        go_ret
        exact ⟨by rw [HF.out]; rfl, HF3.out.bel⟩
  · have HF : Hid (kindOk ⟨d, q, nm, kd, wh, ao, an, bo, bn⟩ = false) := hid (kind_5 k1 k2 k3 k4)
    go_enter Try.func54, Try.ntmps54
    rw [hw1] at c0 c1 c2 c3 c4 c5 c6 c7 c8 z0 z1
    go_wp2
    rw [← hw1]
    go_ret
    exact ⟨by rw [HF.out]; rfl, HF1.out.bel⟩
end Go.Proofs.Ytkimhdcngagmaaa.Sh
/-
  The program's own May, Role and Before, by contract.
-/
namespace Go.Proofs.Ytkimhdcngagmaaa.Sh
open Go Go.RowKit

theorem mayC_parts (c : Crd) : mayC c = ((decide (1 ≤ c.d ∧ c.d ≤ 16) && decide (1 ≤ c.q ∧ c.q ≤ 4000)) && mayL c.nm.data.toList && kindOk c) := by
  unfold mayC headOk mayB
  have h : decide (1 ≤ c.d ∧ c.d ≤ 16 ∧ 1 ≤ c.q ∧ c.q ≤ 4000) = (decide (1 ≤ c.d ∧ c.d ≤ 16) && decide (1 ≤ c.q ∧ c.q ≤ 4000)) := by
    rw [Bool.eq_iff_iff]; simp only [decide_eq_true_eq, Bool.and_eq_true]; omega
  rw [h]
set_option maxHeartbeats 2000000 in
theorem mayC_any (c : Crd) (w : World) : Calls Try.prog 44 #[.agg c.cells.toArray] w fun e w' => e = .returned (.bool (mayC c)) ∧ Below w.heap.size w w' := by
  have HMC := hid (mayC_parts c)
  obtain ⟨w0, hw0⟩ : ∃ w0, w0 = w.alloc (.cells c.cells.toArray 53) := ⟨_, rfl⟩
  have HR0 : Hid (CrAt w0 w.heap.size c) := hid (by rw [hw0]; exact CrAt.new w c)
  have HB0 : Hid (Below w.heap.size w w0) := hid (by rw [hw0]; exact below_cr w c)
  have HFL := hid (fun w => filled_any c w)
  obtain ⟨d, q, nm, kd, wh, ao, an, bo, bn⟩ := c
  have H1 := hid (fun w => between_any d 16 w)
  have H2 := hid (fun w => between_any q 4000 w)
  have H3 := hid (fun w => may_any nm w)
  simp only at HMC
  obtain ⟨B1, hB1⟩ : ∃ B, decide (1 ≤ d ∧ d ≤ 16) = B := ⟨_, rfl⟩
  obtain ⟨B2, hB2⟩ : ∃ B, decide (1 ≤ q ∧ q ≤ 4000) = B := ⟨_, rfl⟩
  obtain ⟨B3, hB3⟩ : ∃ B, mayL nm.data.toList = B := ⟨_, rfl⟩
  obtain ⟨B4, hB4⟩ : ∃ B, kindOk ⟨d, q, nm, kd, wh, ao, an, bo, bn⟩ = B := ⟨_, rfl⟩
  rw [hB1] at H1 HMC
  rw [hB2] at H2 HMC
  rw [hB3] at H3 HMC
  rw [hB4] at HFL HMC
  clear hB1 hB2 hB3 hB4
  unfold Crd.cells at hw0 HFL ⊢
  simp only at hw0 HFL ⊢
  obtain ⟨c0, c1, c2, c3, c4, c5, c6, c7, c8⟩ := HR0.out.all
  go_enter Try.func44, Try.ntmps44
  rw [hw0] at c0 c1 c2 c3 c4 c5 c6 c7 c8
  go_wp2_with fail
  rw [← hw0] at c0 c1 c2 c3 c4 c5 c6 c7 c8 ⊢
  clear hw0
  refine (H1.out _).mono ?_
  rintro er w1 ⟨rfl, rfl⟩
  cases B1 with
  | false =>
    have HF : Hid (mayC ⟨d, q, nm, kd, wh, ao, an, bo, bn⟩ = false) := hid (by rw [HMC.out]; simp)
    go_wp2
    go_ret
    exact ⟨by rw [HF.out]; rfl, HB0.out⟩
  | true =>
  go_wp2_with fail
  refine (H2.out _).mono ?_
  rintro er w1 ⟨rfl, rfl⟩
  cases B2 with
  | false =>
    have HF : Hid (mayC ⟨d, q, nm, kd, wh, ao, an, bo, bn⟩ = false) := hid (by rw [HMC.out]; simp)
    go_wp2
    go_ret
    exact ⟨by rw [HF.out]; rfl, HB0.out⟩
  | true =>
  go_wp2_with fail
  refine (H3.out _).mono ?_
  rintro er w1 ⟨rfl, bb⟩
  have HR1 := hid (HR0.out.kept bb)
  have HB1 := hid (HB0.out.trans (bb.mono HB0.out.size))
  clear bb c0 c1 c2 c3 c4 c5 c6 c7 c8
  obtain ⟨c0, c1, c2, c3, c4, c5, c6, c7, c8⟩ := HR1.out.all
  cases B3 with
  | false =>
    have HF : Hid (mayC ⟨d, q, nm, kd, wh, ao, an, bo, bn⟩ = false) := hid (by rw [HMC.out]; simp)
    go_wp2
    go_ret
    exact ⟨by rw [HF.out]; rfl, HB1.out⟩
  | true =>
  have HF : Hid (mayC ⟨d, q, nm, kd, wh, ao, an, bo, bn⟩ = B4) := hid (by rw [HMC.out]; simp)
  go_wp2_with fail
  refine (HFL.out _).mono ?_
  rintro er w2 ⟨rfl, bb⟩
  have HB2 := hid (HB1.out.trans (bb.mono HB1.out.size))
  clear bb c0 c1 c2 c3 c4 c5 c6 c7 c8
  go_wp2
  go_ret
  exact ⟨by rw [HF.out]; rfl, HB2.out⟩

theorem before_any (d q d' q' : Int) (w : World) : Calls Try.prog 57 #[.agg #[.int .i64 d, .int .i64 q], .agg #[.int .i64 d', .int .i64 q']] w fun er w' => er = .returned (.bool (beforeI d q d' q')) ∧ Below w.heap.size w w' := by
  by_cases h : d = d'
  · subst h
    have hb : (d == d) = true := by simp
    by_cases hq : q < q'
    · have HE : Hid (beforeI d q d q' = true) := hid (by unfold beforeI; simp; omega)
      go_enter Try.func57, Try.ntmps57
      go_wp2
      go_ret
      exact ⟨by rw [HE.out]; rfl, below_id2 _ _ _ _ _⟩
    · have HE : Hid (beforeI d q d q' = false) := hid (by unfold beforeI; simp; omega)
      go_enter Try.func57, Try.ntmps57
      go_wp2
      go_ret
      exact ⟨by rw [HE.out]; rfl, below_id2 _ _ _ _ _⟩
  · have hb : (d == d') = false := beq_eq_false_iff_ne.2 h
    by_cases hq : d < d'
    · have HE : Hid (beforeI d q d' q' = true) := hid (by unfold beforeI; simp; omega)
      go_enter Try.func57, Try.ntmps57
      go_wp2
      go_ret
      exact ⟨by rw [HE.out]; rfl, below_id2 _ _ _ _ _⟩
    · have HE : Hid (beforeI d q d' q' = false) := hid (by unfold beforeI; simp; omega)
      go_enter Try.func57, Try.ntmps57
      go_wp2
      go_ret
      exact ⟨by rw [HE.out]; rfl, below_id2 _ _ _ _ _⟩

end Go.Proofs.Ytkimhdcngagmaaa.Sh
