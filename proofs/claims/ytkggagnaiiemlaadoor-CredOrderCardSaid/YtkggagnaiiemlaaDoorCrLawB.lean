/-
  The walks of CredTexts and CredOrder.
-/
import Derived.Test.YtkggagnaiiemlaaDoorCrLawA
namespace Go.Proofs.YtkggagnaiiemlaaDoor.Sh
open Go Go.RowKit

theorem slne {a b : ByteArray} (h : a ≠ b) : ¬ a.toList = b.toList ∧ (a.toList == b.toList) = false := by
  have h5 : ¬ a.toList = b.toList := fun e => h (ba_eq (by rw [← Lib.toList_data, ← Lib.toList_data, e]))
  exact ⟨h5, beq_eq_false_iff_ne.2 h5⟩
theorem textEnd_yes {c : Crd} (h : mayC c = true) : textEnd c = .returned (.tuple #[.string (textC c), .int .i64 0]) := by unfold textEnd; rw [if_pos h]
theorem textEnd_no {c : Crd} (h : mayC c = false) : textEnd c = .returned (.tuple #[.string E0, .int .i64 11]) := by unfold textEnd; rw [if_neg (by simp [h])]
theorem textC_seq (d q q2 : Int) (nm : ByteArray) (kd : Int) (wh ao an bo bn : ByteArray) : textC ⟨d, q, nm, kd, wh, ao, an, bo, bn⟩ = textC ⟨d, q2, nm, kd, wh, ao, an, bo, bn⟩ := rfl

set_option maxHeartbeats 8000000 in
theorem credTexts_walk (a b : Crd) (w : World) :
    Calls Tryd.prog 7 #[.agg a.cells.toArray, .agg b.cells.toArray] w fun e w' => e = .returned (.bool true) ∧ Below w.heap.size w w' := by
  obtain ⟨w0, hw0⟩ : ∃ w0, w0 = (w.alloc (.cells a.cells.toArray 27)).alloc (.cells b.cells.toArray 27) := ⟨_, rfl⟩
  have r0 : CrAt w0 w.heap.size a := by rw [hw0]; exact (CrAt.new w a).kept (below_cr _ _)
  have s0 : CrAt w0 (w.heap.size + 1) b := by rw [hw0]; have := CrAt.new (w.alloc (.cells a.cells.toArray 27)) b; rwa [World.size_alloc] at this
  have b0 : Below w.heap.size w w0 := by rw [hw0]; exact (below_cr w a).trans ((below_cr _ _).mono (by rw [World.size_alloc]; exact Nat.le_succ _))
  cases ha : mayC a with
  | false =>
    have TA := hid (fun w => textEnd_no ha ▸ textC_any a w)
    obtain ⟨S, E, hse⟩ := textEnd_two b
    have TB := hid (fun w => hse ▸ textC_any b w)
    clear ha hse
    obtain ⟨d, q, nm, kd, wh, ao, an, bo, bn⟩ := a
    obtain ⟨d', q', nm', kd', wh', ao', an', bo', bn'⟩ := b
    unfold Crd.cells at hw0 TA TB ⊢
    simp only at hw0 TA TB ⊢
    go_enter Tryd.func7, Tryd.ntmps7
    obtain ⟨c0, c1, c2, c3, c4, c5, c6, c7, c8⟩ := r0.all
    rw [hw0] at c0 c1 c2 c3 c4 c5 c6 c7 c8
    go_wp2_with fail
    rw [← hw0] at c0 c1 c2 c3 c4 c5 c6 c7 c8 ⊢
    clear hw0
    refine (TA.out w0).mono ?_
    rintro er w1 ⟨rfl, bb⟩
    have s1 := s0.kept bb
    have b1 := b0.trans (bb.mono b0.size)
    clear bb c0 c1 c2 c3 c4 c5 c6 c7 c8 r0 b0 s0
    obtain ⟨c0, c1, c2, c3, c4, c5, c6, c7, c8⟩ := s1.all
    go_wp2_with fail
    refine (TB.out w1).mono ?_
    rintro er w2 ⟨rfl, bb⟩
    have b2 := b1.trans (bb.mono b1.size)
    clear bb c0 c1 c2 c3 c4 c5 c6 c7 c8 s1 b1
    go_wp2_with fail
    refine (lives_any w2).mono ?_
    rintro er w3 ⟨rfl, bb⟩
    go_wp2
    go_ret
    exact ⟨rfl, b2.trans (bb.mono b2.size)⟩
  | true =>
    cases hb : mayC b with
    | false =>
      have TA := hid (fun w => textEnd_yes ha ▸ textC_any a w)
      have TB := hid (fun w => textEnd_no hb ▸ textC_any b w)
      obtain ⟨S, hS⟩ : ∃ S, textC a = S := ⟨_, rfl⟩
      rw [hS] at TA
      clear ha hb hS
      obtain ⟨d, q, nm, kd, wh, ao, an, bo, bn⟩ := a
      obtain ⟨d', q', nm', kd', wh', ao', an', bo', bn'⟩ := b
      unfold Crd.cells at hw0 TA TB ⊢
      simp only at hw0 TA TB ⊢
      go_enter Tryd.func7, Tryd.ntmps7
      obtain ⟨c0, c1, c2, c3, c4, c5, c6, c7, c8⟩ := r0.all
      rw [hw0] at c0 c1 c2 c3 c4 c5 c6 c7 c8
      go_wp2_with fail
      rw [← hw0] at c0 c1 c2 c3 c4 c5 c6 c7 c8 ⊢
      clear hw0
      refine (TA.out w0).mono ?_
      rintro er w1 ⟨rfl, bb⟩
      have s1 := s0.kept bb
      have b1 := b0.trans (bb.mono b0.size)
      clear bb c0 c1 c2 c3 c4 c5 c6 c7 c8 r0 b0 s0
      obtain ⟨c0, c1, c2, c3, c4, c5, c6, c7, c8⟩ := s1.all
      go_wp2_with fail
      refine (TB.out w1).mono ?_
      rintro er w2 ⟨rfl, bb⟩
      have b2 := b1.trans (bb.mono b1.size)
      clear bb c0 c1 c2 c3 c4 c5 c6 c7 c8 s1 b1
      go_wp2_with fail
      refine (lives_any w2).mono ?_
      rintro er w3 ⟨rfl, bb⟩
      go_wp2
      go_ret
      exact ⟨rfl, b2.trans (bb.mono b2.size)⟩
    | true =>
      have TA := hid (fun w => textEnd_yes ha ▸ textC_any a w)
      have TB := hid (fun w => textEnd_yes hb ▸ textC_any b w)
      obtain ⟨S, hS⟩ : ∃ S, textC a = S := ⟨_, rfl⟩
      obtain ⟨U, hU⟩ : ∃ U, textC b = U := ⟨_, rfl⟩
      rw [hS] at TA
      rw [hU] at TB
      have HEQ : Hid (S = U → { a with q := b.q } = b) := hid (fun e => textC_inj ha hb (by rw [hS, hU, e]))
      have HNE : Hid ({ a with q := b.q } = b → S = U) := hid (fun e => by rw [← hS, ← hU, ← e]; rfl)
      clear ha hb hS hU
      obtain ⟨d, q, nm, kd, wh, ao, an, bo, bn⟩ := a
      obtain ⟨d', q', nm', kd', wh', ao', an', bo', bn'⟩ := b
      unfold Crd.cells at hw0 TA TB ⊢
      simp only at hw0 TA TB HEQ HNE ⊢
      go_enter Tryd.func7, Tryd.ntmps7
      obtain ⟨c0, c1, c2, c3, c4, c5, c6, c7, c8⟩ := r0.all
      rw [hw0] at c0 c1 c2 c3 c4 c5 c6 c7 c8
      go_wp2_with fail
      rw [← hw0] at c0 c1 c2 c3 c4 c5 c6 c7 c8 ⊢
      clear hw0
      refine (TA.out w0).mono ?_
      rintro er w1 ⟨rfl, bb⟩
      have r1 := r0.kept bb
      have s1 := s0.kept bb
      have b1 := b0.trans (bb.mono b0.size)
      clear bb c0 c1 c2 c3 c4 c5 c6 c7 c8 r0 b0 s0
      obtain ⟨c0, c1, c2, c3, c4, c5, c6, c7, c8⟩ := s1.all
      go_wp2_with fail
      refine (TB.out w1).mono ?_
      rintro er w2 ⟨rfl, bb⟩
      have r2 := r1.kept bb
      have s2 := s1.kept bb
      have b2 := b1.trans (bb.mono b1.size)
      clear bb c0 c1 c2 c3 c4 c5 c6 c7 c8 s1 b1 r1
      have e1 := s2.cell 1 _ rfl
      have e2 := r2.cell 1 _ rfl
      have f2 := r2.f 1
      have r3 := r2.set1 q'
      have s3 := s2.grown (grown_set w2 w.heap.size 1 (.int .i64 q')) (by intro e; injection e with e; omega)
      have HB : Hid (Below w.heap.size w (w2.setCell ⟨w.heap.size, 1, none⟩ (.int .i64 q'))) := hid (b2.setCell (Nat.le_refl _) _)
      clear r2 s2 b2
      obtain ⟨c0, c1, c2, c3, c4, c5, c6, c7, c8⟩ := r3.all
      obtain ⟨k0, k1, k2, k3, k4, k5, k6, k7, k8⟩ := s3.all
      clear r3 s3
      by_cases hSU : S = U
      · have he := HEQ.out hSU
        simp only [Crd.mk.injEq] at he
        obtain ⟨rfl, -, rfl, rfl, rfl, rfl, rfl, rfl, rfl⟩ := he
        subst hSU
        clear HEQ HNE
        go_wp2_with fail
        refine (lives_any _).mono ?_
        rintro er w3 ⟨rfl, bb⟩
        go_wp2
        go_ret
        exact ⟨rfl, HB.out.trans (bb.mono HB.out.size)⟩
      · obtain ⟨u1, u2⟩ := slne hSU
        have HX : Hid (¬ (d = d' ∧ nm = nm' ∧ kd = kd' ∧ wh = wh' ∧ ao = ao' ∧ an = an' ∧ bo = bo' ∧ bn = bn')) := hid (fun ⟨h1, h2, h3, h4, h5, h6, h7, h8⟩ => hSU (HNE.out (by rw [h1, h2, h3, h4, h5, h6, h7, h8])))
        clear HEQ HNE hSU
        by_cases xd : d = d'
        rotate_left
        · have v1 : (d == d') = false := beq_eq_false_iff_ne.2 xd
          go_wp2_with fail
          refine (lives_any _).mono ?_
          rintro er w3 ⟨rfl, bb⟩
          go_wp2
          go_ret
          exact ⟨rfl, HB.out.trans (bb.mono HB.out.size)⟩
        subst xd
        by_cases xnm : nm = nm'
        rotate_left
        · obtain ⟨v1, v2⟩ := slne xnm
          go_wp2_with fail
          refine (lives_any _).mono ?_
          rintro er w3 ⟨rfl, bb⟩
          go_wp2
          go_ret
          exact ⟨rfl, HB.out.trans (bb.mono HB.out.size)⟩
        subst xnm
        by_cases xkd : kd = kd'
        rotate_left
        · have v1 : (kd == kd') = false := beq_eq_false_iff_ne.2 xkd
          go_wp2_with fail
          refine (lives_any _).mono ?_
          rintro er w3 ⟨rfl, bb⟩
          go_wp2
          go_ret
          exact ⟨rfl, HB.out.trans (bb.mono HB.out.size)⟩
        subst xkd
        by_cases xwh : wh = wh'
        rotate_left
        · obtain ⟨v1, v2⟩ := slne xwh
          go_wp2_with fail
          refine (lives_any _).mono ?_
          rintro er w3 ⟨rfl, bb⟩
          go_wp2
          go_ret
          exact ⟨rfl, HB.out.trans (bb.mono HB.out.size)⟩
        subst xwh
        by_cases xao : ao = ao'
        rotate_left
        · obtain ⟨v1, v2⟩ := slne xao
          go_wp2_with fail
          refine (lives_any _).mono ?_
          rintro er w3 ⟨rfl, bb⟩
          go_wp2
          go_ret
          exact ⟨rfl, HB.out.trans (bb.mono HB.out.size)⟩
        subst xao
        by_cases xan : an = an'
        rotate_left
        · obtain ⟨v1, v2⟩ := slne xan
          go_wp2_with fail
          refine (lives_any _).mono ?_
          rintro er w3 ⟨rfl, bb⟩
          go_wp2
          go_ret
          exact ⟨rfl, HB.out.trans (bb.mono HB.out.size)⟩
        subst xan
        by_cases xbo : bo = bo'
        rotate_left
        · obtain ⟨v1, v2⟩ := slne xbo
          go_wp2_with fail
          refine (lives_any _).mono ?_
          rintro er w3 ⟨rfl, bb⟩
          go_wp2
          go_ret
          exact ⟨rfl, HB.out.trans (bb.mono HB.out.size)⟩
        subst xbo
        by_cases xbn : bn = bn'
        rotate_left
        · obtain ⟨v1, v2⟩ := slne xbn
          go_wp2_with fail
          refine (lives_any _).mono ?_
          rintro er w3 ⟨rfl, bb⟩
          go_wp2
          go_ret
          exact ⟨rfl, HB.out.trans (bb.mono HB.out.size)⟩
        subst xbn
        exact absurd ⟨rfl, rfl, rfl, rfl, rfl, rfl, rfl, rfl⟩ HX.out
end Go.Proofs.YtkggagnaiiemlaaDoor.Sh
