/-
  The program's take, by contract.
-/
import Derived.Test.YtfbapbpggicfbaaGreatDoorJz35
import Derived.Test.YtfbapbpggicfbaaGreatDoorJz15
set_option linter.unusedVariables false
set_option linter.unusedSimpArgs false
namespace Go.Proofs.YtfbapbpggicfbaaGreatDoor.Sh
open Go Go.RowKit
open Go.Maps (Keyed)

set_option linter.unusedSimpArgs false
set_option linter.unusedVariables false
set_option maxHeartbeats 16000000 in
theorem take3_any {B sb b0 b1 b2 b3 b4 : Nat} {vF : Value} {col : Col} {s : St} {w : World} (h : Sol w B sb b0 b1 b2 b3 b4 vF col s) (c : Crd) (hc : okC c) (h0 : -9223372036854775808 ≤ c.d) (h1 : c.d < 9223372036854775808) (hkd : c.kd = 3) (hn : s.ic ≤ 100000000000) :
    Calls Tryz.prog 36 #[.pointer (some ⟨sb, 0, none⟩), .agg c.cells.toArray] w fun e w' => e = .returned (.tuple #[]) ∧ ∃ col', Sol w' B sb b0 b1 b2 b3 b4 vF col' (s.take c) ∧ Ext Mt w w' col col' := by
  obtain ⟨d, q, nm, kd, wh, ao, an, bo, bn⟩ := c
  have HOK := hid hc
  have HR0 := hid (fun W => roleC_any ⟨d, q, nm, kd, wh, ao, an, bo, bn⟩ h0 h1 W)
  have HSTK : Hid (kd = 3) := hid hkd
  simp only at HR0 hkd
  subst hkd
  obtain ⟨D, hD⟩ : ∃ D, domB d = D := ⟨_, rfl⟩
  have HOD : Hid (okB D) := hid (by rw [← hD]; exact ok_dom d)
  have HDD := hid hD
  rw [hD] at HR0
  obtain ⟨w1, hw1⟩ : ∃ w1, w1 = w.alloc (.cells (Crd.cells ⟨d, q, nm, 3, wh, ao, an, bo, bn⟩).toArray 43) := ⟨_, rfl⟩
  have q1 : Below w.heap.size w w1 := by rw [hw1]; exact (Below.refl _ _).alloc (Nat.le_refl _) _
  have r1 : CrAt w1 w.heap.size ⟨d, q, nm, 3, wh, ao, an, bo, bn⟩ := by rw [hw1]; exact CrAt.new w _
  have hr1 := r1.lt
  have HH := hid h
  have HQ1 := hid q1
  have HR1 := hid r1
  have HIC : Hid (s.ic ≤ 100000000000) := hid hn
  have HRL : Hid (roleOf ⟨d, q, nm, 3, wh, ao, an, bo, bn⟩ = (D, nm)) := hid (by unfold roleOf; rw [hD])
  have e0 := r1.cell 0 _ rfl
  have e1 := r1.cell 1 _ rfl
  have e2 := r1.cell 2 _ rfl
  have e3 := r1.cell 3 _ rfl
  have e4 := r1.cell 4 _ rfl
  have e5 := r1.cell 5 _ rfl
  have e6 := r1.cell 6 _ rfl
  have e7 := r1.cell 7 _ rfl
  have e8 := r1.cell 8 _ rfl
  clear h q1 r1 hn h0 h1 hc hD
  unfold Crd.cells at hw1 HR0 ⊢
  simp only at hw1 HR0 ⊢
  go_enter Tryz.func36, Tryz.ntmps36
  go_wp2_with fail
  rw [← hw1]
  clear hw1
  go_wp2_with (go_at_call 27; (refine (HR0.out _).mono ?_); rintro er w2 ⟨rfl, bb⟩; have BB := hid bb; (obtain ⟨e0, e1, e2, e3, e4, e5, e6, e7, e8⟩ : w2.cell? ⟨w.heap.size, 0, none⟩ = some (.int .i64 d) ∧ w2.cell? ⟨w.heap.size, 1, none⟩ = some (.int .i64 q) ∧ w2.cell? ⟨w.heap.size, 2, none⟩ = some (.string nm) ∧ w2.cell? ⟨w.heap.size, 3, none⟩ = some (.int .i64 3) ∧ w2.cell? ⟨w.heap.size, 4, none⟩ = some (.string wh) ∧ w2.cell? ⟨w.heap.size, 5, none⟩ = some (.string ao) ∧ w2.cell? ⟨w.heap.size, 6, none⟩ = some (.string an) ∧ w2.cell? ⟨w.heap.size, 7, none⟩ = some (.string bo) ∧ w2.cell? ⟨w.heap.size, 8, none⟩ = some (.string bn) := (HR1.out.kept bb).all); have n3 : w2.heap.size ≠ w.heap.size := (by have := bb.size; omega); have a3 : (w2.alloc (.cells #[.string D, .string nm] 24)).cell? ⟨w.heap.size, 3, none⟩ = some (.int .i64 3) := (by rw [cell_of_row _ w.heap.size 3 _ _ (0, 0) (((MapKept.heap_alloc w2 _).2 _ (by have := bb.size; omega)).trans (HR1.out.kept bb))]; rfl); have a6 : (w2.alloc (.cells #[.string D, .string nm] 24)).cell? ⟨w.heap.size, 6, none⟩ = some (.string an) := (by rw [cell_of_row _ w.heap.size 6 _ _ (0, 0) (((MapKept.heap_alloc w2 _).2 _ (by have := bb.size; omega)).trans (HR1.out.kept bb))]; rfl); clear bb)
  obtain ⟨w3, hw3⟩ : ∃ w3, w3 = w2.alloc (.cells #[.string D, .string nm] 24) := ⟨_, rfl⟩
  rw [← hw3]
  have q3 : Below w2.heap.size w2 w3 := by rw [hw3]; exact (Below.refl _ _).alloc (Nat.le_refl _) _
  have r3 : RoleAt w3 w2.heap.size D nm := by rw [hw3]; exact RoleAt.new w2 D nm
  have hr3 := r3.lt
  have HB3 : Hid (Below w.heap.size w w3) := hid ((HQ1.out.trans (BB.out.mono HQ1.out.size)).trans (q3.mono (Nat.le_trans HQ1.out.size BB.out.size)))
  have s3 := HH.out.below HB3.out
  have c3 : CrAt w3 w.heap.size ⟨d, q, nm, 3, wh, ao, an, bo, bn⟩ := ((HR1.out.kept BB.out)).kept q3
  have hr1' : w.heap.size < w3.heap.size := c3.lt
  have HS3 := hid s3
  clear e0 e1 e2 e3 e4 e5 e6 e7 e8 a3 a6 n3
  obtain ⟨w4, hw4⟩ : ∃ w4, w4 = w3.alloc (.cells #[.string D, .string an] 24) := ⟨_, rfl⟩
  rw [← hw4]
  have q4 : Below w3.heap.size w3 w4 := by rw [hw4]; exact (Below.refl _ _).alloc (Nat.le_refl _) _
  have s4 := HS3.out.below q4
  have c4 := c3.kept q4
  have r4 := r3.kept q4
  have hz3 : w3.heap.size = w2.heap.size + 1 := by rw [hw3]; simp
  have x4 : RoleAt w4 (w2.heap.size + 1) D an := by rw [hw4, ← hz3]; exact RoleAt.new w3 D an
  have hx4 := x4.lt
  have hr4 := r4.lt
  have hc4 := c4.lt
  have f1 : col w.heap.size = none := HH.out.free (Nat.le_refl _)
  have f2 : col w2.heap.size = none := HH.out.free (Nat.le_trans HQ1.out.size BB.out.size)
  have f3 : col (w2.heap.size + 1) = none := HH.out.free (by have := HB3.out.size; omega)
  have HB4 : Hid (Below w.heap.size w w4) := hid (HB3.out.trans (q4.mono HB3.out.size))
  have HGS : Hid (∀ (b : Nat) (v : Value) {i j : Nat} {y z : Lit}, col b = some (i, y) → (∀ g, v.ownBlock = some g → col g = some (j + 10, z)) → ∀ g ∈ [sb, w.heap.size, w2.heap.size, w2.heap.size + 1], g < w4.heap.size ∧ (i ≠ 0 → g ≠ b) ∧ some g ≠ v.ownBlock) := hid (fun b v i j y z hb hv g hg => by
    simp only [List.mem_cons, List.not_mem_nil, or_false] at hg
    rcases hg with rfl | rfl | rfl | rfl
    · refine ⟨s4.dom _ _ s4.csb, fun hi e => ?_, fun e => ?_⟩
      · rw [← e, s4.csb] at hb; cases hb; exact hi rfl
      · have := hv _ e.symm; rw [s4.csb] at this; simp at this
    · refine ⟨hc4, fun _ e => ?_, fun e => ?_⟩
      · rw [← e, f1] at hb; cases hb
      · have := hv _ e.symm; rw [f1] at this; cases this
    · refine ⟨hr4, fun _ e => ?_, fun e => ?_⟩
      · rw [← e, f2] at hb; cases hb
      · have := hv _ e.symm; rw [f2] at this; cases this
    · refine ⟨hx4, fun _ e => ?_, fun e => ?_⟩
      · rw [← e, f3] at hb; cases hb
      · have := hv _ e.symm; rw [f3] at this; cases this)
  have HKS : Hid (∀ W, Kp [sb, w.heap.size, w2.heap.size, w2.heap.size + 1] w4 W → (fun w' => w'.cell? ⟨sb, 3, none⟩ = some (.map (some b3)) ∧ w'.cell? ⟨w2.heap.size + 1, 0, none⟩ = some (.string D) ∧ w'.cell? ⟨w2.heap.size + 1, 1, none⟩ = some (.string an) ∧ w'.cell? ⟨w.heap.size, 8, none⟩ = some (.string bn) ∧ w'.cell? ⟨w2.heap.size, 0, none⟩ = some (.string D) ∧ w'.cell? ⟨w2.heap.size, 1, none⟩ = some (.string nm)) W) := hid (fun W hW => ⟨by rw [cell_of_row W (sb) 3 _ _ (0, 0) ((hW sb (by simp)).trans s4.row)]; rfl, by rw [cell_of_row W (w2.heap.size + 1) 0 _ _ (0, 0) ((hW (w2.heap.size + 1) (by simp)).trans x4)]; rfl, by rw [cell_of_row W (w2.heap.size + 1) 1 _ _ (0, 0) ((hW (w2.heap.size + 1) (by simp)).trans x4)]; rfl, by rw [cell_of_row W (w.heap.size) 8 _ _ (0, 0) ((hW w.heap.size (by simp)).trans c4)]; rfl, by rw [cell_of_row W (w2.heap.size) 0 _ _ (0, 0) ((hW w2.heap.size (by simp)).trans r4)]; rfl, by rw [cell_of_row W (w2.heap.size) 1 _ _ (0, 0) ((hW w2.heap.size (by simp)).trans r4)]; rfl⟩)
  have HS4 := hid s4
  clear s3 c3 r3 q3 hw3 s4 c4 r4 x4 hw4 q4 f1 f2 f3
  obtain ⟨v, ho, hvl, hvc, hent⟩ := HS4.out.lnk.entry kr_inj klR Tryz.underlying78 so_z85 (by have := HIC.out; unfold maxLen; omega) (k := (D, an)) ⟨HOD.out, HOK.out.2.2.2.1⟩ (keyR ⟨HOD.out, HOK.out.2.2.2.1⟩)
  unfold rV at hent
  simp only at hent
  obtain ⟨A, cA, rfl, -, -, -⟩ := ho.els
  have hbl := HS4.out.dom _ _ HS4.out.b3col
  have hgs : ∀ g ∈ [sb, w.heap.size, w2.heap.size, w2.heap.size + 1], g < w4.heap.size ∧ g ≠ b3 ∧ some g ≠ (Value.slice A (s.lnk (D, an)).length cA).ownBlock := fun g hg => by have := HGS.out b3 (.slice A (s.lnk (D, an)).length cA) HS4.out.b3col hvc g hg; exact ⟨this.1, this.2.1 (by omega), this.2.2⟩
  have hvb : ∀ g, (Value.slice A (s.lnk (D, an)).length cA).ownBlock = some g → g < w4.heap.size ∧ g ≠ b3 := fun g hg => ⟨(ho.lt g hg).2, fun e => by have h1 := hvc g hg; rw [e, HS4.out.b3col] at h1; simp at h1⟩
  obtain ⟨st1, u1, run1, g1, z1, fin1⟩ := hent w4.drew rfl
  obtain ⟨st2, u2, run2, g2, z2, fin2⟩ := hent (w4.alloc (.cells #[.string bn, .string D, .string nm] 104)).drew ((MapKept.heap_alloc w4 _).2 _ hbl)
  have zX : (w4.alloc (.cells #[.string bn, .string D, .string nm] 104)).drew.heap.size = w4.heap.size + 1 := by simp
  have zD : w4.drew.heap.size = w4.heap.size := rfl
  have kpD := hid ((Kp.refl [sb, w.heap.size, w2.heap.size, w2.heap.size + 1] w4).drew)
  have kpA := hid (((Kp.refl [sb, w.heap.size, w2.heap.size, w2.heap.size + 1] w4).alloc (fun g hg => (hgs g hg).1) (.cells #[.string bn, .string D, .string nm] 104)).drew)
  have kp1 := hid (kpD.out.grown g1 (fun g hg => (hgs g hg).1) (fun g hg => by simp only [ne_eq, Option.some.injEq]; exact (hgs g hg).2.1))
  have kp1a := hid (kp1.out.alloc (fun g hg => by have := (hgs g hg).1; omega) (.cells #[.string bn, .string D, .string nm] 104))
  have kp2 := hid (kpA.out.grown g2 (fun g hg => by have := (hgs g hg).1; omega) (fun g hg => by simp only [ne_eq, Option.some.injEq]; exact (hgs g hg).2.1))
  have oA := hid ((Own.kept ho (w' := u1) fun g hg => g1.block g (hvb g hg).1 (by simp only [ne_eq, Option.some.injEq]; exact (hvb g hg).2)).alloc (.cells #[.string bn, .string D, .string nm] 104))
  have oB := hid (Own.kept ho (w' := u2) fun g hg => (g2.block g (by have := (hvb g hg).1; omega) (by simp only [ne_eq, Option.some.injEq]; exact (hvb g hg).2)).trans ((MapKept.heap_alloc w4 _).2 g (hvb g hg).1))
  have rA := hid (reads_new u1 #[.string bn, .string D, .string nm] 104 (0, 0))
  have rB := hid ((reads_newd w4 #[.string bn, .string D, .string nm] 104 (0, 0)).grown g2 (fun ad e => by cases e; exact ⟨by simp, by simp only [ne_eq, Option.some.injEq]; omega⟩))
  have bA := hid ((((But.refl (fun g => g = b3 ∨ some g = (Value.slice A (s.lnk (D, an)).length cA).ownBlock) w4).drew).then_grown g1 (fun g e => .inr (.inl (Option.some.inj e).symm))).alloc (.cells #[.string bn, .string D, .string nm] 104))
  have bB := hid ((((But.refl (fun g => g = b3 ∨ some g = (Value.slice A (s.lnk (D, an)).length cA).ownBlock) w4).alloc (.cells #[.string bn, .string D, .string nm] 104)).drew).then_grown g2 (fun g e => .inr (.inl (Option.some.inj e).symm)))
  have FA := hid fin1
  have FB := hid fin2
  have GS := hid hgs
  have VB := hid hvb
  have Z1 : Hid (u1.heap.size = w4.heap.size ∧ u2.heap.size = w4.heap.size + 1 ∧ (u1.alloc (.cells #[.string bn, .string D, .string nm] 104)).heap.size = w4.heap.size + 1 ∧ b3 < w4.heap.size) := hid ⟨by omega, by omega, by simp; omega, hbl⟩
  have FBW : Hid (u1.heap[b3]? = (u1.alloc (.cells #[.string bn, .string D, .string nm] 104)).heap[b3]?) := hid ((MapKept.heap_alloc u1 _).2 _ (by omega)).symm
  have VC := hid hvc
  have hbB : B ≤ w4.heap.size := HS4.out.base
  have hll : (s.lnk (D, an)).length ≤ 1000000000000 := by have := HIC.out; omega
  clear fin1 fin2 g1 g2 ho hvc hvl hent hvb hgs zX zD hbl
  go_region_held3 (fun w' => w'.cell? ⟨sb, 3, none⟩ = some (.map (some b3)) ∧ w'.cell? ⟨w2.heap.size + 1, 0, none⟩ = some (.string D) ∧ w'.cell? ⟨w2.heap.size + 1, 1, none⟩ = some (.string an) ∧ w'.cell? ⟨w.heap.size, 8, none⟩ = some (.string bn) ∧ w'.cell? ⟨w2.heap.size, 0, none⟩ = some (.string D) ∧ w'.cell? ⟨w2.heap.size, 1, none⟩ = some (.string nm))
    (first | exact HKS.out _ kpD.out | exact HKS.out _ kpA.out | exact HKS.out _ kp1.out | exact HKS.out _ kp1a.out | exact HKS.out _ kp2.out | exact HKS.out _ kp5.out | exact HKS.out _ kp6.out)
    ((first | (refine step_app1 (E := encK) (by rfl) slK (.tmp 55) (.tmp 61) (by rfl) (B := B) (v := .slice A (s.lnk (D, an)).length cA) (l := s.lnk (D, an)) oA.out (by rfl) (ad := ⟨u1.heap.size, 0, none⟩) (c := 1) (bn, (D, nm)) (by rfl) rA.out hll (by omega) (by have := Z1.out; omega) ?_; intro A' c' w5 ho5 hg5 hl5; obtain ⟨w6, run6, g6, z6, fin6⟩ := FA.out w5 (.slice A' ((s.lnk (D, an)).length + 1) c') ((hg5.block b3 (by have := Z1.out; omega) (fun e => (VB.out b3 e.symm).2 rfl)).trans FBW.out.symm); have kp5 := hid (kp1a.out.grown hg5 (fun g hg => by have := (GS.out g hg).1; have := Z1.out; omega) (fun g hg => (GS.out g hg).2.2)); have kp6 := hid (kp5.out.grown g6 (fun g hg => by have := (GS.out g hg).1; have := Z1.out; have := hg5.size; omega) (fun g hg => by simp only [ne_eq, Option.some.injEq]; exact (GS.out g hg).2.1)); have b6 := hid ((bA.out.then_grown hg5 (fun g e => .inr (.inr e.symm))).then_grown g6 (fun g e => .inr (.inl (Option.some.inj e).symm))); have l6 := hid (loc_of (a := w4.heap.size) hl5 (by have := Z1.out; omega)); have o6 := hid (own_behind ho5 g6 l6.out (fun g e => (VB.out g e).2) (by have := Z1.out; omega)); have F6 := hid fin6; clear fin6 g6 hl5 ho5 hg5) | (refine step_app1 (E := encK) (by rfl) slK (.tmp 55) (.tmp 61) (by rfl) (B := B) (v := .slice A (s.lnk (D, an)).length cA) (l := s.lnk (D, an)) oB.out (by rfl) (ad := ⟨w4.heap.size, 0, none⟩) (c := 1) (bn, (D, nm)) (by rfl) rB.out hll (by omega) (by have := Z1.out; omega) ?_; intro A' c' w5 ho5 hg5 hl5; obtain ⟨w6, run6, g6, z6, fin6⟩ := FB.out w5 (.slice A' ((s.lnk (D, an)).length + 1) c') ((hg5.block b3 (by have := Z1.out; omega) (fun e => (VB.out b3 e.symm).2 rfl))); have kp5 := hid (kp2.out.grown hg5 (fun g hg => by have := (GS.out g hg).1; have := Z1.out; omega) (fun g hg => (GS.out g hg).2.2)); have kp6 := hid (kp5.out.grown g6 (fun g hg => by have := (GS.out g hg).1; have := Z1.out; have := hg5.size; omega) (fun g hg => by simp only [ne_eq, Option.some.injEq]; exact (GS.out g hg).2.1)); have b6 := hid ((bB.out.then_grown hg5 (fun g e => .inr (.inr e.symm))).then_grown g6 (fun g e => .inr (.inl (Option.some.inj e).symm))); have l6 := hid (loc_of (a := w4.heap.size) hl5 (by have := Z1.out; omega)); have o6 := hid (own_behind ho5 g6 l6.out (fun g e => (VB.out g e).2) (by have := Z1.out; omega)); have F6 := hid fin6; clear fin6 g6 hl5 ho5 hg5)))
  all_goals
    obtain ⟨h6, x6⟩ := HS4.out.lnkd (v := .slice A (s.lnk (D, an)).length cA) (v' := .slice A' ((s.lnk (D, an)).length + 1) c') ⟨HOK.out.2.2.2.2.2, HOD.out, HOK.out.1⟩ VC.out b6.out l6.out (fun g hg => (o6.out.lt g hg).2) (F6.out (bn, (D, nm)) o6.out (fun g hg h1 h2 => b6.out.block g hg (fun h => h.elim h1 h2)) l6.out)
    go_wp2_with fail
    go_end0
    refine ⟨rfl, _, ?_, ((Ext.of_below Mt col HB4.out)).trans (x6.mono (fun i hi => mt_mg (by omega) i hi))⟩
    have e1 : s.take ⟨d, q, nm, 3, wh, ao, an, bo, bn⟩ = s.addLnk (D, an) (bn, (D, nm)) := by rw [← HRL.out, ← HDD.out]; rfl
    rw [e1]
    exact h6
end Go.Proofs.YtfbapbpggicfbaaGreatDoor.Sh
