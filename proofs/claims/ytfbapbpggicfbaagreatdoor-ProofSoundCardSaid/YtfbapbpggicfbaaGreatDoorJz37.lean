/-
  The program's take, by contract.
-/
import Derived.Test.YtfbapbpggicfbaaGreatDoorJz35
import Derived.Test.YtfbapbpggicfbaaGreatDoorJz15
set_option linter.unusedVariables false
set_option linter.unusedSimpArgs false
namespace Go.Proofs.YtfbapbpggicfbaaGreatDoor.Sh
open Go Go.RowKit
open Go.Maps (Keyed)

set_option linter.unusedSimpArgs false
set_option linter.unusedVariables false
set_option maxHeartbeats 16000000 in
theorem take4_any {B sb b0 b1 b2 b3 b4 : Nat} {vF : Value} {col : Col} {s : St} {w : World} (h : Sol w B sb b0 b1 b2 b3 b4 vF col s) (c : Crd) (hc : okC c) (h0 : -9223372036854775808 ≤ c.d) (h1 : c.d < 9223372036854775808) (hkd : c.kd = 4) (hn : s.ic ≤ 100000000000) :
    Calls Tryz.prog 36 #[.pointer (some ⟨sb, 0, none⟩), .agg c.cells.toArray] w fun e w' => e = .returned (.tuple #[]) ∧ ∃ col', Sol w' B sb b0 b1 b2 b3 b4 vF col' (s.take c) ∧ Ext Mt w w' col col' := by
  obtain ⟨d, q, nm, kd, wh, ao, an, bo, bn⟩ := c
  have HOK := hid hc
  have HR0 := hid (fun W => roleC_any ⟨d, q, nm, kd, wh, ao, an, bo, bn⟩ h0 h1 W)
  have HSTK : Hid (kd = 4) := hid hkd
  simp only at HR0 hkd
  subst hkd
  obtain ⟨D, hD⟩ : ∃ D, domB d = D := ⟨_, rfl⟩
  have HOD : Hid (okB D) := hid (by rw [← hD]; exact ok_dom d)
  have HDD := hid hD
  rw [hD] at HR0
  obtain ⟨w1, hw1⟩ : ∃ w1, w1 = w.alloc (.cells (Crd.cells ⟨d, q, nm, 4, wh, ao, an, bo, bn⟩).toArray 43) := ⟨_, rfl⟩
  have q1 : Below w.heap.size w w1 := by rw [hw1]; exact (Below.refl _ _).alloc (Nat.le_refl _) _
  have r1 : CrAt w1 w.heap.size ⟨d, q, nm, 4, wh, ao, an, bo, bn⟩ := by rw [hw1]; exact CrAt.new w _
  have hr1 := r1.lt
  have HH := hid h
  have HQ1 := hid q1
  have HR1 := hid r1
  have HIC : Hid (s.ic ≤ 100000000000) := hid hn
  have HRL : Hid (roleOf ⟨d, q, nm, 4, wh, ao, an, bo, bn⟩ = (D, nm)) := hid (by unfold roleOf; rw [hD])
  have e0 := r1.cell 0 _ rfl
  have e1 := r1.cell 1 _ rfl
  have e2 := r1.cell 2 _ rfl
  have e3 := r1.cell 3 _ rfl
  have e4 := r1.cell 4 _ rfl
  have e5 := r1.cell 5 _ rfl
  have e6 := r1.cell 6 _ rfl
  have e7 := r1.cell 7 _ rfl
  have e8 := r1.cell 8 _ rfl
  clear h q1 r1 hn h0 h1 hc hD
  unfold Crd.cells at hw1 HR0 ⊢
  simp only at hw1 HR0 ⊢
  go_enter Tryz.func36, Tryz.ntmps36
  go_wp2_with fail
  rw [← hw1]
  clear hw1
  go_wp2_with (go_at_call 27; (refine (HR0.out _).mono ?_); rintro er w2 ⟨rfl, bb⟩; have BB := hid bb; (obtain ⟨e0, e1, e2, e3, e4, e5, e6, e7, e8⟩ : w2.cell? ⟨w.heap.size, 0, none⟩ = some (.int .i64 d) ∧ w2.cell? ⟨w.heap.size, 1, none⟩ = some (.int .i64 q) ∧ w2.cell? ⟨w.heap.size, 2, none⟩ = some (.string nm) ∧ w2.cell? ⟨w.heap.size, 3, none⟩ = some (.int .i64 4) ∧ w2.cell? ⟨w.heap.size, 4, none⟩ = some (.string wh) ∧ w2.cell? ⟨w.heap.size, 5, none⟩ = some (.string ao) ∧ w2.cell? ⟨w.heap.size, 6, none⟩ = some (.string an) ∧ w2.cell? ⟨w.heap.size, 7, none⟩ = some (.string bo) ∧ w2.cell? ⟨w.heap.size, 8, none⟩ = some (.string bn) := (HR1.out.kept bb).all); have n3 : w2.heap.size ≠ w.heap.size := (by have := bb.size; omega); have a3 : (w2.alloc (.cells #[.string D, .string nm] 24)).cell? ⟨w.heap.size, 3, none⟩ = some (.int .i64 4) := (by rw [cell_of_row _ w.heap.size 3 _ _ (0, 0) (((MapKept.heap_alloc w2 _).2 _ (by have := bb.size; omega)).trans (HR1.out.kept bb))]; rfl); clear bb)
  obtain ⟨w3, hw3⟩ : ∃ w3, w3 = w2.alloc (.cells #[.string D, .string nm] 24) := ⟨_, rfl⟩
  rw [← hw3]
  have q3 : Below w2.heap.size w2 w3 := by rw [hw3]; exact (Below.refl _ _).alloc (Nat.le_refl _) _
  have r3 : RoleAt w3 w2.heap.size D nm := by rw [hw3]; exact RoleAt.new w2 D nm
  have hr3 := r3.lt
  have HB3 : Hid (Below w.heap.size w w3) := hid ((HQ1.out.trans (BB.out.mono HQ1.out.size)).trans (q3.mono (Nat.le_trans HQ1.out.size BB.out.size)))
  have s3 := HH.out.below HB3.out
  have c3 : CrAt w3 w.heap.size ⟨d, q, nm, 4, wh, ao, an, bo, bn⟩ := ((HR1.out.kept BB.out)).kept q3
  have hr1' : w.heap.size < w3.heap.size := c3.lt
  have HGS : Hid (∀ (b : Nat) (v : Value) {i j : Nat} {y z : Lit}, col b = some (i, y) → (∀ g, v.ownBlock = some g → col g = some (j + 10, z)) → ∀ g ∈ [sb, w.heap.size, w2.heap.size], g < w3.heap.size ∧ (i ≠ 0 → g ≠ b) ∧ some g ≠ v.ownBlock) := hid (fun b v i j y z hb hv g hg => by
    have f1 : col w.heap.size = none := HH.out.free (Nat.le_refl _)
    have f2 : col w2.heap.size = none := HH.out.free (Nat.le_trans HQ1.out.size BB.out.size)
    simp only [List.mem_cons, List.not_mem_nil, or_false] at hg
    rcases hg with rfl | rfl | rfl
    · refine ⟨s3.dom _ _ s3.csb, fun hi e => ?_, fun e => ?_⟩
      · rw [← e, s3.csb] at hb; cases hb; exact hi rfl
      · have := hv _ e.symm; rw [s3.csb] at this; simp at this
    · refine ⟨hr1', fun _ e => ?_, fun e => ?_⟩
      · rw [← e, f1] at hb; cases hb
      · have := hv _ e.symm; rw [f1] at this; cases this
    · refine ⟨hr3, fun _ e => ?_, fun e => ?_⟩
      · rw [← e, f2] at hb; cases hb
      · have := hv _ e.symm; rw [f2] at this; cases this)
  have HS3 := hid s3
  clear e0 e1 e2 e3 e4 e5 e6 e7 e8 a3 n3
  have HKS : Hid (∀ W, Kp [sb, w.heap.size, w2.heap.size] w3 W → (fun w' => w'.cell? ⟨sb, 2, none⟩ = some (.map (some b2)) ∧ w'.cell? ⟨w.heap.size, 5, none⟩ = some (.string ao) ∧ w'.cell? ⟨w.heap.size, 6, none⟩ = some (.string an) ∧ w'.cell? ⟨w.heap.size, 7, none⟩ = some (.string bo) ∧ w'.cell? ⟨w.heap.size, 8, none⟩ = some (.string bn) ∧ w'.cell? ⟨w2.heap.size, 0, none⟩ = some (.string D) ∧ w'.cell? ⟨w2.heap.size, 1, none⟩ = some (.string nm)) W) := hid (fun W hW => ⟨by rw [cell_of_row W (sb) 2 _ _ (0, 0) ((hW sb (by simp)).trans s3.row)]; rfl, by rw [cell_of_row W (w.heap.size) 5 _ _ (0, 0) ((hW w.heap.size (by simp)).trans c3)]; rfl, by rw [cell_of_row W (w.heap.size) 6 _ _ (0, 0) ((hW w.heap.size (by simp)).trans c3)]; rfl, by rw [cell_of_row W (w.heap.size) 7 _ _ (0, 0) ((hW w.heap.size (by simp)).trans c3)]; rfl, by rw [cell_of_row W (w.heap.size) 8 _ _ (0, 0) ((hW w.heap.size (by simp)).trans c3)]; rfl, by rw [cell_of_row W (w2.heap.size) 0 _ _ (0, 0) ((hW w2.heap.size (by simp)).trans r3)]; rfl, by rw [cell_of_row W (w2.heap.size) 1 _ _ (0, 0) ((hW w2.heap.size (by simp)).trans r3)]; rfl⟩)
  have HC3 := hid c3
  have HR3 := hid r3
  clear s3 c3 r3 q3 hw3
  obtain ⟨v, ho, hvl, hvc, hent⟩ := HS3.out.bth.entry kr_inj klR Tryz.underlying77 so_z88 (by have := HIC.out; unfold maxLen; omega) (k := (ao, an)) ⟨HOK.out.2.2.1, HOK.out.2.2.2.1⟩ (keyR ⟨HOK.out.2.2.1, HOK.out.2.2.2.1⟩)
  unfold rV at hent
  simp only at hent
  obtain ⟨A, cA, rfl, -, -, -⟩ := ho.els
  have hbl := HS3.out.dom _ _ HS3.out.b2col
  have hgs : ∀ g ∈ [sb, w.heap.size, w2.heap.size], g < w3.heap.size ∧ g ≠ b2 ∧ some g ≠ (Value.slice A (s.bth (ao, an)).length cA).ownBlock := fun g hg => by have := HGS.out b2 (.slice A (s.bth (ao, an)).length cA) HS3.out.b2col hvc g hg; exact ⟨this.1, this.2.1 (by omega), this.2.2⟩
  have hvb : ∀ g, (Value.slice A (s.bth (ao, an)).length cA).ownBlock = some g → g < w3.heap.size ∧ g ≠ b2 := fun g hg => ⟨(ho.lt g hg).2, fun e => by have h1 := hvc g hg; rw [e, HS3.out.b2col] at h1; simp at h1⟩
  obtain ⟨st1, u1, run1, g1, z1, fin1⟩ := hent w3.drew rfl
  obtain ⟨st2, u2, run2, g2, z2, fin2⟩ := hent (w3.alloc (.cells #[.string bo, .string bn, .string D, .string nm] 107)).drew ((MapKept.heap_alloc w3 _).2 _ hbl)
  have zX : (w3.alloc (.cells #[.string bo, .string bn, .string D, .string nm] 107)).drew.heap.size = w3.heap.size + 1 := by simp
  have zD : w3.drew.heap.size = w3.heap.size := rfl
  have kpD := hid ((Kp.refl [sb, w.heap.size, w2.heap.size] w3).drew)
  have kpA := hid (((Kp.refl [sb, w.heap.size, w2.heap.size] w3).alloc (fun g hg => (hgs g hg).1) (.cells #[.string bo, .string bn, .string D, .string nm] 107)).drew)
  have kp1 := hid (kpD.out.grown g1 (fun g hg => (hgs g hg).1) (fun g hg => by simp only [ne_eq, Option.some.injEq]; exact (hgs g hg).2.1))
  have kp1a := hid (kp1.out.alloc (fun g hg => by have := (hgs g hg).1; omega) (.cells #[.string bo, .string bn, .string D, .string nm] 107))
  have kp2 := hid (kpA.out.grown g2 (fun g hg => by have := (hgs g hg).1; omega) (fun g hg => by simp only [ne_eq, Option.some.injEq]; exact (hgs g hg).2.1))
  have oA := hid ((Own.kept ho (w' := u1) fun g hg => g1.block g (hvb g hg).1 (by simp only [ne_eq, Option.some.injEq]; exact (hvb g hg).2)).alloc (.cells #[.string bo, .string bn, .string D, .string nm] 107))
  have oB := hid (Own.kept ho (w' := u2) fun g hg => (g2.block g (by have := (hvb g hg).1; omega) (by simp only [ne_eq, Option.some.injEq]; exact (hvb g hg).2)).trans ((MapKept.heap_alloc w3 _).2 g (hvb g hg).1))
  have rA := hid (reads_new u1 #[.string bo, .string bn, .string D, .string nm] 107 (0, 0))
  have rB := hid ((reads_newd w3 #[.string bo, .string bn, .string D, .string nm] 107 (0, 0)).grown g2 (fun ad e => by cases e; exact ⟨by simp, by simp only [ne_eq, Option.some.injEq]; omega⟩))
  have bA := hid ((((But.refl (fun g => g = b2 ∨ some g = (Value.slice A (s.bth (ao, an)).length cA).ownBlock) w3).drew).then_grown g1 (fun g e => .inr (.inl (Option.some.inj e).symm))).alloc (.cells #[.string bo, .string bn, .string D, .string nm] 107))
  have bB := hid ((((But.refl (fun g => g = b2 ∨ some g = (Value.slice A (s.bth (ao, an)).length cA).ownBlock) w3).alloc (.cells #[.string bo, .string bn, .string D, .string nm] 107)).drew).then_grown g2 (fun g e => .inr (.inl (Option.some.inj e).symm)))
  have FA := hid fin1
  have FB := hid fin2
  have GS := hid hgs
  have VB := hid hvb
  have Z1 : Hid (u1.heap.size = w3.heap.size ∧ u2.heap.size = w3.heap.size + 1 ∧ (u1.alloc (.cells #[.string bo, .string bn, .string D, .string nm] 107)).heap.size = w3.heap.size + 1 ∧ b2 < w3.heap.size) := hid ⟨by omega, by omega, by simp; omega, hbl⟩
  have FBW : Hid (u1.heap[b2]? = (u1.alloc (.cells #[.string bo, .string bn, .string D, .string nm] 107)).heap[b2]?) := hid ((MapKept.heap_alloc u1 _).2 _ (by omega)).symm
  have VC := hid hvc
  have hbB : B ≤ w3.heap.size := HS3.out.base
  have hll : (s.bth (ao, an)).length ≤ 1000000000000 := by have := HIC.out; omega
  clear fin1 fin2 g1 g2 ho hvc hvl hent hvb hgs zX zD hbl
  go_region_held3 (fun w' => w'.cell? ⟨sb, 2, none⟩ = some (.map (some b2)) ∧ w'.cell? ⟨w.heap.size, 5, none⟩ = some (.string ao) ∧ w'.cell? ⟨w.heap.size, 6, none⟩ = some (.string an) ∧ w'.cell? ⟨w.heap.size, 7, none⟩ = some (.string bo) ∧ w'.cell? ⟨w.heap.size, 8, none⟩ = some (.string bn) ∧ w'.cell? ⟨w2.heap.size, 0, none⟩ = some (.string D) ∧ w'.cell? ⟨w2.heap.size, 1, none⟩ = some (.string nm))
    (first | exact HKS.out _ kpD.out | exact HKS.out _ kpA.out | exact HKS.out _ kp1.out | exact HKS.out _ kp1a.out | exact HKS.out _ kp2.out | exact HKS.out _ kp5.out | exact HKS.out _ kp6.out)
    ((first | (refine step_app1 (E := encB) (by rfl) slBo (.tmp 73) (.tmp 78) (by rfl) (B := B) (v := .slice A (s.bth (ao, an)).length cA) (l := s.bth (ao, an)) oA.out (by rfl) (ad := ⟨u1.heap.size, 0, none⟩) (c := 1) ((bo, bn), (D, nm)) (by rfl) rA.out hll (by omega) (by have := Z1.out; omega) ?_; intro A' c' w5 ho5 hg5 hl5; obtain ⟨w6, run6, g6, z6, fin6⟩ := FA.out w5 (.slice A' ((s.bth (ao, an)).length + 1) c') ((hg5.block b2 (by have := Z1.out; omega) (fun e => (VB.out b2 e.symm).2 rfl)).trans FBW.out.symm); have kp5 := hid (kp1a.out.grown hg5 (fun g hg => by have := (GS.out g hg).1; have := Z1.out; omega) (fun g hg => (GS.out g hg).2.2)); have kp6 := hid (kp5.out.grown g6 (fun g hg => by have := (GS.out g hg).1; have := Z1.out; have := hg5.size; omega) (fun g hg => by simp only [ne_eq, Option.some.injEq]; exact (GS.out g hg).2.1)); have b6 := hid ((bA.out.then_grown hg5 (fun g e => .inr (.inr e.symm))).then_grown g6 (fun g e => .inr (.inl (Option.some.inj e).symm))); have l6 := hid (loc_of (a := w3.heap.size) hl5 (by have := Z1.out; omega)); have o6 := hid (own_behind ho5 g6 l6.out (fun g e => (VB.out g e).2) (by have := Z1.out; omega)); have F6 := hid fin6; clear fin6 g6 hl5 ho5 hg5) | (refine step_app1 (E := encB) (by rfl) slBo (.tmp 73) (.tmp 78) (by rfl) (B := B) (v := .slice A (s.bth (ao, an)).length cA) (l := s.bth (ao, an)) oB.out (by rfl) (ad := ⟨w3.heap.size, 0, none⟩) (c := 1) ((bo, bn), (D, nm)) (by rfl) rB.out hll (by omega) (by have := Z1.out; omega) ?_; intro A' c' w5 ho5 hg5 hl5; obtain ⟨w6, run6, g6, z6, fin6⟩ := FB.out w5 (.slice A' ((s.bth (ao, an)).length + 1) c') ((hg5.block b2 (by have := Z1.out; omega) (fun e => (VB.out b2 e.symm).2 rfl))); have kp5 := hid (kp2.out.grown hg5 (fun g hg => by have := (GS.out g hg).1; have := Z1.out; omega) (fun g hg => (GS.out g hg).2.2)); have kp6 := hid (kp5.out.grown g6 (fun g hg => by have := (GS.out g hg).1; have := Z1.out; have := hg5.size; omega) (fun g hg => by simp only [ne_eq, Option.some.injEq]; exact (GS.out g hg).2.1)); have b6 := hid ((bB.out.then_grown hg5 (fun g e => .inr (.inr e.symm))).then_grown g6 (fun g e => .inr (.inl (Option.some.inj e).symm))); have l6 := hid (loc_of (a := w3.heap.size) hl5 (by have := Z1.out; omega)); have o6 := hid (own_behind ho5 g6 l6.out (fun g e => (VB.out g e).2) (by have := Z1.out; omega)); have F6 := hid fin6; clear fin6 g6 hl5 ho5 hg5)))
  all_goals
    obtain ⟨h6, x6⟩ := HS3.out.bthd (v := .slice A (s.bth (ao, an)).length cA) (v' := .slice A' ((s.bth (ao, an)).length + 1) c') ⟨⟨HOK.out.2.2.2.2.1, HOK.out.2.2.2.2.2⟩, HOD.out, HOK.out.1⟩ VC.out b6.out l6.out (fun g hg => (o6.out.lt g hg).2) (F6.out ((bo, bn), (D, nm)) o6.out (fun g hg h1 h2 => b6.out.block g hg (fun h => h.elim h1 h2)) l6.out)
    go_wp2_with fail
    have HPT := hid (x6.col)
    have GSL : Hid (∀ g ∈ [sb, w.heap.size, w2.heap.size], g < w3.heap.size) := hid (fun g hg => (GS.out g hg).1)
    have HX6 := hid ((Ext.of_below Mt col HB3.out).trans (x6.mono (fun i hi => mt_mg (i := 3) (by omega) i hi)))
    have HS6 := hid h6
    obtain ⟨s6, es6⟩ : ∃ s6, s6 = s.addBth (ao, an) ((bo, bn), (D, nm)) := ⟨_, rfl⟩
    rw [← es6] at HS6
    have HIC6 : Hid (s6.ic ≤ 100000000001) := hid (by rw [es6]; show s.ic + 1 ≤ _; have := HIC.out; omega)
    have HES := hid es6
    have s6r := h6.row
    have c6 := (kp6.out w.heap.size (by simp)).trans HC3.out
    have r6 := (kp6.out w2.heap.size (by simp)).trans HR3.out
    obtain ⟨col6, ec6⟩ : ∃ c, c = paint col (Value.slice A' ((s.bth (ao, an)).length + 1) c') (3 + 10, kr (ao, an)) := ⟨_, rfl⟩
    rw [← ec6] at HS6 HX6
    have f1 : col6 w.heap.size = none := by rw [ec6, HPT.out _ (GSL.out _ (by simp))]; exact HH.out.free (Nat.le_refl _)
    have f2 : col6 w2.heap.size = none := by rw [ec6, HPT.out _ (GSL.out _ (by simp))]; exact HH.out.free (Nat.le_trans HQ1.out.size BB.out.size)
    have w63 : w3.heap.size ≤ w6.heap.size := b6.out.size
    have HGS : Hid (∀ (b : Nat) (v : Value) {i j : Nat} {y z : Lit}, col6 b = some (i, y) → (∀ g, v.ownBlock = some g → col6 g = some (j + 10, z)) → ∀ g ∈ [sb, w.heap.size, w2.heap.size], g < w6.heap.size ∧ (i ≠ 0 → g ≠ b) ∧ some g ≠ v.ownBlock) := hid (fun b v i j y z hb hv g hg => by
      simp only [List.mem_cons, List.not_mem_nil, or_false] at hg
      rcases hg with rfl | rfl | rfl
      · refine ⟨HS6.out.dom _ _ HS6.out.csb, fun hi e => ?_, fun e => ?_⟩
        · rw [← e, HS6.out.csb] at hb; cases hb; exact hi rfl
        · have := hv _ e.symm; rw [HS6.out.csb] at this; simp at this
      · refine ⟨Nat.lt_of_lt_of_le (GSL.out _ (by simp)) w63, fun _ e => ?_, fun e => ?_⟩
        · rw [← e, f1] at hb; cases hb
        · have := hv _ e.symm; rw [f1] at this; cases this
      · refine ⟨Nat.lt_of_lt_of_le (GSL.out _ (by simp)) w63, fun _ e => ?_, fun e => ?_⟩
        · rw [← e, f2] at hb; cases hb
        · have := hv _ e.symm; rw [f2] at this; cases this)
    have HKS : Hid (∀ W, Kp [sb, w.heap.size, w2.heap.size] w6 W → (fun w' => w'.cell? ⟨sb, 2, none⟩ = some (.map (some b2)) ∧ w'.cell? ⟨w.heap.size, 5, none⟩ = some (.string ao) ∧ w'.cell? ⟨w.heap.size, 6, none⟩ = some (.string an) ∧ w'.cell? ⟨w.heap.size, 7, none⟩ = some (.string bo) ∧ w'.cell? ⟨w.heap.size, 8, none⟩ = some (.string bn) ∧ w'.cell? ⟨w2.heap.size, 0, none⟩ = some (.string D) ∧ w'.cell? ⟨w2.heap.size, 1, none⟩ = some (.string nm)) W) := hid (fun W hW => ⟨by rw [cell_of_row W (sb) 2 _ _ (0, 0) ((hW sb (by simp)).trans s6r)]; rfl, by rw [cell_of_row W (w.heap.size) 5 _ _ (0, 0) ((hW w.heap.size (by simp)).trans c6)]; rfl, by rw [cell_of_row W (w.heap.size) 6 _ _ (0, 0) ((hW w.heap.size (by simp)).trans c6)]; rfl, by rw [cell_of_row W (w.heap.size) 7 _ _ (0, 0) ((hW w.heap.size (by simp)).trans c6)]; rfl, by rw [cell_of_row W (w.heap.size) 8 _ _ (0, 0) ((hW w.heap.size (by simp)).trans c6)]; rfl, by rw [cell_of_row W (w2.heap.size) 0 _ _ (0, 0) ((hW w2.heap.size (by simp)).trans r6)]; rfl, by rw [cell_of_row W (w2.heap.size) 1 _ _ (0, 0) ((hW w2.heap.size (by simp)).trans r6)]; rfl⟩)
    clear kpD kpA kp1 kp1a kp2 kp5 kp6 oA oB rA rB bA bB FA FB GS VB Z1 FBW VC b6 l6 o6 F6 run1 run2 run6 hbB hll h6 x6 z1 z2 z6 c6 r6 f1 f2 s6r es6 ec6
    obtain ⟨v, ho, hvl, hvc, hent⟩ := HS6.out.bth.entry kr_inj klR Tryz.underlying77 so_z88 (by have := HIC6.out; unfold maxLen; omega) (k := (bo, bn)) ⟨HOK.out.2.2.2.2.1, HOK.out.2.2.2.2.2⟩ (keyR ⟨HOK.out.2.2.2.2.1, HOK.out.2.2.2.2.2⟩)
    unfold rV at hent
    simp only at hent
    obtain ⟨A, cA, rfl, -, -, -⟩ := ho.els
    have hbl := HS6.out.dom _ _ HS6.out.b2col
    have hgs : ∀ g ∈ [sb, w.heap.size, w2.heap.size], g < w6.heap.size ∧ g ≠ b2 ∧ some g ≠ (Value.slice A (s6.bth (bo, bn)).length cA).ownBlock := fun g hg => by have := HGS.out b2 (.slice A (s6.bth (bo, bn)).length cA) HS6.out.b2col hvc g hg; exact ⟨this.1, this.2.1 (by omega), this.2.2⟩
    have hvb : ∀ g, (Value.slice A (s6.bth (bo, bn)).length cA).ownBlock = some g → g < w6.heap.size ∧ g ≠ b2 := fun g hg => ⟨(ho.lt g hg).2, fun e => by have h1 := hvc g hg; rw [e, HS6.out.b2col] at h1; simp at h1⟩
    obtain ⟨st1, u1, run1, g1, z1, fin1⟩ := hent w6.drew rfl
    obtain ⟨st2, u2, run2, g2, z2, fin2⟩ := hent (w6.alloc (.cells #[.string ao, .string an, .string D, .string nm] 107)).drew ((MapKept.heap_alloc w6 _).2 _ hbl)
    have zX : (w6.alloc (.cells #[.string ao, .string an, .string D, .string nm] 107)).drew.heap.size = w6.heap.size + 1 := by simp
    have zD : w6.drew.heap.size = w6.heap.size := rfl
    have kpD := hid ((Kp.refl [sb, w.heap.size, w2.heap.size] w6).drew)
    have kpA := hid (((Kp.refl [sb, w.heap.size, w2.heap.size] w6).alloc (fun g hg => (hgs g hg).1) (.cells #[.string ao, .string an, .string D, .string nm] 107)).drew)
    have kp1 := hid (kpD.out.grown g1 (fun g hg => (hgs g hg).1) (fun g hg => by simp only [ne_eq, Option.some.injEq]; exact (hgs g hg).2.1))
    have kp1a := hid (kp1.out.alloc (fun g hg => by have := (hgs g hg).1; omega) (.cells #[.string ao, .string an, .string D, .string nm] 107))
    have kp2 := hid (kpA.out.grown g2 (fun g hg => by have := (hgs g hg).1; omega) (fun g hg => by simp only [ne_eq, Option.some.injEq]; exact (hgs g hg).2.1))
    have oA := hid ((Own.kept ho (w' := u1) fun g hg => g1.block g (hvb g hg).1 (by simp only [ne_eq, Option.some.injEq]; exact (hvb g hg).2)).alloc (.cells #[.string ao, .string an, .string D, .string nm] 107))
    have oB := hid (Own.kept ho (w' := u2) fun g hg => (g2.block g (by have := (hvb g hg).1; omega) (by simp only [ne_eq, Option.some.injEq]; exact (hvb g hg).2)).trans ((MapKept.heap_alloc w6 _).2 g (hvb g hg).1))
    have rA := hid (reads_new u1 #[.string ao, .string an, .string D, .string nm] 107 (0, 0))
    have rB := hid ((reads_newd w6 #[.string ao, .string an, .string D, .string nm] 107 (0, 0)).grown g2 (fun ad e => by cases e; exact ⟨by simp, by simp only [ne_eq, Option.some.injEq]; omega⟩))
    have bA := hid ((((But.refl (fun g => g = b2 ∨ some g = (Value.slice A (s6.bth (bo, bn)).length cA).ownBlock) w6).drew).then_grown g1 (fun g e => .inr (.inl (Option.some.inj e).symm))).alloc (.cells #[.string ao, .string an, .string D, .string nm] 107))
    have bB := hid ((((But.refl (fun g => g = b2 ∨ some g = (Value.slice A (s6.bth (bo, bn)).length cA).ownBlock) w6).alloc (.cells #[.string ao, .string an, .string D, .string nm] 107)).drew).then_grown g2 (fun g e => .inr (.inl (Option.some.inj e).symm)))
    have FA := hid fin1
    have FB := hid fin2
    have GS := hid hgs
    have VB := hid hvb
    have Z1 : Hid (u1.heap.size = w6.heap.size ∧ u2.heap.size = w6.heap.size + 1 ∧ (u1.alloc (.cells #[.string ao, .string an, .string D, .string nm] 107)).heap.size = w6.heap.size + 1 ∧ b2 < w6.heap.size) := hid ⟨by omega, by omega, by simp; omega, hbl⟩
    have FBW : Hid (u1.heap[b2]? = (u1.alloc (.cells #[.string ao, .string an, .string D, .string nm] 107)).heap[b2]?) := hid ((MapKept.heap_alloc u1 _).2 _ (by omega)).symm
    have VC := hid hvc
    have hbB : B ≤ w6.heap.size := HS6.out.base
    have hll : (s6.bth (bo, bn)).length ≤ 1000000000000 := by have := HIC6.out; omega
    clear fin1 fin2 g1 g2 ho hvc hvl hent hvb hgs zX zD hbl
    go_region_held3 (fun w' => w'.cell? ⟨sb, 2, none⟩ = some (.map (some b2)) ∧ w'.cell? ⟨w.heap.size, 5, none⟩ = some (.string ao) ∧ w'.cell? ⟨w.heap.size, 6, none⟩ = some (.string an) ∧ w'.cell? ⟨w.heap.size, 7, none⟩ = some (.string bo) ∧ w'.cell? ⟨w.heap.size, 8, none⟩ = some (.string bn) ∧ w'.cell? ⟨w2.heap.size, 0, none⟩ = some (.string D) ∧ w'.cell? ⟨w2.heap.size, 1, none⟩ = some (.string nm))
      (first | exact HKS.out _ kpD.out | exact HKS.out _ kpA.out | exact HKS.out _ kp1.out | exact HKS.out _ kp1a.out | exact HKS.out _ kp2.out | exact HKS.out _ kp5.out | exact HKS.out _ kp6.out)
      ((first | (refine step_app1 (E := encB) (by rfl) slBo (.tmp 88) (.tmp 93) (by rfl) (B := B) (v := .slice A (s6.bth (bo, bn)).length cA) (l := s6.bth (bo, bn)) oA.out (by rfl) (ad := ⟨u1.heap.size, 0, none⟩) (c := 1) ((ao, an), (D, nm)) (by rfl) rA.out hll (by omega) (by have := Z1.out; omega) ?_; intro A' c' w5 ho5 hg5 hl5; obtain ⟨w9, run6, g6, z6, fin6⟩ := FA.out w5 (.slice A' ((s6.bth (bo, bn)).length + 1) c') ((hg5.block b2 (by have := Z1.out; omega) (fun e => (VB.out b2 e.symm).2 rfl)).trans FBW.out.symm); have kp5 := hid (kp1a.out.grown hg5 (fun g hg => by have := (GS.out g hg).1; have := Z1.out; omega) (fun g hg => (GS.out g hg).2.2)); have kp6 := hid (kp5.out.grown g6 (fun g hg => by have := (GS.out g hg).1; have := Z1.out; have := hg5.size; omega) (fun g hg => by simp only [ne_eq, Option.some.injEq]; exact (GS.out g hg).2.1)); have b6 := hid ((bA.out.then_grown hg5 (fun g e => .inr (.inr e.symm))).then_grown g6 (fun g e => .inr (.inl (Option.some.inj e).symm))); have l6 := hid (loc_of (a := w6.heap.size) hl5 (by have := Z1.out; omega)); have o6 := hid (own_behind ho5 g6 l6.out (fun g e => (VB.out g e).2) (by have := Z1.out; omega)); have F6 := hid fin6; clear fin6 g6 hl5 ho5 hg5) | (refine step_app1 (E := encB) (by rfl) slBo (.tmp 88) (.tmp 93) (by rfl) (B := B) (v := .slice A (s6.bth (bo, bn)).length cA) (l := s6.bth (bo, bn)) oB.out (by rfl) (ad := ⟨w6.heap.size, 0, none⟩) (c := 1) ((ao, an), (D, nm)) (by rfl) rB.out hll (by omega) (by have := Z1.out; omega) ?_; intro A' c' w5 ho5 hg5 hl5; obtain ⟨w9, run6, g6, z6, fin6⟩ := FB.out w5 (.slice A' ((s6.bth (bo, bn)).length + 1) c') ((hg5.block b2 (by have := Z1.out; omega) (fun e => (VB.out b2 e.symm).2 rfl))); have kp5 := hid (kp2.out.grown hg5 (fun g hg => by have := (GS.out g hg).1; have := Z1.out; omega) (fun g hg => (GS.out g hg).2.2)); have kp6 := hid (kp5.out.grown g6 (fun g hg => by have := (GS.out g hg).1; have := Z1.out; have := hg5.size; omega) (fun g hg => by simp only [ne_eq, Option.some.injEq]; exact (GS.out g hg).2.1)); have b6 := hid ((bB.out.then_grown hg5 (fun g e => .inr (.inr e.symm))).then_grown g6 (fun g e => .inr (.inl (Option.some.inj e).symm))); have l6 := hid (loc_of (a := w6.heap.size) hl5 (by have := Z1.out; omega)); have o6 := hid (own_behind ho5 g6 l6.out (fun g e => (VB.out g e).2) (by have := Z1.out; omega)); have F6 := hid fin6; clear fin6 g6 hl5 ho5 hg5)))
    all_goals
      obtain ⟨h6, x6⟩ := HS6.out.bthd (v := .slice A (s6.bth (bo, bn)).length cA) (v' := .slice A' ((s6.bth (bo, bn)).length + 1) c') ⟨⟨HOK.out.2.2.1, HOK.out.2.2.2.1⟩, HOD.out, HOK.out.1⟩ VC.out b6.out l6.out (fun g hg => (o6.out.lt g hg).2) (F6.out ((ao, an), (D, nm)) o6.out (fun g hg h1 h2 => b6.out.block g hg (fun h => h.elim h1 h2)) l6.out)
      go_wp2_with fail
      go_end0
      refine ⟨rfl, _, ?_, HX6.out.trans (x6.mono (fun i hi => mt_mg (i := 3) (by omega) i hi))⟩
      have e1 : s.take ⟨d, q, nm, 4, wh, ao, an, bo, bn⟩ = s6.addBth (bo, bn) ((ao, an), (D, nm)) := by rw [HES.out, ← HRL.out]; rfl
      rw [e1]
      exact h6
end Go.Proofs.YtfbapbpggicfbaaGreatDoor.Sh
