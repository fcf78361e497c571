/-
  The search's take, by contract: kind 2.
-/
import Derived.Test.YtoajckhnneagnaaDoorJd25
import Derived.Test.YtoajckhnneagnaaDoorJd26
set_option linter.unusedVariables false
set_option linter.unusedSimpArgs false
namespace Go.Proofs.YtoajckhnneagnaaDoor.Sh
open Go Go.RowKit
open Go.Maps (Keyed)

set_option linter.unusedVariables false
set_option linter.unusedSimpArgs false
set_option maxHeartbeats 16000000 in
set_option maxRecDepth 100000 in
theorem ctake2_any {L : Ly} {vF vL : Value} {col : Col} {x : Sx} {w : World} (h : Sea L w vF vL col x) (c : Crd) (hc : mayC c = true) (hkd : c.kd = 2) (hic : x.s.ic ≤ 10000000000) (hkn : x.s.kn.length ≤ 10000000000) (hfr : x.s.fr.length ≤ 10000000000) :
    Calls Tryd.prog 44 #[.pointer (some ⟨L.sb, 0, none⟩), .agg c.cells.toArray] w fun e w' => e = .returned (.tuple #[]) ∧ ∃ vF' col', Sea L w' vF' vL col' { x with s := x.s.take L.pe c } ∧ Ext (fun _ => True) w w' col col' := by
  obtain ⟨d, q, nm, kd, wh, ao, an, bo, bn⟩ := c
  obtain ⟨sb, hsb⟩ : ∃ sb, L.sb = sb := ⟨_, rfl⟩
  obtain ⟨b2, hb2⟩ : ∃ b2, L.b2 = b2 := ⟨_, rfl⟩
  simp only at hkd
  subst hkd
  have h0 := may_head hc
  have HOC := hid (okC_of hc)
  have HR0 := hid (fun W => roleC_any ⟨d, q, nm, 2, wh, ao, an, bo, bn⟩ (by have := h0.1; omega) (by have := h0; omega) W)
  simp only at HR0
  obtain ⟨D, hD⟩ : ∃ D, domB d = D := ⟨_, rfl⟩
  have HOR : Hid (okR (D, nm)) := hid ⟨by rw [← hD]; exact ok_dom d, HOC.out.1⟩
  have HRL : Hid (roleOf ⟨d, q, nm, 2, wh, ao, an, bo, bn⟩ = (D, nm)) := hid (by unfold roleOf; rw [hD])
  have HFL : Hid (firstOf ⟨d, q, nm, 2, wh, ao, an, bo, bn⟩ = (D, an)) := hid (by unfold firstOf; rw [hD])
  rw [hD] at HR0
  obtain ⟨w1, hw1⟩ : ∃ w1, w1 = w.alloc (.cells (Crd.cells ⟨d, q, nm, 2, wh, ao, an, bo, bn⟩).toArray 55) := ⟨_, rfl⟩
  have HQ1 : Hid (Below w.heap.size w w1) := hid (by rw [hw1]; exact (Below.refl _ _).alloc (Nat.le_refl _) _)
  have HR1 : Hid (CrAt w1 w.heap.size ⟨d, q, nm, 2, wh, ao, an, bo, bn⟩) := hid (by rw [hw1]; exact CrAt.new w _)
  have HH := hid h
  have HMY := hid hc
  have HSB := hid hsb
  have HB2e := hid hb2
  have HAS := hid (fun W vF vL col y (hS : Sea L W vF vL col y) (hy : y.s.ic ≤ 100000000000) => by
    have := cask_any hS (ao, an) ⟨HOC.out.2.2.1, HOC.out.2.2.2.1⟩ ⟨d, q, nm, 2, wh, ao, an, bo, bn⟩ hc hy
    rw [hsb] at this
    unfold Crd.cells at this
    simp only at this
    exact this)
  have HIC0 : Hid (x.s.ic ≤ 100000000000) := hid (by omega)
  have HG1 : Hid True := hid trivial
  have HIC1 : Hid (x.s.ic + 1 ≤ 100000000000) := hid (by omega)
  have HIC2 : Hid (x.s.ic + 2 ≤ 100000000000) := hid (by omega)
  rw [hsb]
  clear h hc hD h0 hsb hb2 hic hkn hfr
  unfold Crd.cells at hw1 HR0 ⊢
  simp only at hw1 HR0 ⊢
  go_enter Tryd.func44, Tryd.ntmps44
  go_wp2_with fail
  rw [← hw1]
  clear hw1
  go_wp2_with (first
    | (go_at_call 58; (refine (HR0.out _).mono ?_); rintro er w2 ⟨rfl, bb⟩; have HB2 := hid (HQ1.out.trans (bb.mono HQ1.out.size)); have HC2 := hid (CrAt.kept (HR1.out.kept bb) ((Below.refl w2.heap.size w2).alloc (Nat.le_refl _) (.cells #[.string D, .string nm] 24))); have HRA := hid (RoleAt.new w2 D nm); (obtain ⟨a0, a1, a2, a3, a4, a5, a6, a7, a8⟩ := HC2.out.all); have a9 := HRA.out.c0; have a10 := HRA.out.c1; have n3 : w2.heap.size ≠ w.heap.size := (by have := HB2.out.size; have := HR1.out.lt; have := bb.size; omega); clear bb)
    | (go_at_call 67; (refine (HAS.out _ _ _ _ _ (HH.out.below (HB2.out.alloc HB2.out.size (.cells #[.string D, .string nm] 24))) HIC0.out).mono ?_); rintro er w3 ⟨rfl, col3, hs3, hx3⟩; have HS3 := hid hs3; have HX3 := hid hx3; clear hs3 hx3))
  obtain ⟨y, hy⟩ : ∃ y, y = { x with s := x.s.toAsk (ao, an) ⟨d, q, nm, 2, wh, ao, an, bo, bn⟩ } := ⟨_, rfl⟩
  rw [← hy] at HS3
  have HB3 : Hid (Below w.heap.size w (w2.alloc (.cells #[.string D, .string nm] 24))) := hid (HB2.out.alloc HB2.out.size _)
  have HXX : Hid (Ext (fun _ => True) w w3 col col3) := hid ((Ext.of_below (fun _ => True) col HB3.out).trans (HX3.out.mono fun _ _ => trivial))
  have f1 : col w.heap.size = none := HH.out.free (Nat.le_refl _)
  have f2 : col w2.heap.size = none := HH.out.free HB2.out.size
  have c3 : CrAt w3 w.heap.size ⟨d, q, nm, 2, wh, ao, an, bo, bn⟩ := (HX3.out.free HC2.out.lt f1).trans HC2.out
  have r3 : RoleAt w3 w2.heap.size D nm := (HX3.out.free HRA.out.lt f2).trans HRA.out
  have HEQ : Hid (({ x with s := x.s.take L.pe ⟨d, q, nm, 2, wh, ao, an, bo, bn⟩ } : Sx) = { y with s := y.s.toGiv (D, nm) ⟨d, q, nm, 2, wh, ao, an, bo, bn⟩ }) := hid (by rw [hy, ← HRL.out]; rw [take_2 rfl])
  have HIC : Hid (y.s.ic ≤ 100000000000) := hid (by rw [hy]; exact HIC1.out)
  have HGS : Hid (∀ g ∈ [sb, w2.heap.size, w.heap.size], g < w3.heap.size ∧ (col3 g = some (0, .nil) ∨ col3 g = none)) := hid (fun g hg => by
    simp only [List.mem_cons, List.not_mem_nil, or_false] at hg
    rcases hg with rfl | rfl | rfl
    · exact ⟨by rw [← HSB.out]; exact HS3.out.lt, .inl (by rw [← HSB.out]; exact HS3.out.csb)⟩
    · exact ⟨r3.lt, .inr ((HX3.out.col _ HRA.out.lt).trans f2)⟩
    · exact ⟨c3.lt, .inr ((HX3.out.col _ HC2.out.lt).trans f1)⟩)
  have HKS : Hid (∀ W, Kp [sb, w2.heap.size, w.heap.size] w3 W → (fun w' => w'.cell? ⟨sb, 18, none⟩ = some (.map (some b2)) ∧ w'.cell? ⟨w2.heap.size, 0, none⟩ = some (.string D) ∧ w'.cell? ⟨w2.heap.size, 1, none⟩ = some (.string nm) ∧ w'.cell? ⟨w.heap.size, 0, none⟩ = some (.int .i64 d) ∧ w'.cell? ⟨w.heap.size, 1, none⟩ = some (.int .i64 q) ∧ w'.cell? ⟨w.heap.size, 2, none⟩ = some (.string nm) ∧ w'.cell? ⟨w.heap.size, 3, none⟩ = some (.int .i64 2) ∧ w'.cell? ⟨w.heap.size, 4, none⟩ = some (.string wh) ∧ w'.cell? ⟨w.heap.size, 5, none⟩ = some (.string ao) ∧ w'.cell? ⟨w.heap.size, 6, none⟩ = some (.string an) ∧ w'.cell? ⟨w.heap.size, 7, none⟩ = some (.string bo) ∧ w'.cell? ⟨w.heap.size, 8, none⟩ = some (.string bn)) W) := hid (fun W hW => ⟨by rw [cell_of_row W sb 18 _ _ (0, 0) ((hW sb (by simp)).trans (by rw [← HSB.out]; exact HS3.out.row)), ← HB2e.out]; rfl, by rw [cell_of_row W w2.heap.size 0 _ _ (0, 0) ((hW w2.heap.size (by simp)).trans r3)]; rfl, by rw [cell_of_row W w2.heap.size 1 _ _ (0, 0) ((hW w2.heap.size (by simp)).trans r3)]; rfl, by rw [cell_of_row W (w.heap.size) 0 _ _ (0, 0) ((hW w.heap.size (by simp)).trans c3)]; rfl, by rw [cell_of_row W (w.heap.size) 1 _ _ (0, 0) ((hW w.heap.size (by simp)).trans c3)]; rfl, by rw [cell_of_row W (w.heap.size) 2 _ _ (0, 0) ((hW w.heap.size (by simp)).trans c3)]; rfl, by rw [cell_of_row W (w.heap.size) 3 _ _ (0, 0) ((hW w.heap.size (by simp)).trans c3)]; rfl, by rw [cell_of_row W (w.heap.size) 4 _ _ (0, 0) ((hW w.heap.size (by simp)).trans c3)]; rfl, by rw [cell_of_row W (w.heap.size) 5 _ _ (0, 0) ((hW w.heap.size (by simp)).trans c3)]; rfl, by rw [cell_of_row W (w.heap.size) 6 _ _ (0, 0) ((hW w.heap.size (by simp)).trans c3)]; rfl, by rw [cell_of_row W (w.heap.size) 7 _ _ (0, 0) ((hW w.heap.size (by simp)).trans c3)]; rfl, by rw [cell_of_row W (w.heap.size) 8 _ _ (0, 0) ((hW w.heap.size (by simp)).trans c3)]; rfl⟩)
  clear hy f1 f2 c3 r3
  try clear a0 a1 a2 a3 a4 a5 a6 a7 a8
  try clear a9 a10 n3
  obtain ⟨v, ho, hvl, hvc, hent⟩ := HS3.out.giv.entry kr_inj klR Tryd.underlying63 ch_z22 (by have := HIC.out; unfold maxLen; omega) (k := (D, nm)) HOR.out (keyR HOR.out)
  unfold rV at hent
  simp only at hent
  obtain ⟨A, cA, rfl, -, -, -⟩ := ho.els
  rw [HB2e.out] at hent
  have hcb : col3 b2 = some (1, .nil) := by rw [← HB2e.out]; exact HS3.out.c2
  have hbl : b2 < w3.heap.size := HS3.out.dom _ _ hcb
  have hgs : ∀ g ∈ [sb, w2.heap.size, w.heap.size], g < w3.heap.size ∧ g ≠ b2 ∧ some g ≠ (Value.slice A (y.s.giv (D, nm)).length cA).ownBlock := fun g hg => by
    obtain ⟨q1, q2⟩ := HGS.out g hg
    refine ⟨q1, fun e => ?_, fun e => ?_⟩
    · rcases q2 with q2 | q2
      · rw [e, hcb] at q2; cases q2
      · rw [e, hcb] at q2; cases q2
    · have q3 := hvc _ e.symm
      rcases q2 with q2 | q2
      · rw [q3] at q2; cases q2
      · rw [q3] at q2; cases q2
  have hvb : ∀ g, (Value.slice A (y.s.giv (D, nm)).length cA).ownBlock = some g → g < w3.heap.size ∧ g ≠ b2 := fun g hg => ⟨(ho.lt g hg).2, fun e => by have h1 := hvc g hg; rw [e, hcb] at h1; simp at h1⟩
  obtain ⟨st1, u1, run1, g1, z1, fin1⟩ := hent w3.drew rfl
  obtain ⟨st2, u2, run2, g2, z2, fin2⟩ := hent (w3.alloc (.cells #[.int .i64 d, .int .i64 q, .string nm, .int .i64 2, .string wh, .string ao, .string an, .string bo, .string bn] 55)).drew ((MapKept.heap_alloc w3 _).2 _ hbl)
  have zX : (w3.alloc (.cells #[.int .i64 d, .int .i64 q, .string nm, .int .i64 2, .string wh, .string ao, .string an, .string bo, .string bn] 55)).drew.heap.size = w3.heap.size + 1 := by simp
  have zD : w3.drew.heap.size = w3.heap.size := rfl
  have kpD := hid ((Kp.refl [sb, w2.heap.size, w.heap.size] w3).drew)
  have kpA := hid (((Kp.refl [sb, w2.heap.size, w.heap.size] w3).alloc (fun g hg => (hgs g hg).1) (.cells #[.int .i64 d, .int .i64 q, .string nm, .int .i64 2, .string wh, .string ao, .string an, .string bo, .string bn] 55)).drew)
  have kp1 := hid (kpD.out.grown g1 (fun g hg => (hgs g hg).1) (fun g hg => by simp only [ne_eq, Option.some.injEq]; exact (hgs g hg).2.1))
  have kp1a := hid (kp1.out.alloc (fun g hg => by have := (hgs g hg).1; omega) (.cells #[.int .i64 d, .int .i64 q, .string nm, .int .i64 2, .string wh, .string ao, .string an, .string bo, .string bn] 55))
  have kp2 := hid (kpA.out.grown g2 (fun g hg => by have := (hgs g hg).1; omega) (fun g hg => by simp only [ne_eq, Option.some.injEq]; exact (hgs g hg).2.1))
  have oA := hid ((Own.kept ho (w' := u1) fun g hg => g1.block g (hvb g hg).1 (by simp only [ne_eq, Option.some.injEq]; exact (hvb g hg).2)).alloc (.cells #[.int .i64 d, .int .i64 q, .string nm, .int .i64 2, .string wh, .string ao, .string an, .string bo, .string bn] 55))
  have oB := hid (Own.kept ho (w' := u2) fun g hg => (g2.block g (by have := (hvb g hg).1; omega) (by simp only [ne_eq, Option.some.injEq]; exact (hvb g hg).2)).trans ((MapKept.heap_alloc w3 _).2 g (hvb g hg).1))
  have rA := hid (reads_new u1 #[.int .i64 d, .int .i64 q, .string nm, .int .i64 2, .string wh, .string ao, .string an, .string bo, .string bn] 55 (0, 0))
  have rB := hid ((reads_newd w3 #[.int .i64 d, .int .i64 q, .string nm, .int .i64 2, .string wh, .string ao, .string an, .string bo, .string bn] 55 (0, 0)).grown g2 (fun ad e => by cases e; exact ⟨by simp, by simp only [ne_eq, Option.some.injEq]; omega⟩))
  have bA := hid ((((But.refl (fun g => g = b2 ∨ some g = (Value.slice A (y.s.giv (D, nm)).length cA).ownBlock) w3).drew).then_grown g1 (fun g e => .inr (.inl (Option.some.inj e).symm))).alloc (.cells #[.int .i64 d, .int .i64 q, .string nm, .int .i64 2, .string wh, .string ao, .string an, .string bo, .string bn] 55))
  have bB := hid ((((But.refl (fun g => g = b2 ∨ some g = (Value.slice A (y.s.giv (D, nm)).length cA).ownBlock) w3).alloc (.cells #[.int .i64 d, .int .i64 q, .string nm, .int .i64 2, .string wh, .string ao, .string an, .string bo, .string bn] 55)).drew).then_grown g2 (fun g e => .inr (.inl (Option.some.inj e).symm)))
  have FA := hid fin1
  have FB := hid fin2
  have GS := hid hgs
  have VB := hid hvb
  have Z1 : Hid (u1.heap.size = w3.heap.size ∧ u2.heap.size = w3.heap.size + 1 ∧ (u1.alloc (.cells #[.int .i64 d, .int .i64 q, .string nm, .int .i64 2, .string wh, .string ao, .string an, .string bo, .string bn] 55)).heap.size = w3.heap.size + 1 ∧ b2 < w3.heap.size) := hid ⟨by omega, by omega, by simp; omega, hbl⟩
  have FBW : Hid (u1.heap[b2]? = (u1.alloc (.cells #[.int .i64 d, .int .i64 q, .string nm, .int .i64 2, .string wh, .string ao, .string an, .string bo, .string bn] 55)).heap[b2]?) := hid ((MapKept.heap_alloc u1 _).2 _ (by omega)).symm
  have VC := hid hvc
  have hbB : L.B ≤ w3.heap.size := HS3.out.base
  have hll : (y.s.giv (D, nm)).length ≤ 1000000000000 := by have := HIC.out; omega
  clear fin1 fin2 g1 g2 ho hvc hvl hent hvb hgs zX zD hbl hcb
  go_region_held3 (fun w' => w'.cell? ⟨sb, 18, none⟩ = some (.map (some b2)) ∧ w'.cell? ⟨w2.heap.size, 0, none⟩ = some (.string D) ∧ w'.cell? ⟨w2.heap.size, 1, none⟩ = some (.string nm) ∧ w'.cell? ⟨w.heap.size, 0, none⟩ = some (.int .i64 d) ∧ w'.cell? ⟨w.heap.size, 1, none⟩ = some (.int .i64 q) ∧ w'.cell? ⟨w.heap.size, 2, none⟩ = some (.string nm) ∧ w'.cell? ⟨w.heap.size, 3, none⟩ = some (.int .i64 2) ∧ w'.cell? ⟨w.heap.size, 4, none⟩ = some (.string wh) ∧ w'.cell? ⟨w.heap.size, 5, none⟩ = some (.string ao) ∧ w'.cell? ⟨w.heap.size, 6, none⟩ = some (.string an) ∧ w'.cell? ⟨w.heap.size, 7, none⟩ = some (.string bo) ∧ w'.cell? ⟨w.heap.size, 8, none⟩ = some (.string bn))
    (first | exact HKS.out _ kpD.out | exact HKS.out _ kpA.out | exact HKS.out _ kp1.out | exact HKS.out _ kp1a.out | exact HKS.out _ kp2.out | exact HKS.out _ kp5.out | exact HKS.out _ kp6.out)
    ((first | (refine step_appW (E := encC) (by rfl) slC (.tmp 60) (.tmp 62) (by rfl) (B := L.B) (v := .slice A (y.s.giv (D, nm)).length cA) (l := y.s.giv (D, nm)) oA.out (by rfl) (ad := ⟨u1.heap.size, 0, none⟩) (c := 1) (⟨d, q, nm, 2, wh, ao, an, bo, bn⟩ : Crd) (by rfl) rA.out hll (by omega) (by have := Z1.out; omega) ?_; intro A' c' w5 ho5 hg5 hl5; obtain ⟨w6, run6, g6, z6, fin6⟩ := FA.out w5 (.slice A' ((y.s.giv (D, nm)).length + 1) c') ((hg5.block b2 (by have := Z1.out; omega) (fun e => (VB.out b2 e.symm).2 rfl)).trans FBW.out.symm); have kp5 := hid (kp1a.out.grown hg5 (fun g hg => by have := (GS.out g hg).1; have := Z1.out; omega) (fun g hg => (GS.out g hg).2.2)); have kp6 := hid (kp5.out.grown g6 (fun g hg => by have := (GS.out g hg).1; have := Z1.out; have := hg5.size; omega) (fun g hg => by simp only [ne_eq, Option.some.injEq]; exact (GS.out g hg).2.1)); have b6 := hid ((bA.out.then_grown hg5 (fun g e => .inr (.inr e.symm))).then_grown g6 (fun g e => .inr (.inl (Option.some.inj e).symm))); have l6 := hid (loc_of (a := w3.heap.size) hl5 (by have := Z1.out; omega)); have o6 := hid (own_behind ho5 g6 l6.out (fun g e => (VB.out g e).2) (by have := Z1.out; omega)); have F6 := hid fin6; clear fin6 g6 hl5 ho5 hg5) | (refine step_appW (E := encC) (by rfl) slC (.tmp 60) (.tmp 62) (by rfl) (B := L.B) (v := .slice A (y.s.giv (D, nm)).length cA) (l := y.s.giv (D, nm)) oB.out (by rfl) (ad := ⟨w3.heap.size, 0, none⟩) (c := 1) (⟨d, q, nm, 2, wh, ao, an, bo, bn⟩ : Crd) (by rfl) rB.out hll (by omega) (by have := Z1.out; omega) ?_; intro A' c' w5 ho5 hg5 hl5; obtain ⟨w6, run6, g6, z6, fin6⟩ := FB.out w5 (.slice A' ((y.s.giv (D, nm)).length + 1) c') ((hg5.block b2 (by have := Z1.out; omega) (fun e => (VB.out b2 e.symm).2 rfl))); have kp5 := hid (kp2.out.grown hg5 (fun g hg => by have := (GS.out g hg).1; have := Z1.out; omega) (fun g hg => (GS.out g hg).2.2)); have kp6 := hid (kp5.out.grown g6 (fun g hg => by have := (GS.out g hg).1; have := Z1.out; have := hg5.size; omega) (fun g hg => by simp only [ne_eq, Option.some.injEq]; exact (GS.out g hg).2.1)); have b6 := hid ((bB.out.then_grown hg5 (fun g e => .inr (.inr e.symm))).then_grown g6 (fun g e => .inr (.inl (Option.some.inj e).symm))); have l6 := hid (loc_of (a := w3.heap.size) hl5 (by have := Z1.out; omega)); have o6 := hid (own_behind ho5 g6 l6.out (fun g e => (VB.out g e).2) (by have := Z1.out; omega)); have F6 := hid fin6; clear fin6 g6 hl5 ho5 hg5)))
  all_goals
    obtain ⟨h6, x6⟩ := HS3.out.gived (v := .slice A (y.s.giv (D, nm)).length cA) (v' := .slice A' ((y.s.giv (D, nm)).length + 1) c') HMY.out VC.out (by rw [HB2e.out]; exact b6.out) l6.out (fun g hg => (o6.out.lt g hg).2) (by rw [HB2e.out]; exact F6.out (⟨d, q, nm, 2, wh, ao, an, bo, bn⟩ : Crd) o6.out (fun g hg h1 h2 => b6.out.block g hg (fun h => h.elim h1 h2)) l6.out)
    go_wp2_with fail
    go_end0
    exact ⟨rfl, vF, _, by rw [HEQ.out]; exact h6, HXX.out.trans (x6.mono fun _ _ => trivial)⟩
end Go.Proofs.YtoajckhnneagnaaDoor.Sh
namespace Go.Proofs.YtoajckhnneagnaaDoor.Sh
open Go Go.RowKit
open Go.Maps (Keyed)

set_option linter.unusedVariables false
set_option linter.unusedSimpArgs false
set_option maxHeartbeats 16000000 in
set_option maxRecDepth 100000 in
theorem ctake3_any {L : Ly} {vF vL : Value} {col : Col} {x : Sx} {w : World} (h : Sea L w vF vL col x) (c : Crd) (hc : mayC c = true) (hkd : c.kd = 3) (hic : x.s.ic ≤ 10000000000) (hkn : x.s.kn.length ≤ 10000000000) (hfr : x.s.fr.length ≤ 10000000000) :
    Calls Tryd.prog 44 #[.pointer (some ⟨L.sb, 0, none⟩), .agg c.cells.toArray] w fun e w' => e = .returned (.tuple #[]) ∧ ∃ vF' col', Sea L w' vF' vL col' { x with s := x.s.take L.pe c } ∧ Ext (fun _ => True) w w' col col' := by
  obtain ⟨d, q, nm, kd, wh, ao, an, bo, bn⟩ := c
  obtain ⟨sb, hsb⟩ : ∃ sb, L.sb = sb := ⟨_, rfl⟩
  obtain ⟨b2, hb2⟩ : ∃ b2, L.b2 = b2 := ⟨_, rfl⟩
  simp only at hkd
  subst hkd
  have h0 := may_head hc
  have HOC := hid (okC_of hc)
  have HR0 := hid (fun W => roleC_any ⟨d, q, nm, 3, wh, ao, an, bo, bn⟩ (by have := h0.1; omega) (by have := h0; omega) W)
  simp only at HR0
  obtain ⟨D, hD⟩ : ∃ D, domB d = D := ⟨_, rfl⟩
  have HOR : Hid (okR (D, nm)) := hid ⟨by rw [← hD]; exact ok_dom d, HOC.out.1⟩
  have HRL : Hid (roleOf ⟨d, q, nm, 3, wh, ao, an, bo, bn⟩ = (D, nm)) := hid (by unfold roleOf; rw [hD])
  have HFL : Hid (firstOf ⟨d, q, nm, 3, wh, ao, an, bo, bn⟩ = (D, an)) := hid (by unfold firstOf; rw [hD])
  rw [hD] at HR0
  obtain ⟨w1, hw1⟩ : ∃ w1, w1 = w.alloc (.cells (Crd.cells ⟨d, q, nm, 3, wh, ao, an, bo, bn⟩).toArray 55) := ⟨_, rfl⟩
  have HQ1 : Hid (Below w.heap.size w w1) := hid (by rw [hw1]; exact (Below.refl _ _).alloc (Nat.le_refl _) _)
  have HR1 : Hid (CrAt w1 w.heap.size ⟨d, q, nm, 3, wh, ao, an, bo, bn⟩) := hid (by rw [hw1]; exact CrAt.new w _)
  have HH := hid h
  have HMY := hid hc
  have HSB := hid hsb
  have HB2e := hid hb2
  have HAS := hid (fun W vF vL col y (hS : Sea L W vF vL col y) (hy : y.s.ic ≤ 100000000000) => by
    have := cask_any hS (D, an) ⟨HOR.out.1, HOC.out.2.2.2.1⟩ ⟨d, q, nm, 3, wh, ao, an, bo, bn⟩ hc hy
    rw [hsb] at this
    unfold Crd.cells at this
    simp only at this
    exact this)
  have HIC0 : Hid (x.s.ic ≤ 100000000000) := hid (by omega)
  have HG1 : Hid True := hid trivial
  have HIC1 : Hid (x.s.ic + 1 ≤ 100000000000) := hid (by omega)
  have HIC2 : Hid (x.s.ic + 2 ≤ 100000000000) := hid (by omega)
  rw [hsb]
  clear h hc hD h0 hsb hb2 hic hkn hfr
  unfold Crd.cells at hw1 HR0 ⊢
  simp only at hw1 HR0 ⊢
  go_enter Tryd.func44, Tryd.ntmps44
  go_wp2_with fail
  rw [← hw1]
  clear hw1
  go_wp2_with (first
    | (go_at_call 58; (refine (HR0.out _).mono ?_); rintro er w2 ⟨rfl, bb⟩; have HB2 := hid (HQ1.out.trans (bb.mono HQ1.out.size)); have HC2 := hid (CrAt.kept (HR1.out.kept bb) ((Below.refl w2.heap.size w2).alloc (Nat.le_refl _) (.cells #[.string D, .string nm] 24))); have HRA := hid (RoleAt.new w2 D nm); (obtain ⟨a0, a1, a2, a3, a4, a5, a6, a7, a8⟩ := HC2.out.all); have a9 := HRA.out.c0; have a10 := HRA.out.c1; have n3 : w2.heap.size ≠ w.heap.size := (by have := HB2.out.size; have := HR1.out.lt; have := bb.size; omega); clear bb)
    | (go_at_call 67; (refine (HAS.out _ _ _ _ _ (HH.out.below (HB2.out.alloc HB2.out.size (.cells #[.string D, .string nm] 24))) HIC0.out).mono ?_); rintro er w3 ⟨rfl, col3, hs3, hx3⟩; have HS3 := hid hs3; have HX3 := hid hx3; clear hs3 hx3))
  obtain ⟨y, hy⟩ : ∃ y, y = { x with s := x.s.toAsk (D, an) ⟨d, q, nm, 3, wh, ao, an, bo, bn⟩ } := ⟨_, rfl⟩
  rw [← hy] at HS3
  have HB3 : Hid (Below w.heap.size w (w2.alloc (.cells #[.string D, .string nm] 24))) := hid (HB2.out.alloc HB2.out.size _)
  have HXX : Hid (Ext (fun _ => True) w w3 col col3) := hid ((Ext.of_below (fun _ => True) col HB3.out).trans (HX3.out.mono fun _ _ => trivial))
  have f1 : col w.heap.size = none := HH.out.free (Nat.le_refl _)
  have f2 : col w2.heap.size = none := HH.out.free HB2.out.size
  have c3 : CrAt w3 w.heap.size ⟨d, q, nm, 3, wh, ao, an, bo, bn⟩ := (HX3.out.free HC2.out.lt f1).trans HC2.out
  have r3 : RoleAt w3 w2.heap.size D nm := (HX3.out.free HRA.out.lt f2).trans HRA.out
  have HEQ : Hid (({ x with s := x.s.take L.pe ⟨d, q, nm, 3, wh, ao, an, bo, bn⟩ } : Sx) = { y with s := y.s.toGiv (D, nm) ⟨d, q, nm, 3, wh, ao, an, bo, bn⟩ }) := hid (by rw [hy, ← HRL.out]; rw [take_3 rfl, HFL.out])
  have HIC : Hid (y.s.ic ≤ 100000000000) := hid (by rw [hy]; exact HIC1.out)
  have HGS : Hid (∀ g ∈ [sb, w2.heap.size, w.heap.size], g < w3.heap.size ∧ (col3 g = some (0, .nil) ∨ col3 g = none)) := hid (fun g hg => by
    simp only [List.mem_cons, List.not_mem_nil, or_false] at hg
    rcases hg with rfl | rfl | rfl
    · exact ⟨by rw [← HSB.out]; exact HS3.out.lt, .inl (by rw [← HSB.out]; exact HS3.out.csb)⟩
    · exact ⟨r3.lt, .inr ((HX3.out.col _ HRA.out.lt).trans f2)⟩
    · exact ⟨c3.lt, .inr ((HX3.out.col _ HC2.out.lt).trans f1)⟩)
  have HKS : Hid (∀ W, Kp [sb, w2.heap.size, w.heap.size] w3 W → (fun w' => w'.cell? ⟨sb, 18, none⟩ = some (.map (some b2)) ∧ w'.cell? ⟨w2.heap.size, 0, none⟩ = some (.string D) ∧ w'.cell? ⟨w2.heap.size, 1, none⟩ = some (.string nm) ∧ w'.cell? ⟨w.heap.size, 0, none⟩ = some (.int .i64 d) ∧ w'.cell? ⟨w.heap.size, 1, none⟩ = some (.int .i64 q) ∧ w'.cell? ⟨w.heap.size, 2, none⟩ = some (.string nm) ∧ w'.cell? ⟨w.heap.size, 3, none⟩ = some (.int .i64 3) ∧ w'.cell? ⟨w.heap.size, 4, none⟩ = some (.string wh) ∧ w'.cell? ⟨w.heap.size, 5, none⟩ = some (.string ao) ∧ w'.cell? ⟨w.heap.size, 6, none⟩ = some (.string an) ∧ w'.cell? ⟨w.heap.size, 7, none⟩ = some (.string bo) ∧ w'.cell? ⟨w.heap.size, 8, none⟩ = some (.string bn)) W) := hid (fun W hW => ⟨by rw [cell_of_row W sb 18 _ _ (0, 0) ((hW sb (by simp)).trans (by rw [← HSB.out]; exact HS3.out.row)), ← HB2e.out]; rfl, by rw [cell_of_row W w2.heap.size 0 _ _ (0, 0) ((hW w2.heap.size (by simp)).trans r3)]; rfl, by rw [cell_of_row W w2.heap.size 1 _ _ (0, 0) ((hW w2.heap.size (by simp)).trans r3)]; rfl, by rw [cell_of_row W (w.heap.size) 0 _ _ (0, 0) ((hW w.heap.size (by simp)).trans c3)]; rfl, by rw [cell_of_row W (w.heap.size) 1 _ _ (0, 0) ((hW w.heap.size (by simp)).trans c3)]; rfl, by rw [cell_of_row W (w.heap.size) 2 _ _ (0, 0) ((hW w.heap.size (by simp)).trans c3)]; rfl, by rw [cell_of_row W (w.heap.size) 3 _ _ (0, 0) ((hW w.heap.size (by simp)).trans c3)]; rfl, by rw [cell_of_row W (w.heap.size) 4 _ _ (0, 0) ((hW w.heap.size (by simp)).trans c3)]; rfl, by rw [cell_of_row W (w.heap.size) 5 _ _ (0, 0) ((hW w.heap.size (by simp)).trans c3)]; rfl, by rw [cell_of_row W (w.heap.size) 6 _ _ (0, 0) ((hW w.heap.size (by simp)).trans c3)]; rfl, by rw [cell_of_row W (w.heap.size) 7 _ _ (0, 0) ((hW w.heap.size (by simp)).trans c3)]; rfl, by rw [cell_of_row W (w.heap.size) 8 _ _ (0, 0) ((hW w.heap.size (by simp)).trans c3)]; rfl⟩)
  clear hy f1 f2 c3 r3
  try clear a0 a1 a2 a3 a4 a5 a6 a7 a8
  try clear a9 a10 n3
  obtain ⟨v, ho, hvl, hvc, hent⟩ := HS3.out.giv.entry kr_inj klR Tryd.underlying63 ch_z22 (by have := HIC.out; unfold maxLen; omega) (k := (D, nm)) HOR.out (keyR HOR.out)
  unfold rV at hent
  simp only at hent
  obtain ⟨A, cA, rfl, -, -, -⟩ := ho.els
  rw [HB2e.out] at hent
  have hcb : col3 b2 = some (1, .nil) := by rw [← HB2e.out]; exact HS3.out.c2
  have hbl : b2 < w3.heap.size := HS3.out.dom _ _ hcb
  have hgs : ∀ g ∈ [sb, w2.heap.size, w.heap.size], g < w3.heap.size ∧ g ≠ b2 ∧ some g ≠ (Value.slice A (y.s.giv (D, nm)).length cA).ownBlock := fun g hg => by
    obtain ⟨q1, q2⟩ := HGS.out g hg
    refine ⟨q1, fun e => ?_, fun e => ?_⟩
    · rcases q2 with q2 | q2
      · rw [e, hcb] at q2; cases q2
      · rw [e, hcb] at q2; cases q2
    · have q3 := hvc _ e.symm
      rcases q2 with q2 | q2
      · rw [q3] at q2; cases q2
      · rw [q3] at q2; cases q2
  have hvb : ∀ g, (Value.slice A (y.s.giv (D, nm)).length cA).ownBlock = some g → g < w3.heap.size ∧ g ≠ b2 := fun g hg => ⟨(ho.lt g hg).2, fun e => by have h1 := hvc g hg; rw [e, hcb] at h1; simp at h1⟩
  obtain ⟨st1, u1, run1, g1, z1, fin1⟩ := hent w3.drew rfl
  obtain ⟨st2, u2, run2, g2, z2, fin2⟩ := hent (w3.alloc (.cells #[.int .i64 d, .int .i64 q, .string nm, .int .i64 3, .string wh, .string ao, .string an, .string bo, .string bn] 55)).drew ((MapKept.heap_alloc w3 _).2 _ hbl)
  have zX : (w3.alloc (.cells #[.int .i64 d, .int .i64 q, .string nm, .int .i64 3, .string wh, .string ao, .string an, .string bo, .string bn] 55)).drew.heap.size = w3.heap.size + 1 := by simp
  have zD : w3.drew.heap.size = w3.heap.size := rfl
  have kpD := hid ((Kp.refl [sb, w2.heap.size, w.heap.size] w3).drew)
  have kpA := hid (((Kp.refl [sb, w2.heap.size, w.heap.size] w3).alloc (fun g hg => (hgs g hg).1) (.cells #[.int .i64 d, .int .i64 q, .string nm, .int .i64 3, .string wh, .string ao, .string an, .string bo, .string bn] 55)).drew)
  have kp1 := hid (kpD.out.grown g1 (fun g hg => (hgs g hg).1) (fun g hg => by simp only [ne_eq, Option.some.injEq]; exact (hgs g hg).2.1))
  have kp1a := hid (kp1.out.alloc (fun g hg => by have := (hgs g hg).1; omega) (.cells #[.int .i64 d, .int .i64 q, .string nm, .int .i64 3, .string wh, .string ao, .string an, .string bo, .string bn] 55))
  have kp2 := hid (kpA.out.grown g2 (fun g hg => by have := (hgs g hg).1; omega) (fun g hg => by simp only [ne_eq, Option.some.injEq]; exact (hgs g hg).2.1))
  have oA := hid ((Own.kept ho (w' := u1) fun g hg => g1.block g (hvb g hg).1 (by simp only [ne_eq, Option.some.injEq]; exact (hvb g hg).2)).alloc (.cells #[.int .i64 d, .int .i64 q, .string nm, .int .i64 3, .string wh, .string ao, .string an, .string bo, .string bn] 55))
  have oB := hid (Own.kept ho (w' := u2) fun g hg => (g2.block g (by have := (hvb g hg).1; omega) (by simp only [ne_eq, Option.some.injEq]; exact (hvb g hg).2)).trans ((MapKept.heap_alloc w3 _).2 g (hvb g hg).1))
  have rA := hid (reads_new u1 #[.int .i64 d, .int .i64 q, .string nm, .int .i64 3, .string wh, .string ao, .string an, .string bo, .string bn] 55 (0, 0))
  have rB := hid ((reads_newd w3 #[.int .i64 d, .int .i64 q, .string nm, .int .i64 3, .string wh, .string ao, .string an, .string bo, .string bn] 55 (0, 0)).grown g2 (fun ad e => by cases e; exact ⟨by simp, by simp only [ne_eq, Option.some.injEq]; omega⟩))
  have bA := hid ((((But.refl (fun g => g = b2 ∨ some g = (Value.slice A (y.s.giv (D, nm)).length cA).ownBlock) w3).drew).then_grown g1 (fun g e => .inr (.inl (Option.some.inj e).symm))).alloc (.cells #[.int .i64 d, .int .i64 q, .string nm, .int .i64 3, .string wh, .string ao, .string an, .string bo, .string bn] 55))
  have bB := hid ((((But.refl (fun g => g = b2 ∨ some g = (Value.slice A (y.s.giv (D, nm)).length cA).ownBlock) w3).alloc (.cells #[.int .i64 d, .int .i64 q, .string nm, .int .i64 3, .string wh, .string ao, .string an, .string bo, .string bn] 55)).drew).then_grown g2 (fun g e => .inr (.inl (Option.some.inj e).symm)))
  have FA := hid fin1
  have FB := hid fin2
  have GS := hid hgs
  have VB := hid hvb
  have Z1 : Hid (u1.heap.size = w3.heap.size ∧ u2.heap.size = w3.heap.size + 1 ∧ (u1.alloc (.cells #[.int .i64 d, .int .i64 q, .string nm, .int .i64 3, .string wh, .string ao, .string an, .string bo, .string bn] 55)).heap.size = w3.heap.size + 1 ∧ b2 < w3.heap.size) := hid ⟨by omega, by omega, by simp; omega, hbl⟩
  have FBW : Hid (u1.heap[b2]? = (u1.alloc (.cells #[.int .i64 d, .int .i64 q, .string nm, .int .i64 3, .string wh, .string ao, .string an, .string bo, .string bn] 55)).heap[b2]?) := hid ((MapKept.heap_alloc u1 _).2 _ (by omega)).symm
  have VC := hid hvc
  have hbB : L.B ≤ w3.heap.size := HS3.out.base
  have hll : (y.s.giv (D, nm)).length ≤ 1000000000000 := by have := HIC.out; omega
  clear fin1 fin2 g1 g2 ho hvc hvl hent hvb hgs zX zD hbl hcb
  go_region_held3 (fun w' => w'.cell? ⟨sb, 18, none⟩ = some (.map (some b2)) ∧ w'.cell? ⟨w2.heap.size, 0, none⟩ = some (.string D) ∧ w'.cell? ⟨w2.heap.size, 1, none⟩ = some (.string nm) ∧ w'.cell? ⟨w.heap.size, 0, none⟩ = some (.int .i64 d) ∧ w'.cell? ⟨w.heap.size, 1, none⟩ = some (.int .i64 q) ∧ w'.cell? ⟨w.heap.size, 2, none⟩ = some (.string nm) ∧ w'.cell? ⟨w.heap.size, 3, none⟩ = some (.int .i64 3) ∧ w'.cell? ⟨w.heap.size, 4, none⟩ = some (.string wh) ∧ w'.cell? ⟨w.heap.size, 5, none⟩ = some (.string ao) ∧ w'.cell? ⟨w.heap.size, 6, none⟩ = some (.string an) ∧ w'.cell? ⟨w.heap.size, 7, none⟩ = some (.string bo) ∧ w'.cell? ⟨w.heap.size, 8, none⟩ = some (.string bn))
    (first | exact HKS.out _ kpD.out | exact HKS.out _ kpA.out | exact HKS.out _ kp1.out | exact HKS.out _ kp1a.out | exact HKS.out _ kp2.out | exact HKS.out _ kp5.out | exact HKS.out _ kp6.out)
    ((first | (refine step_appW (E := encC) (by rfl) slC (.tmp 60) (.tmp 62) (by rfl) (B := L.B) (v := .slice A (y.s.giv (D, nm)).length cA) (l := y.s.giv (D, nm)) oA.out (by rfl) (ad := ⟨u1.heap.size, 0, none⟩) (c := 1) (⟨d, q, nm, 3, wh, ao, an, bo, bn⟩ : Crd) (by rfl) rA.out hll (by omega) (by have := Z1.out; omega) ?_; intro A' c' w5 ho5 hg5 hl5; obtain ⟨w6, run6, g6, z6, fin6⟩ := FA.out w5 (.slice A' ((y.s.giv (D, nm)).length + 1) c') ((hg5.block b2 (by have := Z1.out; omega) (fun e => (VB.out b2 e.symm).2 rfl)).trans FBW.out.symm); have kp5 := hid (kp1a.out.grown hg5 (fun g hg => by have := (GS.out g hg).1; have := Z1.out; omega) (fun g hg => (GS.out g hg).2.2)); have kp6 := hid (kp5.out.grown g6 (fun g hg => by have := (GS.out g hg).1; have := Z1.out; have := hg5.size; omega) (fun g hg => by simp only [ne_eq, Option.some.injEq]; exact (GS.out g hg).2.1)); have b6 := hid ((bA.out.then_grown hg5 (fun g e => .inr (.inr e.symm))).then_grown g6 (fun g e => .inr (.inl (Option.some.inj e).symm))); have l6 := hid (loc_of (a := w3.heap.size) hl5 (by have := Z1.out; omega)); have o6 := hid (own_behind ho5 g6 l6.out (fun g e => (VB.out g e).2) (by have := Z1.out; omega)); have F6 := hid fin6; clear fin6 g6 hl5 ho5 hg5) | (refine step_appW (E := encC) (by rfl) slC (.tmp 60) (.tmp 62) (by rfl) (B := L.B) (v := .slice A (y.s.giv (D, nm)).length cA) (l := y.s.giv (D, nm)) oB.out (by rfl) (ad := ⟨w3.heap.size, 0, none⟩) (c := 1) (⟨d, q, nm, 3, wh, ao, an, bo, bn⟩ : Crd) (by rfl) rB.out hll (by omega) (by have := Z1.out; omega) ?_; intro A' c' w5 ho5 hg5 hl5; obtain ⟨w6, run6, g6, z6, fin6⟩ := FB.out w5 (.slice A' ((y.s.giv (D, nm)).length + 1) c') ((hg5.block b2 (by have := Z1.out; omega) (fun e => (VB.out b2 e.symm).2 rfl))); have kp5 := hid (kp2.out.grown hg5 (fun g hg => by have := (GS.out g hg).1; have := Z1.out; omega) (fun g hg => (GS.out g hg).2.2)); have kp6 := hid (kp5.out.grown g6 (fun g hg => by have := (GS.out g hg).1; have := Z1.out; have := hg5.size; omega) (fun g hg => by simp only [ne_eq, Option.some.injEq]; exact (GS.out g hg).2.1)); have b6 := hid ((bB.out.then_grown hg5 (fun g e => .inr (.inr e.symm))).then_grown g6 (fun g e => .inr (.inl (Option.some.inj e).symm))); have l6 := hid (loc_of (a := w3.heap.size) hl5 (by have := Z1.out; omega)); have o6 := hid (own_behind ho5 g6 l6.out (fun g e => (VB.out g e).2) (by have := Z1.out; omega)); have F6 := hid fin6; clear fin6 g6 hl5 ho5 hg5)))
  all_goals
    obtain ⟨h6, x6⟩ := HS3.out.gived (v := .slice A (y.s.giv (D, nm)).length cA) (v' := .slice A' ((y.s.giv (D, nm)).length + 1) c') HMY.out VC.out (by rw [HB2e.out]; exact b6.out) l6.out (fun g hg => (o6.out.lt g hg).2) (by rw [HB2e.out]; exact F6.out (⟨d, q, nm, 3, wh, ao, an, bo, bn⟩ : Crd) o6.out (fun g hg h1 h2 => b6.out.block g hg (fun h => h.elim h1 h2)) l6.out)
    go_wp2_with fail
    go_end0
    exact ⟨rfl, vF, _, by rw [HEQ.out]; exact h6, HXX.out.trans (x6.mono fun _ _ => trivial)⟩
end Go.Proofs.YtoajckhnneagnaaDoor.Sh
