/-
  IDs in blocks of their own; their order; the document's own Before.
-/
import Derived.Test.YtcligogmmjdobaaGreatDoorJp8
import Derived.Test.YtcligogmmjdobaaGreatDoorJp12
import Derived.Test.YtcligogmmjdobaaGreatDoorJp10
set_option linter.unusedVariables false
set_option linter.unusedSimpArgs false
namespace Go.Proofs.YtcligogmmjdobaaGreatDoor.Sh
open Go Go.RowKit

/-- An ID in a block of its own. -/
def IdAt (w : World) (g : Nat) (d q : Int) : Prop := w.heap[g]? = some (.cells #[.int .i64 d, .int .i64 q] 43 (0, 0))
theorem IdAt.new (w : World) (d q : Int) : IdAt (w.alloc (.cells #[.int .i64 d, .int .i64 q] 43)) w.heap.size d q := heap_alloc_new w _
theorem IdAt.c0 {w : World} {g : Nat} {d q : Int} (h : IdAt w g d q) : w.cell? ⟨g, 0, none⟩ = some (.int .i64 d) := by rw [cell_of_row w g 0 _ _ (0, 0) h]; rfl
theorem IdAt.c1 {w : World} {g : Nat} {d q : Int} (h : IdAt w g d q) : w.cell? ⟨g, 1, none⟩ = some (.int .i64 q) := by rw [cell_of_row w g 1 _ _ (0, 0) h]; rfl
theorem IdAt.lt {w : World} {g : Nat} {d q : Int} (h : IdAt w g d q) : g < w.heap.size := (Array.getElem?_eq_some_iff.1 h).1
theorem IdAt.kept {w w' : World} {g : Nat} {d q : Int} (h : IdAt w g d q) (hb : Below w.heap.size w w') : IdAt w' g d q := (hb.block g h.lt).trans h
theorem below_id (w : World) (d q : Int) : Below w.heap.size w (w.alloc (.cells #[.int .i64 d, .int .i64 q] 43)) := (Below.refl _ _).alloc (Nat.le_refl _) _
theorem below_id2 (w : World) (d q d' q' : Int) : Below w.heap.size w ((w.alloc (.cells #[.int .i64 d, .int .i64 q] 43)).alloc (.cells #[.int .i64 d', .int .i64 q'] 43)) :=
  (below_id w d q).trans ((below_id _ d' q').mono (by rw [World.size_alloc]; exact Nat.le_succ _))
/-- The order of IDs. -/
def beforeI (d q d' q' : Int) : Bool := decide (d < d' ∨ (d = d' ∧ q < q'))
theorem beforeI_trans {d q d' q' d'' q'' : Int} (h1 : beforeI d q d' q' = true) (h2 : beforeI d' q' d'' q'' = true) : beforeI d q d'' q'' = true := by
  unfold beforeI at *
  simp only [decide_eq_true_eq] at *
  omega
theorem refBefore_any (d q d' q' : Int) (w : World) : Calls Tryz.prog 61 #[.agg #[.int .i64 d, .int .i64 q], .agg #[.int .i64 d', .int .i64 q']] w fun er w' => er = .returned (.bool (beforeI d q d' q')) ∧ Below w.heap.size w w' := by
  by_cases h : d = d'
  · subst h
    have hb : (d == d) = true := by simp
    by_cases hq : q < q'
    · have HE : Hid (beforeI d q d q' = true) := hid (by unfold beforeI; simp; omega)
      go_enter Tryz.func61, Tryz.ntmps61
      go_wp2
      go_ret
      exact ⟨by rw [HE.out]; rfl, below_id2 _ _ _ _ _⟩
    · have HE : Hid (beforeI d q d q' = false) := hid (by unfold beforeI; simp; omega)
      go_enter Tryz.func61, Tryz.ntmps61
      go_wp2
      go_ret
      exact ⟨by rw [HE.out]; rfl, below_id2 _ _ _ _ _⟩
  · have hb : (d == d') = false := beq_eq_false_iff_ne.2 h
    by_cases hq : d < d'
    · have HE : Hid (beforeI d q d' q' = true) := hid (by unfold beforeI; simp; omega)
      go_enter Tryz.func61, Tryz.ntmps61
      go_wp2
      go_ret
      exact ⟨by rw [HE.out]; rfl, below_id2 _ _ _ _ _⟩
    · have HE : Hid (beforeI d q d' q' = false) := hid (by unfold beforeI; simp; omega)
      go_enter Tryz.func61, Tryz.ntmps61
      go_wp2
      go_ret
      exact ⟨by rw [HE.out]; rfl, below_id2 _ _ _ _ _⟩

end Go.Proofs.YtcligogmmjdobaaGreatDoor.Sh
/-
  The program's own May, Role and Before, by contract.
-/
namespace Go.Proofs.YtcligogmmjdobaaGreatDoor.Sh
open Go Go.RowKit

theorem mayC_parts (c : Crd) : mayC c = ((decide (1 ≤ c.d ∧ c.d ≤ 16) && decide (1 ≤ c.q ∧ c.q ≤ 4000)) && mayL c.nm.data.toList && kindOk c) := by
  unfold mayC headOk mayB
  have h : decide (1 ≤ c.d ∧ c.d ≤ 16 ∧ 1 ≤ c.q ∧ c.q ≤ 4000) = (decide (1 ≤ c.d ∧ c.d ≤ 16) && decide (1 ≤ c.q ∧ c.q ≤ 4000)) := by
    rw [Bool.eq_iff_iff]; simp only [decide_eq_true_eq, Bool.and_eq_true]; omega
  rw [h]
set_option maxHeartbeats 2000000 in
theorem mayC_any (c : Crd) (w : World) : Calls Tryz.prog 62 #[.agg c.cells.toArray] w fun e w' => e = .returned (.bool (mayC c)) ∧ Below w.heap.size w w' := by
  have HMC := hid (mayC_parts c)
  obtain ⟨w0, hw0⟩ : ∃ w0, w0 = w.alloc (.cells c.cells.toArray 66) := ⟨_, rfl⟩
  have HR0 : Hid (CrAt w0 w.heap.size c) := hid (by rw [hw0]; exact CrAt.new w c)
  have HB0 : Hid (Below w.heap.size w w0) := hid (by rw [hw0]; exact below_cr w c)
  have HFL := hid (fun w => filled_any c w)
  obtain ⟨d, q, nm, kd, wh, ao, an, bo, bn⟩ := c
  have H1 := hid (fun w => between_any d 16 w)
  have H2 := hid (fun w => between_any q 4000 w)
  have H3 := hid (fun w => may_any nm w)
  simp only at HMC
  obtain ⟨B1, hB1⟩ : ∃ B, decide (1 ≤ d ∧ d ≤ 16) = B := ⟨_, rfl⟩
  obtain ⟨B2, hB2⟩ : ∃ B, decide (1 ≤ q ∧ q ≤ 4000) = B := ⟨_, rfl⟩
  obtain ⟨B3, hB3⟩ : ∃ B, mayL nm.data.toList = B := ⟨_, rfl⟩
  obtain ⟨B4, hB4⟩ : ∃ B, kindOk ⟨d, q, nm, kd, wh, ao, an, bo, bn⟩ = B := ⟨_, rfl⟩
  rw [hB1] at H1 HMC
  rw [hB2] at H2 HMC
  rw [hB3] at H3 HMC
  rw [hB4] at HFL HMC
  clear hB1 hB2 hB3 hB4
  unfold Crd.cells at hw0 HFL ⊢
  simp only at hw0 HFL ⊢
  obtain ⟨c0, c1, c2, c3, c4, c5, c6, c7, c8⟩ := HR0.out.all
  go_enter Tryz.func62, Tryz.ntmps62
  rw [hw0] at c0 c1 c2 c3 c4 c5 c6 c7 c8
  go_wp2_with fail
  rw [← hw0] at c0 c1 c2 c3 c4 c5 c6 c7 c8 ⊢
  clear hw0
  refine (H1.out _).mono ?_
  rintro er w1 ⟨rfl, rfl⟩
  cases B1 with
  | false =>
    have HF : Hid (mayC ⟨d, q, nm, kd, wh, ao, an, bo, bn⟩ = false) := hid (by rw [HMC.out]; simp)
    go_wp2
    go_ret
    exact ⟨by rw [HF.out]; rfl, HB0.out⟩
  | true =>
  go_wp2_with fail
  refine (H2.out _).mono ?_
  rintro er w1 ⟨rfl, rfl⟩
  cases B2 with
  | false =>
    have HF : Hid (mayC ⟨d, q, nm, kd, wh, ao, an, bo, bn⟩ = false) := hid (by rw [HMC.out]; simp)
    go_wp2
    go_ret
    exact ⟨by rw [HF.out]; rfl, HB0.out⟩
  | true =>
  go_wp2_with fail
  refine (H3.out _).mono ?_
  rintro er w1 ⟨rfl, bb⟩
  have HR1 := hid (HR0.out.kept bb)
  have HB1 := hid (HB0.out.trans (bb.mono HB0.out.size))
  clear bb c0 c1 c2 c3 c4 c5 c6 c7 c8
  obtain ⟨c0, c1, c2, c3, c4, c5, c6, c7, c8⟩ := HR1.out.all
  cases B3 with
  | false =>
    have HF : Hid (mayC ⟨d, q, nm, kd, wh, ao, an, bo, bn⟩ = false) := hid (by rw [HMC.out]; simp)
    go_wp2
    go_ret
    exact ⟨by rw [HF.out]; rfl, HB1.out⟩
  | true =>
  have HF : Hid (mayC ⟨d, q, nm, kd, wh, ao, an, bo, bn⟩ = B4) := hid (by rw [HMC.out]; simp)
  go_wp2_with fail
  refine (HFL.out _).mono ?_
  rintro er w2 ⟨rfl, bb⟩
  have HB2 := hid (HB1.out.trans (bb.mono HB1.out.size))
  clear bb c0 c1 c2 c3 c4 c5 c6 c7 c8
  go_wp2
  go_ret
  exact ⟨by rw [HF.out]; rfl, HB2.out⟩

set_option maxHeartbeats 2000000 in
theorem roleC_any (c : Crd) (h0 : -9223372036854775808 ≤ c.d) (h1 : c.d < 9223372036854775808) (w : World) :
    Calls Tryz.prog 66 #[.agg c.cells.toArray] w fun e w' => e = .returned (.agg #[.string (domB c.d), .string c.nm]) ∧ Below w.heap.size w w' := by
  obtain ⟨d, q, nm, kd, wh, ao, an, bo, bn⟩ := c
  simp only at h0 h1 ⊢
  obtain ⟨D, hD⟩ : ∃ D, domB d = D := ⟨_, rfl⟩
  have HD0 : Hid (∀ w, Calls Tryz.prog 44 #[.int .i64 d] w fun e w' => e = .returned (.string D) ∧ Below w.heap.size w w') := hid (fun w => by rw [← hD]; exact domain_any d h0 h1 w)
  rw [hD]
  clear hD
  obtain ⟨w1, hw1⟩ : ∃ w1, w1 = (w.alloc (.cells (Crd.cells ⟨d, q, nm, kd, wh, ao, an, bo, bn⟩).toArray 66)).alloc (.cells #[.string ⟨#[]⟩, .string ⟨#[]⟩] 33) := ⟨_, rfl⟩
  obtain ⟨r1, s1, b1⟩ : Fl w w1 ⟨d, q, nm, kd, wh, ao, an, bo, bn⟩ := by rw [hw1]; exact Fl.new w _
  unfold Crd.cells at hw1 ⊢
  simp only at hw1 ⊢
  go_enter Tryz.func66, Tryz.ntmps66
  go_wp2_with fail
  rw [← hw1]
  clear hw1
  have HK := hid (fun W (hW : Below w1.heap.size w1 W) => (⟨(r1.kept hW).cell 0 _ rfl, (r1.kept hW).cell 2 _ rfl, (s1.kept hW).c0, (s1.kept hW).c1, (s1.kept hW).f 0, (s1.kept hW).f 1⟩ :
    W.cell? ⟨w.heap.size, 0, none⟩ = some (.int .i64 d) ∧ W.cell? ⟨w.heap.size, 2, none⟩ = some (.string nm) ∧ W.cell? ⟨w.heap.size + 1, 0, none⟩ = some (.string ⟨#[]⟩) ∧ W.cell? ⟨w.heap.size + 1, 1, none⟩ = some (.string ⟨#[]⟩) ∧ W.frozen? ⟨w.heap.size + 1, 0, none⟩ = false ∧ W.frozen? ⟨w.heap.size + 1, 1, none⟩ = false))
  have HS := hid (fun W (hW : Below w1.heap.size w1 W) => s1.kept hW)
  have HD := hid (Below.refl w1.heap.size w1).drew
  have H0 := hid b1
  clear r1 s1 b1
  obtain ⟨k1, k2, k3, k4, k5, k6⟩ := HK.out _ (Below.refl _ _)
  go_region_with ((go_at_call 44; (refine (HD0.out _).mono ?_); rintro er w5 ⟨rfl, bb⟩; have B1 := hid (kept_trans HD.out HD.out.size bb); (obtain ⟨j1, j2, j3, j4, j5, j6⟩ := HK.out _ B1.out); clear bb))
  all_goals
    go_wp2
    refine bodyPost_ret (results_mid (h := Tryz.results66) _ _ (w.heap.size + 1) 0 [.string D, .string nm] _ rfl (range_row (pair_set (HS.out _ B1.out))) Tryz.underlying33 rfl info_role) rfl
      ⟨rfl, ((H0.out.trans (B1.out.mono H0.out.size)).setCell (Nat.le_succ _) _).setCell (Nat.le_succ _) _⟩

theorem before_any (d q d' q' : Int) (w : World) : Calls Tryz.prog 103 #[.agg #[.int .i64 d, .int .i64 q], .agg #[.int .i64 d', .int .i64 q']] w fun er w' => er = .returned (.bool (beforeI d q d' q')) ∧ Below w.heap.size w w' := by
  by_cases h : d = d'
  · subst h
    have hb : (d == d) = true := by simp
    by_cases hq : q < q'
    · have HE : Hid (beforeI d q d q' = true) := hid (by unfold beforeI; simp; omega)
      go_enter Tryz.func103, Tryz.ntmps103
      go_wp2
      go_ret
      exact ⟨by rw [HE.out]; rfl, below_id2 _ _ _ _ _⟩
    · have HE : Hid (beforeI d q d q' = false) := hid (by unfold beforeI; simp; omega)
      go_enter Tryz.func103, Tryz.ntmps103
      go_wp2
      go_ret
      exact ⟨by rw [HE.out]; rfl, below_id2 _ _ _ _ _⟩
  · have hb : (d == d') = false := beq_eq_false_iff_ne.2 h
    by_cases hq : d < d'
    · have HE : Hid (beforeI d q d' q' = true) := hid (by unfold beforeI; simp; omega)
      go_enter Tryz.func103, Tryz.ntmps103
      go_wp2
      go_ret
      exact ⟨by rw [HE.out]; rfl, below_id2 _ _ _ _ _⟩
    · have HE : Hid (beforeI d q d' q' = false) := hid (by unfold beforeI; simp; omega)
      go_enter Tryz.func103, Tryz.ntmps103
      go_wp2
      go_ret
      exact ⟨by rw [HE.out]; rfl, below_id2 _ _ _ _ _⟩

end Go.Proofs.YtcligogmmjdobaaGreatDoor.Sh
/-
  The program's knows and add, by contract.
-/
namespace Go.Proofs.YtcligogmmjdobaaGreatDoor.Sh
open Go Go.RowKit
open Go.Maps (Keyed)

theorem so_z74 (w : World) : (zeroValue 91).run Tryz.prog w = .ok (.agg #[]) w := by kernel_rfl
section
variable {B sb b0 b1 b2 b3 b4 : Nat} {vF : Value} {col : Col} {s : St} {w : World}
/-- 'p is known?' at the operation. -/
theorem Sol.look (h : Sol w B sb b0 b1 b2 b3 b4 vF col s) {p : Pr} (hp : okP p) : (Instr.lookup 58 (.map (some b4)) (pV p) true).run Tryz.prog w = .ok (.tuple #[.agg #[], .bool (decide (p ∈ s.kn))]) w := by
  obtain ⟨D, h1, h2, h3, h4⟩ := h.kn
  obtain ⟨v, ps, hrun, hv⟩ := h1.look_ok lawP Tryz.underlying58 (so_z74 w) (unitElem_mk (H := Unit)) (keyP hp)
  obtain ⟨rfl, _⟩ := unitElem_inv hv
  rw [hrun, h2 p hp]
end
set_option maxHeartbeats 4000000 in
theorem knows_any {B sb b0 b1 b2 b3 b4 : Nat} {vF : Value} {col : Col} {s : St} {w : World} (h : Sol w B sb b0 b1 b2 b3 b4 vF col s) (p : Pr) (hp : okP p) :
    Calls Tryz.prog 29 #[.pointer (some ⟨sb, 0, none⟩), .agg #[.string p.1.1, .string p.1.2, .string p.2]] w fun e w' => e = .returned (.bool (decide (p ∈ s.kn))) ∧ Below w.heap.size w w' := by
  obtain ⟨⟨o, n⟩, who⟩ := p
  obtain ⟨b, hb⟩ : ∃ b, decide (((o, n), who) ∈ s.kn) = b := ⟨_, rfl⟩
  obtain ⟨w1, hw1⟩ : ∃ w1, w1 = w.alloc (.cells #[.string o, .string n, .string who] 51) := ⟨_, rfl⟩
  have q1 : Below w.heap.size w w1 := by rw [hw1]; exact (Below.refl _ _).alloc (Nat.le_refl _) _
  have HS := hid (fun W (hW : Below w1.heap.size w1 W) => h.below (q1.trans (hW.mono q1.size)))
  have p0 : w1.heap[w.heap.size]? = some (.cells #[.string o, .string n, .string who] 51 (0, 0)) := by rw [hw1]; exact heap_alloc_new w _
  have hp1 : w.heap.size < w1.heap.size := (Array.getElem?_eq_some_iff.1 p0).1
  have HK := hid (fun W (hW : Below w1.heap.size w1 W) => (⟨(HS.out W hW).cell.2.2.2.2.1, by rw [cell_of_row W _ 0 _ _ (0, 0) ((hW.block _ hp1).trans p0)]; rfl, by rw [cell_of_row W _ 1 _ _ (0, 0) ((hW.block _ hp1).trans p0)]; rfl, by rw [cell_of_row W _ 2 _ _ (0, 0) ((hW.block _ hp1).trans p0)]; rfl,
      by have := (HS.out W hW).look hp; rw [hb] at this; exact this⟩ :
    W.cell? ⟨sb, 4, none⟩ = some (.map (some b4)) ∧ W.cell? ⟨w.heap.size, 0, none⟩ = some (.string o) ∧ W.cell? ⟨w.heap.size, 1, none⟩ = some (.string n) ∧ W.cell? ⟨w.heap.size, 2, none⟩ = some (.string who) ∧
      (Instr.lookup 58 (.map (some b4)) (.agg #[.string o, .string n, .string who]) true).run Tryz.prog W = .ok (.tuple #[.agg #[], .bool b]) W))
  have HQ := hid q1
  simp only at hb ⊢
  rw [hb]
  clear h hp p0 hp1 q1 hb
  go_enter Tryz.func29, Tryz.ntmps29
  go_wp2_with fail
  rw [← hw1]
  clear hw1
  obtain ⟨k1, k2, k3, k4, k5⟩ := HK.out _ (Below.refl _ _)
  go_region_held3 (fun w' => w'.cell? ⟨sb, 4, none⟩ = some (.map (some b4)) ∧ w'.cell? ⟨w.heap.size, 0, none⟩ = some (.string o) ∧ w'.cell? ⟨w.heap.size, 1, none⟩ = some (.string n) ∧ w'.cell? ⟨w.heap.size, 2, none⟩ = some (.string who) ∧
      (Instr.lookup 58 (.map (some b4)) (.agg #[.string o, .string n, .string who]) true).run Tryz.prog w' = .ok (.tuple #[.agg #[], .bool b]) w')
    (first | exact HK.out _ (Below.refl _ _).drew | exact HK.out _ ((Below.refl _ _).drew.alloc (Nat.le_refl _) _) | exact HK.out _ (((Below.refl _ _).drew.alloc (Nat.le_refl _) _).setCell (Nat.le_refl _) _)) (fail)
  all_goals
    go_wp2
    go_ret
    exact ⟨rfl, by first | exact (HQ.out.alloc HQ.out.size _).drew | exact HQ.out.alloc HQ.out.size _ | exact HQ.out.drew.alloc HQ.out.size _⟩
set_option maxHeartbeats 4000000 in
theorem add_any {B sb b0 b1 b2 b3 b4 : Nat} {vF : Value} {col : Col} {s : St} {w : World} (h : Sol w B sb b0 b1 b2 b3 b4 vF col s) (p : Pr) (hp : okP p) (hn : s.kn.length ≤ 100000000000) (hf : s.fr.length ≤ 100000000000) :
    Calls Tryz.prog 75 #[.pointer (some ⟨sb, 0, none⟩), .agg #[.string p.1.1, .string p.1.2, .string p.2]] w fun e w' => e = .returned (.tuple #[]) ∧ ∃ vF' col', Sol w' B sb b0 b1 b2 b3 b4 vF' col' (s.add p) ∧ Ext Ma w w' col col' := by
  obtain ⟨⟨o, n⟩, who⟩ := p
  obtain ⟨b, hb⟩ : ∃ b, decide (((o, n), who) ∈ s.kn) = b := ⟨_, rfl⟩
  have HC := hid (fun (W : World) (hW : Sol W B sb b0 b1 b2 b3 b4 vF col s) => by have := knows_any hW _ hp; rw [hb] at this; exact this)
  simp only at HC
  obtain ⟨w1, hw1⟩ : ∃ w1, w1 = w.alloc (.cells #[.string o, .string n, .string who] 51) := ⟨_, rfl⟩
  have q1 : Below w.heap.size w w1 := by rw [hw1]; exact (Below.refl _ _).alloc (Nat.le_refl _) _
  have s1 := h.below q1
  have p0 : w1.heap[w.heap.size]? = some (.cells #[.string o, .string n, .string who] 51 (0, 0)) := by rw [hw1]; exact heap_alloc_new w _
  have hp1 : w.heap.size < w1.heap.size := (Array.getElem?_eq_some_iff.1 p0).1
  have HB := hid hb
  have HP0 := hid p0
  have HS1 := hid s1
  have HQ1 := hid q1
  have HP := hid hp
  have HH := hid h
  clear h hp hb p0 q1 s1
  simp only
  cases b with
  | true =>
    go_enter Tryz.func75, Tryz.ntmps75
    go_wp2_with fail
    rw [← hw1]
    clear hw1
    go_wp2_with (go_at_call 29; (refine (HC.out _ HS1.out).mono ?_); rintro er w2 ⟨rfl, bb⟩)
    refine bodyPost_ret (results_none rfl _ _ _) rfl ?_
    exact ⟨rfl, vF, col, by rw [add_known (of_decide_eq_true HB.out)]; exact HS1.out.below bb, (Ext.of_below Ma col (HQ1.out.trans (bb.mono HQ1.out.size)))⟩
  | false =>
    go_enter Tryz.func75, Tryz.ntmps75
    go_wp2_with fail
    rw [← hw1]
    clear hw1
    go_wp2_with (go_at_call 29; (refine (HC.out _ HS1.out).mono ?_); rintro er w2 ⟨rfl, bb⟩)
    have s2 := HS1.out.below bb
    have p2 := (bb.block _ hp1).trans HP0.out
    obtain ⟨w3, hrun, hk3, hg3⟩ := (show Knw w2.drew b4 col s.kn from s2.kn).add HP.out (by unfold maxLen; omega)
    have HB2 : Hid (But (fun _ => False) w w2) := hid (.below (HQ1.out.trans (bb.mono HQ1.out.size)))
    have hb4 : b4 < w2.heap.size ∧ sb ≠ b4 ∧ w.heap.size ≠ b4 := by
      obtain ⟨_, _, _, _, e⟩ := s2.kn
      have := HH.out.dom _ _ e
      refine ⟨s2.dom _ _ e, fun e' => ?_, by omega⟩
      have := s2.csb
      rw [e', e] at this
      cases this
    have hsb := s2.dom _ _ s2.csb
    have s3 := (hg3.block sb hsb (by simp only [ne_eq, Option.some.injEq]; exact hb4.2.1)).trans s2.row
    have p3 := (hg3.block w.heap.size (by have := bb.size; show _ < w2.heap.size; omega) (by simp only [ne_eq, Option.some.injEq]; exact hb4.2.2)).trans p2
    have c4 := s2.cell.2.2.2.2.1
    have k2 : w2.cell? ⟨w.heap.size, 0, none⟩ = some (.string o) := by rw [cell_of_row w2 _ 0 _ _ (0, 0) p2]; rfl
    have k3 : w2.cell? ⟨w.heap.size, 1, none⟩ = some (.string n) := by rw [cell_of_row w2 _ 1 _ _ (0, 0) p2]; rfl
    have k4 : w2.cell? ⟨w.heap.size, 2, none⟩ = some (.string who) := by rw [cell_of_row w2 _ 2 _ _ (0, 0) p2]; rfl
    have o3 : Own (E := encP) w3 B 51 vF s.fr := s2.fr.kept fun g hg => hg3.block g (s2.fr.lt g hg).2 (by
      simp only [ne_eq, Option.some.injEq]
      intro e
      obtain ⟨_, _, _, _, e2⟩ := s2.kn
      have := s2.cfr g hg
      rw [e, e2] at this
      cases this)
    have HS3 := hid s3
    have HP3 := hid p3
    have HO3 := hid o3
    have HS2 := hid s2
    have HK3 := hid hk3
    have HG3 := hid hg3
    have HB4 := hid hb4
    clear s2 p2 s3 p3 o3 hk3 hg3 hb4 hsb bb
    unfold pV at hrun
    simp only at hrun
    go_region_law fail
    all_goals
      go_wp2_with fail
      clear c4 k2 k3 k4 hrun
      have c5 : w3.cell? ⟨sb, 5, none⟩ = some vF := by rw [cell_of_row w3 _ 5 _ _ (0, 0) HS3.out]; rfl
      have f5 : w3.frozen? ⟨sb, 5, none⟩ = false := frozen_of_row w3 sb 5 _ _ HS3.out
      have k2 : w3.cell? ⟨w.heap.size, 0, none⟩ = some (.string o) := by rw [cell_of_row w3 _ 0 _ _ (0, 0) HP3.out]; rfl
      have k3 : w3.cell? ⟨w.heap.size, 1, none⟩ = some (.string n) := by rw [cell_of_row w3 _ 1 _ _ (0, 0) HP3.out]; rfl
      have k4 : w3.cell? ⟨w.heap.size, 2, none⟩ = some (.string who) := by rw [cell_of_row w3 _ 2 _ _ (0, 0) HP3.out]; rfl
      have hsz := HG3.out.size
      have hBw : B ≤ w3.heap.size := Nat.le_trans HS2.out.base hsz
      have hfl : s.fr.length ≤ 1000000000000 := by omega
      have n1 := World.new_ne w3 _ c5
      have HVS : Hid (vF.ownBlock ≠ some sb) := hid (fun e => by
        have a := HS2.out.cfr sb e
        rw [HS2.out.csb] at a
        cases a)
      have HR4 : Hid (∀ w4, (w3.alloc (.cells #[.string o, .string n, .string who] 51)).drew.grownBy w4 vF.ownBlock → w4.heap[sb]? = some (.cells #[.map (some b0), .map (some b1), .map (some b2), .map (some b3), .map (some b4), vF] 60 (0, 0))) :=
        hid (fun w4 hg => by
          have hs3 := (Array.getElem?_eq_some_iff.1 HS3.out).1
          rw [hg.block sb (by simp; omega) (fun e => HVS.out e.symm)]
          exact ((MapKept.heap_alloc w3 _).2 sb hs3).trans HS3.out)
      have c5a : (w3.alloc (.cells #[.string o, .string n, .string who] 51)).cell? ⟨sb, 5, none⟩ = some vF := by
        have hs3 := (Array.getElem?_eq_some_iff.1 HS3.out).1
        rw [cell_of_row _ sb 5 _ _ (0, 0) (((MapKept.heap_alloc w3 _).2 sb hs3).trans HS3.out)]; rfl
      have n2 := World.new_ne w3 _ k2
      go_region_law ((first | (refine step_app1 (E := encP) (by rfl) slP (.tmp 17) (.tmp 19) (by rfl) (B := B) (v := vF) (l := s.fr) ((HO3.out.alloc _).drew) (by rfl) (ad := ⟨w3.heap.size, 0, none⟩) (c := 1) ((o, n), who) (by rfl) (reads_newd w3 #[.string o, .string n, .string who] 51 (0, 0)) hfl (by omega) (by simp; omega) ?_; intro A' c' w4 ho4 hg4 hl4; have r4 := hid (HR4.out _ hg4); have c54 : w4.cell? ⟨sb, 5, none⟩ = some vF := (by rw [cell_of_row w4 _ 5 _ _ (0, 0) r4.out]; rfl); have f54 : w4.frozen? ⟨sb, 5, none⟩ = false := frozen_of_row w4 sb 5 _ _ r4.out)))
      all_goals
        go_wp2_with fail
        go_end0
        have hw3 : w.heap.size ≤ w3.heap.size := Nat.le_trans HB2.out.size hsz
        have hN : (w3.alloc (.cells #[.string o, .string n, .string who] 51)).drew.heap.size = w3.heap.size + 1 := by simp
        have h34 : But (fun g => g = sb ∨ some g = vF.ownBlock) w3 (w4.setCell ⟨sb, 5, none⟩ (.slice A' (s.fr.length + 1) c')) :=
          ((((But.refl (fun g => g = sb ∨ some g = vF.ownBlock) w3).alloc _).drew).then_grown hg4 fun g e => .inr (.inr e.symm)).set _ (.inr (.inl rfl))
        have h04 : But (fun g => g = sb ∨ g = b4 ∨ some g = vF.ownBlock) w (w4.setCell ⟨sb, 5, none⟩ (.slice A' (s.fr.length + 1) c')) :=
          ((HB2.out.drew.mono fun _ _ h => h.elim).then_grown HG3.out fun g e => .inr (.inr (.inl (by injection e with e; exact e.symm)))).trans h34 fun g _ h => by
            rcases h with h | h
            · exact .inl h
            · exact .inr (.inr h)
        have hl : (Value.slice A' (s.fr.length + 1) c').ownBlock = vF.ownBlock ∨ ∃ g, (Value.slice A' (s.fr.length + 1) c').ownBlock = some g ∧ w.heap.size ≤ g := by
          rcases hl4 with h | h
          · exact .inl h
          · exact .inr ⟨_, h, by omega⟩
        have hsb := HH.out.dom _ _ HH.out.csb
        have ho5 : Own (E := encP) (w4.setCell ⟨sb, 5, none⟩ (.slice A' (s.fr.length + 1) c')) B 51 (.slice A' (s.fr.length + 1) c') (s.fr ++ [((o, n), who)]) := ho4.kept fun g hg => by
          refine Below.heap_setCell w4 ⟨sb, 5, none⟩ _ g ?_
          intro e
          rcases hl with h | ⟨g', h, h'⟩
          · have a := HH.out.cfr g (h ▸ hg)
            rw [e, HH.out.csb] at a
            cases a
          · rw [hg] at h
            injection h with h
            simp only at e
            omega
        obtain ⟨col', hS, hE⟩ := HH.out.added HP.out (of_decide_eq_false HB.out) (row6 r4.out)
          (HK3.out.frame (fun g hg => h34.block g (Nat.lt_of_lt_of_le (HH.out.dom g _ hg) hw3) (by
            rintro (h | h)
            · rw [h, HH.out.csb] at hg; cases hg
            · rw [HH.out.cfr g h.symm] at hg; cases hg)) (fun _ _ => rfl)) ho5 h04 hl
        exact ⟨rfl, _, _, hS, hE⟩
end Go.Proofs.YtcligogmmjdobaaGreatDoor.Sh
