/-
  IDs in blocks of their own; their order; the document's own Before.
-/
import Derived.Test.YtfbapbpggicfbaaGreatDoorJz7
import Derived.Test.YtfbapbpggicfbaaGreatDoorJz14
import Derived.Test.YtfbapbpggicfbaaGreatDoorJz13
set_option linter.unusedVariables false
set_option linter.unusedSimpArgs false
namespace Go.Proofs.YtfbapbpggicfbaaGreatDoor.Sh
open Go Go.RowKit

/-- An ID in a block of its own. -/
def IdAt (w : World) (g : Nat) (d q : Int) : Prop := w.heap[g]? = some (.cells #[.int .i64 d, .int .i64 q] 26 (0, 0))
theorem IdAt.new (w : World) (d q : Int) : IdAt (w.alloc (.cells #[.int .i64 d, .int .i64 q] 26)) w.heap.size d q := heap_alloc_new w _
theorem IdAt.c0 {w : World} {g : Nat} {d q : Int} (h : IdAt w g d q) : w.cell? ⟨g, 0, none⟩ = some (.int .i64 d) := by rw [cell_of_row w g 0 _ _ (0, 0) h]; rfl
theorem IdAt.c1 {w : World} {g : Nat} {d q : Int} (h : IdAt w g d q) : w.cell? ⟨g, 1, none⟩ = some (.int .i64 q) := by rw [cell_of_row w g 1 _ _ (0, 0) h]; rfl
theorem IdAt.lt {w : World} {g : Nat} {d q : Int} (h : IdAt w g d q) : g < w.heap.size := (Array.getElem?_eq_some_iff.1 h).1
theorem IdAt.kept {w w' : World} {g : Nat} {d q : Int} (h : IdAt w g d q) (hb : Below w.heap.size w w') : IdAt w' g d q := (hb.block g h.lt).trans h
theorem below_id (w : World) (d q : Int) : Below w.heap.size w (w.alloc (.cells #[.int .i64 d, .int .i64 q] 26)) := (Below.refl _ _).alloc (Nat.le_refl _) _
theorem below_id2 (w : World) (d q d' q' : Int) : Below w.heap.size w ((w.alloc (.cells #[.int .i64 d, .int .i64 q] 26)).alloc (.cells #[.int .i64 d', .int .i64 q'] 26)) :=
  (below_id w d q).trans ((below_id _ d' q').mono (by rw [World.size_alloc]; exact Nat.le_succ _))
/-- The order of IDs. -/
def beforeI (d q d' q' : Int) : Bool := decide (d < d' ∨ (d = d' ∧ q < q'))
theorem beforeI_trans {d q d' q' d'' q'' : Int} (h1 : beforeI d q d' q' = true) (h2 : beforeI d' q' d'' q'' = true) : beforeI d q d'' q'' = true := by
  unfold beforeI at *
  simp only [decide_eq_true_eq] at *
  omega
theorem refBefore_any (d q d' q' : Int) (w : World) : Calls Tryz.prog 76 #[.agg #[.int .i64 d, .int .i64 q], .agg #[.int .i64 d', .int .i64 q']] w fun er w' => er = .returned (.bool (beforeI d q d' q')) ∧ Below w.heap.size w w' := by
  by_cases h : d = d'
  · subst h
    have hb : (d == d) = true := by simp
    by_cases hq : q < q'
    · have HE : Hid (beforeI d q d q' = true) := hid (by unfold beforeI; simp; omega)
      go_enter Tryz.func76, Tryz.ntmps76
      go_wp2
      go_ret
      exact ⟨by rw [HE.out]; rfl, below_id2 _ _ _ _ _⟩
    · have HE : Hid (beforeI d q d q' = false) := hid (by unfold beforeI; simp; omega)
      go_enter Tryz.func76, Tryz.ntmps76
      go_wp2
      go_ret
      exact ⟨by rw [HE.out]; rfl, below_id2 _ _ _ _ _⟩
  · have hb : (d == d') = false := beq_eq_false_iff_ne.2 h
    by_cases hq : d < d'
    · have HE : Hid (beforeI d q d' q' = true) := hid (by unfold beforeI; simp; omega)
      go_enter Tryz.func76, Tryz.ntmps76
      go_wp2
      go_ret
      exact ⟨by rw [HE.out]; rfl, below_id2 _ _ _ _ _⟩
    · have HE : Hid (beforeI d q d' q' = false) := hid (by unfold beforeI; simp; omega)
      go_enter Tryz.func76, Tryz.ntmps76
      go_wp2
      go_ret
      exact ⟨by rw [HE.out]; rfl, below_id2 _ _ _ _ _⟩

end Go.Proofs.YtfbapbpggicfbaaGreatDoor.Sh
/-
  The program's own May, Role and Before, by contract.
-/
namespace Go.Proofs.YtfbapbpggicfbaaGreatDoor.Sh
open Go Go.RowKit

theorem mayC_parts (c : Crd) : mayC c = ((decide (1 ≤ c.d ∧ c.d ≤ 16) && decide (1 ≤ c.q ∧ c.q ≤ 4000)) && mayL c.nm.data.toList && kindOk c) := by
  unfold mayC headOk mayB
  have h : decide (1 ≤ c.d ∧ c.d ≤ 16 ∧ 1 ≤ c.q ∧ c.q ≤ 4000) = (decide (1 ≤ c.d ∧ c.d ≤ 16) && decide (1 ≤ c.q ∧ c.q ≤ 4000)) := by
    rw [Bool.eq_iff_iff]; simp only [decide_eq_true_eq, Bool.and_eq_true]; omega
  rw [h]
set_option maxHeartbeats 2000000 in
theorem mayC_any (c : Crd) (w : World) : Calls Tryz.prog 23 #[.agg c.cells.toArray] w fun e w' => e = .returned (.bool (mayC c)) ∧ Below w.heap.size w w' := by
  have HMC := hid (mayC_parts c)
  obtain ⟨w0, hw0⟩ : ∃ w0, w0 = w.alloc (.cells c.cells.toArray 43) := ⟨_, rfl⟩
  have HR0 : Hid (CrAt w0 w.heap.size c) := hid (by rw [hw0]; exact CrAt.new w c)
  have HB0 : Hid (Below w.heap.size w w0) := hid (by rw [hw0]; exact below_cr w c)
  have HFL := hid (fun w => filled_any c w)
  obtain ⟨d, q, nm, kd, wh, ao, an, bo, bn⟩ := c
  have H1 := hid (fun w => between_any d 16 w)
  have H2 := hid (fun w => between_any q 4000 w)
  have H3 := hid (fun w => may_any nm w)
  simp only at HMC
  obtain ⟨B1, hB1⟩ : ∃ B, decide (1 ≤ d ∧ d ≤ 16) = B := ⟨_, rfl⟩
  obtain ⟨B2, hB2⟩ : ∃ B, decide (1 ≤ q ∧ q ≤ 4000) = B := ⟨_, rfl⟩
  obtain ⟨B3, hB3⟩ : ∃ B, mayL nm.data.toList = B := ⟨_, rfl⟩
  obtain ⟨B4, hB4⟩ : ∃ B, kindOk ⟨d, q, nm, kd, wh, ao, an, bo, bn⟩ = B := ⟨_, rfl⟩
  rw [hB1] at H1 HMC
  rw [hB2] at H2 HMC
  rw [hB3] at H3 HMC
  rw [hB4] at HFL HMC
  clear hB1 hB2 hB3 hB4
  unfold Crd.cells at hw0 HFL ⊢
  simp only at hw0 HFL ⊢
  obtain ⟨c0, c1, c2, c3, c4, c5, c6, c7, c8⟩ := HR0.out.all
  go_enter Tryz.func23, Tryz.ntmps23
  rw [hw0] at c0 c1 c2 c3 c4 c5 c6 c7 c8
  go_wp2_with fail
  rw [← hw0] at c0 c1 c2 c3 c4 c5 c6 c7 c8 ⊢
  clear hw0
  refine (H1.out _).mono ?_
  rintro er w1 ⟨rfl, rfl⟩
  cases B1 with
  | false =>
    have HF : Hid (mayC ⟨d, q, nm, kd, wh, ao, an, bo, bn⟩ = false) := hid (by rw [HMC.out]; simp)
    go_wp2
    go_ret
    exact ⟨by rw [HF.out]; rfl, HB0.out⟩
  | true =>
  go_wp2_with fail
  refine (H2.out _).mono ?_
  rintro er w1 ⟨rfl, rfl⟩
  cases B2 with
  | false =>
    have HF : Hid (mayC ⟨d, q, nm, kd, wh, ao, an, bo, bn⟩ = false) := hid (by rw [HMC.out]; simp)
    go_wp2
    go_ret
    exact ⟨by rw [HF.out]; rfl, HB0.out⟩
  | true =>
  go_wp2_with fail
  refine (H3.out _).mono ?_
  rintro er w1 ⟨rfl, bb⟩
  have HR1 := hid (HR0.out.kept bb)
  have HB1 := hid (HB0.out.trans (bb.mono HB0.out.size))
  clear bb c0 c1 c2 c3 c4 c5 c6 c7 c8
  obtain ⟨c0, c1, c2, c3, c4, c5, c6, c7, c8⟩ := HR1.out.all
  cases B3 with
  | false =>
    have HF : Hid (mayC ⟨d, q, nm, kd, wh, ao, an, bo, bn⟩ = false) := hid (by rw [HMC.out]; simp)
    go_wp2
    go_ret
    exact ⟨by rw [HF.out]; rfl, HB1.out⟩
  | true =>
  have HF : Hid (mayC ⟨d, q, nm, kd, wh, ao, an, bo, bn⟩ = B4) := hid (by rw [HMC.out]; simp)
  go_wp2_with fail
  refine (HFL.out _).mono ?_
  rintro er w2 ⟨rfl, bb⟩
  have HB2 := hid (HB1.out.trans (bb.mono HB1.out.size))
  clear bb c0 c1 c2 c3 c4 c5 c6 c7 c8
  go_wp2
  go_ret
  exact ⟨by rw [HF.out]; rfl, HB2.out⟩

set_option maxHeartbeats 2000000 in
theorem roleC_any (c : Crd) (h0 : -9223372036854775808 ≤ c.d) (h1 : c.d < 9223372036854775808) (w : World) :
    Calls Tryz.prog 27 #[.agg c.cells.toArray] w fun e w' => e = .returned (.agg #[.string (domB c.d), .string c.nm]) ∧ Below w.heap.size w w' := by
  obtain ⟨d, q, nm, kd, wh, ao, an, bo, bn⟩ := c
  simp only at h0 h1 ⊢
  obtain ⟨D, hD⟩ : ∃ D, domB d = D := ⟨_, rfl⟩
  have HD0 : Hid (∀ w, Calls Tryz.prog 38 #[.int .i64 d] w fun e w' => e = .returned (.string D) ∧ Below w.heap.size w w') := hid (fun w => by rw [← hD]; exact domain_any d h0 h1 w)
  rw [hD]
  clear hD
  obtain ⟨w1, hw1⟩ : ∃ w1, w1 = (w.alloc (.cells (Crd.cells ⟨d, q, nm, kd, wh, ao, an, bo, bn⟩).toArray 43)).alloc (.cells #[.string ⟨#[]⟩, .string ⟨#[]⟩] 24) := ⟨_, rfl⟩
  obtain ⟨r1, s1, b1⟩ : Fl w w1 ⟨d, q, nm, kd, wh, ao, an, bo, bn⟩ := by rw [hw1]; exact Fl.new w _
  unfold Crd.cells at hw1 ⊢
  simp only at hw1 ⊢
  go_enter Tryz.func27, Tryz.ntmps27
  go_wp2_with fail
  rw [← hw1]
  clear hw1
  have HK := hid (fun W (hW : Below w1.heap.size w1 W) => (⟨(r1.kept hW).cell 0 _ rfl, (r1.kept hW).cell 2 _ rfl, (s1.kept hW).c0, (s1.kept hW).c1, (s1.kept hW).f 0, (s1.kept hW).f 1⟩ :
    W.cell? ⟨w.heap.size, 0, none⟩ = some (.int .i64 d) ∧ W.cell? ⟨w.heap.size, 2, none⟩ = some (.string nm) ∧ W.cell? ⟨w.heap.size + 1, 0, none⟩ = some (.string ⟨#[]⟩) ∧ W.cell? ⟨w.heap.size + 1, 1, none⟩ = some (.string ⟨#[]⟩) ∧ W.frozen? ⟨w.heap.size + 1, 0, none⟩ = false ∧ W.frozen? ⟨w.heap.size + 1, 1, none⟩ = false))
  have HS := hid (fun W (hW : Below w1.heap.size w1 W) => s1.kept hW)
  have HD := hid (Below.refl w1.heap.size w1).drew
  have H0 := hid b1
  clear r1 s1 b1
  obtain ⟨k1, k2, k3, k4, k5, k6⟩ := HK.out _ (Below.refl _ _)
  go_region_with ((go_at_call 38; (refine (HD0.out _).mono ?_); rintro er w5 ⟨rfl, bb⟩; have B1 := hid (kept_trans HD.out HD.out.size bb); (obtain ⟨j1, j2, j3, j4, j5, j6⟩ := HK.out _ B1.out); clear bb))
  all_goals
    go_wp2
    refine bodyPost_ret (results_mid (h := Tryz.results27) _ _ (w.heap.size + 1) 0 [.string D, .string nm] _ rfl (range_row (pair_set (HS.out _ B1.out))) Tryz.underlying24 rfl info_role) rfl
      ⟨rfl, ((H0.out.trans (B1.out.mono H0.out.size)).setCell (Nat.le_succ _) _).setCell (Nat.le_succ _) _⟩

theorem before_any (d q d' q' : Int) (w : World) : Calls Tryz.prog 51 #[.agg #[.int .i64 d, .int .i64 q], .agg #[.int .i64 d', .int .i64 q']] w fun er w' => er = .returned (.bool (beforeI d q d' q')) ∧ Below w.heap.size w w' := by
  by_cases h : d = d'
  · subst h
    have hb : (d == d) = true := by simp
    by_cases hq : q < q'
    · have HE : Hid (beforeI d q d q' = true) := hid (by unfold beforeI; simp; omega)
      go_enter Tryz.func51, Tryz.ntmps51
      go_wp2
      go_ret
      exact ⟨by rw [HE.out]; rfl, below_id2 _ _ _ _ _⟩
    · have HE : Hid (beforeI d q d q' = false) := hid (by unfold beforeI; simp; omega)
      go_enter Tryz.func51, Tryz.ntmps51
      go_wp2
      go_ret
      exact ⟨by rw [HE.out]; rfl, below_id2 _ _ _ _ _⟩
  · have hb : (d == d') = false := beq_eq_false_iff_ne.2 h
    by_cases hq : d < d'
    · have HE : Hid (beforeI d q d' q' = true) := hid (by unfold beforeI; simp; omega)
      go_enter Tryz.func51, Tryz.ntmps51
      go_wp2
      go_ret
      exact ⟨by rw [HE.out]; rfl, below_id2 _ _ _ _ _⟩
    · have HE : Hid (beforeI d q d' q' = false) := hid (by unfold beforeI; simp; omega)
      go_enter Tryz.func51, Tryz.ntmps51
      go_wp2
      go_ret
      exact ⟨by rw [HE.out]; rfl, below_id2 _ _ _ _ _⟩

end Go.Proofs.YtfbapbpggicfbaaGreatDoor.Sh
/-
  The program's linked, by contract.
-/
namespace Go.Proofs.YtfbapbpggicfbaaGreatDoor.Sh
open Go Go.RowKit

set_option linter.unusedVariables false
set_option linter.unusedSimpArgs false

/-- What a Link asks of a proof's parts. -/
def LinkP (c : Crd) (p : PT) : Prop := ∃ a b, p.ps = [a, b] ∧ a.pr = (firstOf c, a.x) ∧ isD a.x ∧ b.pr = ((a.x, c.bn), p.x)
theorem linkP_iff {c : Crd} {o n x : ByteArray} {d q : Int} {A : Option Addr} {cp : Nat} {a : PT} {ps : List PT} :
    LinkP c (.mk o n x d q A cp (a :: ps)) ↔ isD a.x ∧ (a :: ps).map PT.pr = [(firstOf c, a.x), ((a.x, c.bn), x)] := by
  unfold LinkP
  constructor
  · rintro ⟨a', b', h1, h2, h3, h4⟩
    simp only [PT.ps, List.cons.injEq] at h1
    obtain ⟨rfl, rfl⟩ := h1
    exact ⟨h3, by simp only [List.map_cons, List.map_nil]; rw [h2, h4]; rfl⟩
  · rintro ⟨h1, h2⟩
    simp only [List.map_cons, List.cons.injEq] at h2
    obtain ⟨h3, h4⟩ := h2
    cases ps with
    | nil => cases h4
    | cons b t =>
      simp only [List.map_cons, List.cons.injEq, List.map_eq_nil_iff] at h4
      obtain ⟨h5, rfl⟩ := h4
      exact ⟨a, b, rfl, h3, h1, h5⟩
theorem linkP_nil {c : Crd} {o n x : ByteArray} {d q : Int} {A : Option Addr} {cp : Nat} : ¬ LinkP c (.mk o n x d q A cp []) := by
  rintro ⟨a, b, h, _⟩
  cases h
theorem zrow (w : World) {w' : World} (hb : Below (w.alloc (.cells #[.string ⟨#[]⟩, .string ⟨#[]⟩, .string ⟨#[]⟩] 55)).drew.heap.size (w.alloc (.cells #[.string ⟨#[]⟩, .string ⟨#[]⟩, .string ⟨#[]⟩] 55)).drew w') :
    w'.heap[w.heap.size]? = some (.cells #[.string ⟨#[]⟩, .string ⟨#[]⟩, .string ⟨#[]⟩] 55 (0, 0)) := by
  rw [hb.block w.heap.size (by show _ < (w.alloc _).heap.size; rw [World.size_alloc]; exact Nat.lt_succ_self _)]
  exact heap_alloc_new w _
theorem zrow_cells {w : World} {g : Nat} (h : w.heap[g]? = some (.cells #[.string ⟨#[]⟩, .string ⟨#[]⟩, .string ⟨#[]⟩] 55 (0, 0))) :
    (w.cell? ⟨g, 0, none⟩ = some (.string ⟨#[]⟩) ∧ w.cell? ⟨g, 1, none⟩ = some (.string ⟨#[]⟩) ∧ w.cell? ⟨g, 2, none⟩ = some (.string ⟨#[]⟩)) ∧ w.frozen? ⟨g, 0, none⟩ = false ∧ w.frozen? ⟨g, 1, none⟩ = false ∧ w.frozen? ⟨g, 2, none⟩ = false := by
  refine ⟨⟨?_, ?_, ?_⟩, ?_, ?_, ?_⟩
  · rw [cell_of_row w g 0 _ _ (0, 0) h]; rfl
  · rw [cell_of_row w g 1 _ _ (0, 0) h]; rfl
  · rw [cell_of_row w g 2 _ _ (0, 0) h]; rfl
  · simp [World.frozen?, h]
  · simp [World.frozen?, h]
  · simp [World.frozen?, h]
theorem set3 {w : World} {g : Nat} {a b c x y z : Value} {T : TypeId} {fr : Nat × Nat} (h : w.heap[g]? = some (.cells #[a, b, c] T fr)) :
    (((w.setCell ⟨g, 0, none⟩ x).setCell ⟨g, 1, none⟩ y).setCell ⟨g, 2, none⟩ z).heap[g]? = some (.cells #[x, y, z] T fr) := by
  simp [World.setCell, Array.getElem?_modify, h]
theorem cells3 {w : World} {g : Nat} {a b c : Value} {T : TypeId} (h : w.heap[g]? = some (.cells #[a, b, c] T (0, 0))) : w.cell? ⟨g, 0, none⟩ = some a ∧ w.cell? ⟨g, 1, none⟩ = some b ∧ w.cell? ⟨g, 2, none⟩ = some c := by
  refine ⟨?_, ?_, ?_⟩
  · rw [cell_of_row w g 0 _ _ (0, 0) h]; rfl
  · rw [cell_of_row w g 1 _ _ (0, 0) h]; rfl
  · rw [cell_of_row w g 2 _ _ (0, 0) h]; rfl
theorem els_new (w : World) {α : Type} (E : Enc α) (l : List α) (T : TypeId) : Els E (w.alloc (.cells (ev E l).toArray T)) (w.alloc (.cells (ev E l).toArray T)).heap.size (some ⟨w.heap.size, 0, none⟩) l := fun hn => by
  obtain ⟨ad, e, hc⟩ := reads_new w (ev E l).toArray T (0, 0) (by
    have := E.pos
    show 0 < (ev E l).length
    rw [ev_length]
    exact Nat.mul_pos hn this)
  injection e with e
  subst e
  exact ⟨_, rfl, by rw [World.size_alloc]; exact Nat.lt_succ_self _, hc⟩
set_option maxHeartbeats 4000000 in
set_option maxRecDepth 100000 in
theorem linked_any (c : Crd) (h0 : -9223372036854775808 ≤ c.d) (h1 : c.d < 9223372036854775808) (p : PT) (w : World) (hp : PIn w w.heap.size p) :
    Calls Tryz.prog 29 #[.agg c.cells.toArray, .agg p.cells.toArray] w fun e w' => e = .returned (.bool (dc (LinkP c p))) ∧ Below w.heap.size w w' := by
  obtain ⟨cd, cq, nm, kd, wh, ao, an, bo, bn⟩ := c
  obtain ⟨o, n, x, d, q, A, cp, ps⟩ := p
  simp only at h0 h1
  obtain ⟨g1, g2, g3, g4⟩ := hp.open'
  obtain ⟨w1, hw1⟩ : ∃ w1, w1 = (w.alloc (.cells (Crd.cells ⟨cd, cq, nm, kd, wh, ao, an, bo, bn⟩).toArray 43)).alloc (.cells (PT.mk o n x d q A cp ps).cells.toArray 29) := ⟨_, rfl⟩
  have HQ1 : Hid (Below w.heap.size w w1) := hid (by rw [hw1]; exact (below_cr w _).alloc (by rw [World.size_alloc]; exact Nat.le_succ _) _)
  have HCA : Hid (CrAt w1 w.heap.size ⟨cd, cq, nm, kd, wh, ao, an, bo, bn⟩) := hid (by rw [hw1]; exact (CrAt.new w _).kept (below_pr _ _))
  have HPA : Hid (PrAt w1 (w.heap.size + 1) (.mk o n x d q A cp ps)) := hid (by rw [hw1]; have := PrAt.new (w.alloc (.cells (Crd.cells ⟨cd, cq, nm, kd, wh, ao, an, bo, bn⟩).toArray 43)) (.mk o n x d q A cp ps); rwa [World.size_alloc] at this)
  have HEL := hid (fun W (hW : Below w1.heap.size w1 W) => (g3.below (HQ1.out.trans (hW.mono HQ1.out.size))).more (Nat.le_trans HQ1.out.size hW.size))
  have HDO := hid (fun W => domain_any cd h0 h1 W)
  obtain ⟨D, hD⟩ : ∃ D : ByteArray, domB cd = D := ⟨_, rfl⟩
  have hD2 : (⟨(domL cd).toArray⟩ : ByteArray) = D := hD
  rw [hD2] at HDO
  obtain ⟨Z, hZ⟩ : ∃ Z, dc (LinkP ⟨cd, cq, nm, kd, wh, ao, an, bo, bn⟩ (.mk o n x d q A cp ps)) = Z := ⟨_, rfl⟩
  rw [hZ]
  have HK := hid (fun W (hW : Below w1.heap.size w1 W) => (⟨(HCA.out.kept hW).all, (HPA.out.kept hW).all⟩ : _ ∧ _))
  obtain ⟨np, hnp⟩ : ∃ np, ps.length = np := ⟨_, rfl⟩
  have HNP := hid hnp
  have hnp63 : np ≤ 9223372036854775807 := by omega
  rw [hnp] at HK
  obtain ⟨⟨c0, c1, c2, c3, c4, c5, c6, c7, c8⟩, k0, k1, k2, k3, k4, k5⟩ := HK.out _ (Below.refl _ _)
  cases ps with
  | nil =>
    have HF : Hid (Z = false) := hid (by rw [← hZ]; exact dc_false linkP_nil)
    simp only [List.length_nil] at hnp
    subst hnp
    unfold PT.cells Crd.cells at hw1 ⊢
    simp only [List.length_nil] at hw1 ⊢
    clear hp g1 g2 g3 g4 hD hD2 hZ
    go_enter Tryz.func29, Tryz.ntmps29
    go_wp2_with fail
    go_ret
    exact ⟨by rw [HF.out]; rfl, by rw [← hw1]; exact HQ1.out⟩
  | cons a ps =>
    have HZI : Hid (Z = true ↔ isD a.x ∧ (a :: ps).map PT.pr = [((D, an), a.x), ((a.x, bn), x)]) := hid (by
      rw [← hZ, dc_iff, linkP_iff, ← hD]
      rfl)
    obtain ⟨o2, n2, y, d2, q2, A2, c2', ps2⟩ := a
    have HZI := hid (show Z = true ↔ isD y ∧ (PT.mk o2 n2 y d2 q2 A2 c2' ps2 :: ps).map PT.pr = [((D, an), y), ((y, bn), x)] from HZI.out)
    obtain ⟨ad, aj, rfl, hab, ea, hbj, a0, a1, a2, a3, a4, a5⟩ := PIn.get (HEL.out _ (Below.refl _ _)) (j := 0) rfl
    have ea : ad = aj := by rw [← ea]; exact (add_zero ad).symm
    subst ea
    have hpos : (0 : Int) < (np : Int) := by rw [← hnp, List.length_cons]; omega
    have hne : ¬ (np : Int) = 0 := by omega
    have HNU := hid (fun W => nnum_any y W)
    obtain ⟨N, hN⟩ : ∃ N, numL y.data.toList = N := ⟨_, rfl⟩
    have HNN : Hid (isD y ↔ N ≠ 0) := hid (by unfold isD; rw [hN])
    rw [hN] at HNU
    have HPV := hid (fun (B : Option Addr) (W : World) (hW : Below w1.heap.size w1 W) (hB : Els encP W W.heap.size B [((D, an), y), ((y, bn), x)]) => prove_any (PT.mk o2 n2 y d2 q2 A2 c2' ps2 :: ps) [((D, an), y), ((y, bn), x)] (some ad) B np 2 cp 2 hnp rfl hnp63 W (HEL.out W hW) hB)
    unfold PT.cells Crd.cells at hw1 ⊢
    simp only [hnp] at hw1 ⊢
    obtain ⟨T, hT⟩ : ∃ T, dc ((PT.mk o2 n2 y d2 q2 A2 c2' ps2 :: ps).map PT.pr = [((D, an), y), ((y, bn), x)]) = T := ⟨_, rfl⟩
    have HTI : Hid (T = true ↔ (PT.mk o2 n2 y d2 q2 A2 c2' ps2 :: ps).map PT.pr = [((D, an), y), ((y, bn), x)]) := hid (by rw [← hT, dc_iff])
    rw [hT] at HPV
    rw [hw1] at a0 a1 a2 a3 a4 a5
    clear hp g1 g2 g3 g4 hD hD2 hZ hab hbj hnp hN hT
    go_enter Tryz.func29, Tryz.ntmps29
    go_wp2_with fail
    rw [← hw1]
    clear hw1 a0 a1 a2 a3 a4 a5
    have HDR := hid (Below.refl w1.heap.size w1).drew
    have HDA := hid ((Below.refl w1.heap.size w1).alloc (Nat.le_refl _) (.cells #[.string ⟨#[]⟩, .string ⟨#[]⟩, .string ⟨#[]⟩] 55)).drew
    have HS0 := hid (fun W (hW : Below w1.heap.size w1 W) => (⟨(HK.out W hW).1.1, (HK.out W hW).1.2.2.2.2.2.2.1⟩ : W.cell? ⟨w.heap.size, 0, none⟩ = some (.int .i64 cd) ∧ W.cell? ⟨w.heap.size, 6, none⟩ = some (.string an)))
    clear c0 c1 c2 c3 c4 c5 c6 c7 c8 k0 k1 k2 k3 k4 k5
    go_region_held3 (fun w' => w'.cell? ⟨w.heap.size, 0, none⟩ = some (.int .i64 cd) ∧ w'.cell? ⟨w.heap.size, 6, none⟩ = some (.string an))
      (first | exact HS0.out _ HDR.out | exact HS0.out _ HDA.out | exact HS0.out _ B5.out | exact HS0.out _ (B5.out.alloc B5.out.size _) | exact HS0.out _ ((B5.out.alloc B5.out.size _).setCell B5.out.size _) | exact HS0.out _ (((B5.out.setCell (Nat.le_refl _) _).setCell (Nat.le_refl _) _).setCell (Nat.le_refl _) _))
      ((first | (go_at_call 38; (refine (HDO.out _).mono ?_); rintro er w5 ⟨rfl, bb⟩; (first | (have zz := zrow_cells (zrow w1 bb)) | skip); have B5 : Hid (Below w1.heap.size w1 w5) := (hid (by first | exact (kept_trans HDR.out HDR.out.size bb) | exact (kept_trans HDA.out HDA.out.size bb))))))
    all_goals
      first
        | (obtain ⟨w6, hw6⟩ : ∃ w6, w6 = w5.alloc (.cells #[.string D, .string an, .string y] 55) := ⟨_, rfl⟩
           have HR6 : Hid (w6.heap[w5.heap.size]? = some (.cells #[.string D, .string an, .string y] 55 (0, 0))) := hid (by rw [hw6]; exact heap_alloc_new w5 _)
           have HB6 : Hid (Below w1.heap.size w1 w6) := hid (by rw [hw6]; exact B5.out.alloc B5.out.size _)
           rw [← hw6]
           generalize w5.heap.size = g6 at HR6 ⊢)
        | (obtain ⟨w6, hw6⟩ : ∃ w6, w6 = (((w5.setCell ⟨w1.heap.size, 0, none⟩ (.string D)).setCell ⟨w1.heap.size, 1, none⟩ (.string an)).setCell ⟨w1.heap.size, 2, none⟩ (.string y)) := ⟨_, rfl⟩
           have HR6 : Hid (w6.heap[w1.heap.size]? = some (.cells #[.string D, .string an, .string y] 55 (0, 0))) := hid (by rw [hw6]; exact set3 (zrow w1 bb))
           have HB6 : Hid (Below w1.heap.size w1 w6) := hid (by rw [hw6]; exact ((B5.out.setCell (Nat.le_refl _) _).setCell (Nat.le_refl _) _).setCell (Nat.le_refl _) _)
           rw [← hw6]
           clear zz
           generalize w1.heap.size = g6 at HR6 ⊢)
      clear hw6 bb B5
      have H6 := hid (fun W (hW : Below w6.heap.size w6 W) => cells3 ((hW.block _ (Array.getElem?_eq_some_iff.1 HR6.out).1).trans HR6.out))
      obtain ⟨⟨c0, c1, c2, c3, c4, c5, c6, c7, c8⟩, k0, k1, k2, k3, k4, k5⟩ := HK.out _ HB6.out
      obtain ⟨f0, f1, f2⟩ := H6.out _ (Below.refl _ _)
      obtain ⟨w7, hw7⟩ : ∃ w7, w7 = w6.alloc (.cells #[.string y, .string bn, .string x] 55) := ⟨_, rfl⟩
      have HB7 : Hid (Below w6.heap.size w6 w7) := hid (by rw [hw7]; exact (Below.refl _ _).alloc (Nat.le_refl _) _)
      have HR7 : Hid (w7.heap[w6.heap.size]? = some (.cells #[.string y, .string bn, .string x] 55 (0, 0))) := hid (by rw [hw7]; exact heap_alloc_new w6 _)
      go_wp2_with fail
      rw [← hw7]
      clear hw7 c0 c1 c2 c3 c4 c5 c6 c7 c8 k0 k1 k2 k3 k4 k5 f0 f1 f2
      refine (HNU.out _).mono ?_
      rintro er w8 ⟨rfl, hb8⟩
      have HB8 := hid (HB7.out.trans (hb8.mono HB7.out.size))
      have HB18 := hid (HB6.out.trans (HB8.out.mono HB6.out.size))
      have HR8 := hid (cells3 ((hb8.block _ (Array.getElem?_eq_some_iff.1 HR7.out).1).trans HR7.out))
      obtain ⟨⟨c0, c1, c2, c3, c4, c5, c6, c7, c8⟩, k0, k1, k2, k3, k4, k5⟩ := HK.out _ HB18.out
      obtain ⟨f0, f1, f2⟩ := H6.out _ HB8.out
      obtain ⟨e0, e1, e2⟩ := HR8.out
      clear hb8
      by_cases hN0 : N = 0
      · subst hN0
        have HF : Hid (Z = false) := hid (Bool.eq_false_iff.2 fun e => absurd rfl (HNN.out.1 (HZI.out.1 e).1))
        clear HZI HNN
        go_wp2_with fail
        go_ret
        exact ⟨by rw [HF.out]; rfl, HQ1.out.trans (HB18.out.mono HQ1.out.size)⟩
      · have hNi : ¬ (N : Int) = 0 := by omega
        have hNb : ((N : Int) != 0) = true := bne_iff_ne.2 hNi
        have HF : Hid (Z = T) := hid (Bool.eq_iff_iff.2 (by rw [HZI.out, HTI.out]; exact ⟨fun h => h.2, fun h => ⟨HNN.out.2 hN0, h⟩⟩))
        obtain ⟨w9, hw9⟩ : ∃ w9, w9 = w8.alloc (.cells (ev encP [((D, an), y), ((y, bn), x)]).toArray 55) := ⟨_, rfl⟩
        have HB9 : Hid (Below w1.heap.size w1 w9) := hid (by rw [hw9]; exact HB18.out.alloc HB18.out.size _)
        have HPC := hid (HPV.out (some ⟨w8.heap.size, 0, none⟩) w9 HB9.out (by rw [hw9]; exact els_new w8 encP _ _))
        have hw9' : w9 = w8.alloc (.cells #[.string D, .string an, .string y, .string y, .string bn, .string x] 55) := hw9
        clear hN0 HZI HNN HTI hw9
        go_wp2_with fail
        rw [← hw9']
        refine HPC.out.mono ?_
        rintro er w10 ⟨rfl, hb10⟩
        cases T <;>
        · go_wp2_with fail
          go_ret
          exact ⟨by rw [HF.out]; rfl, HQ1.out.trans ((HB9.out.trans (hb10.mono HB9.out.size)).mono HQ1.out.size)⟩
end Go.Proofs.YtfbapbpggicfbaaGreatDoor.Sh
