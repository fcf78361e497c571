/-
  The document's own Read of a credential.
-/
import Derived.Test.YtkggagnaiiemlaaDoorCrRefR
namespace Go.Proofs.YtkggagnaiiemlaaDoor.Sh
open Go Go.RowKit

/-- What Read answers, and the cursor behind it. -/
def ReadEnd (T : TypeId) (w w' : World) (lo hi g : Nat) (A : Option Addr) (n c : Nat) (l : List UInt8) (er : Ending) (x : Crd × Nat × Int) : Prop :=
  StepC T w w' lo hi g A n c l er (.agg x.1.cells.toArray) x.2.1 x.2.2
theorem info_cred : (Tryd.prog.info? 27).map (·.size) = some 9 := by kernel_rfl
/-- Nine cells behind a store of all of them. -/
theorem nine_set {w : World} {g : Nat} {u0 u1 u2 u3 u4 u5 u6 u7 u8 v0 v1 v2 v3 v4 v5 v6 v7 v8 : Value} {t : TypeId} (h : w.heap[g]? = some (.cells #[u0, u1, u2, u3, u4, u5, u6, u7, u8] t (0, 0))) :
    (((((((((w.setCell ⟨g, 0, none⟩ v0).setCell ⟨g, 1, none⟩ v1).setCell ⟨g, 2, none⟩ v2).setCell ⟨g, 3, none⟩ v3).setCell ⟨g, 4, none⟩ v4).setCell ⟨g, 5, none⟩ v5).setCell ⟨g, 6, none⟩ v6).setCell ⟨g, 7, none⟩ v7).setCell ⟨g, 8, none⟩ v8).heap[g]? = some (.cells #[v0, v1, v2, v3, v4, v5, v6, v7, v8] t (0, 0)) := by
  have h0 : (w.setCell ⟨g, 0, none⟩ v0).heap[g]? = some (.cells #[v0, u1, u2, u3, u4, u5, u6, u7, u8] t (0, 0)) := heap_setCell_same w g 0 _ _ v0 h
  have h1 : ((w.setCell ⟨g, 0, none⟩ v0).setCell ⟨g, 1, none⟩ v1).heap[g]? = some (.cells #[v0, v1, u2, u3, u4, u5, u6, u7, u8] t (0, 0)) := heap_setCell_same (w.setCell ⟨g, 0, none⟩ v0) g 1 _ _ v1 h0
  have h2 : (((w.setCell ⟨g, 0, none⟩ v0).setCell ⟨g, 1, none⟩ v1).setCell ⟨g, 2, none⟩ v2).heap[g]? = some (.cells #[v0, v1, v2, u3, u4, u5, u6, u7, u8] t (0, 0)) := heap_setCell_same ((w.setCell ⟨g, 0, none⟩ v0).setCell ⟨g, 1, none⟩ v1) g 2 _ _ v2 h1
  have h3 : ((((w.setCell ⟨g, 0, none⟩ v0).setCell ⟨g, 1, none⟩ v1).setCell ⟨g, 2, none⟩ v2).setCell ⟨g, 3, none⟩ v3).heap[g]? = some (.cells #[v0, v1, v2, v3, u4, u5, u6, u7, u8] t (0, 0)) := heap_setCell_same (((w.setCell ⟨g, 0, none⟩ v0).setCell ⟨g, 1, none⟩ v1).setCell ⟨g, 2, none⟩ v2) g 3 _ _ v3 h2
  have h4 : (((((w.setCell ⟨g, 0, none⟩ v0).setCell ⟨g, 1, none⟩ v1).setCell ⟨g, 2, none⟩ v2).setCell ⟨g, 3, none⟩ v3).setCell ⟨g, 4, none⟩ v4).heap[g]? = some (.cells #[v0, v1, v2, v3, v4, u5, u6, u7, u8] t (0, 0)) := heap_setCell_same ((((w.setCell ⟨g, 0, none⟩ v0).setCell ⟨g, 1, none⟩ v1).setCell ⟨g, 2, none⟩ v2).setCell ⟨g, 3, none⟩ v3) g 4 _ _ v4 h3
  have h5 : ((((((w.setCell ⟨g, 0, none⟩ v0).setCell ⟨g, 1, none⟩ v1).setCell ⟨g, 2, none⟩ v2).setCell ⟨g, 3, none⟩ v3).setCell ⟨g, 4, none⟩ v4).setCell ⟨g, 5, none⟩ v5).heap[g]? = some (.cells #[v0, v1, v2, v3, v4, v5, u6, u7, u8] t (0, 0)) := heap_setCell_same (((((w.setCell ⟨g, 0, none⟩ v0).setCell ⟨g, 1, none⟩ v1).setCell ⟨g, 2, none⟩ v2).setCell ⟨g, 3, none⟩ v3).setCell ⟨g, 4, none⟩ v4) g 5 _ _ v5 h4
  have h6 : (((((((w.setCell ⟨g, 0, none⟩ v0).setCell ⟨g, 1, none⟩ v1).setCell ⟨g, 2, none⟩ v2).setCell ⟨g, 3, none⟩ v3).setCell ⟨g, 4, none⟩ v4).setCell ⟨g, 5, none⟩ v5).setCell ⟨g, 6, none⟩ v6).heap[g]? = some (.cells #[v0, v1, v2, v3, v4, v5, v6, u7, u8] t (0, 0)) := heap_setCell_same ((((((w.setCell ⟨g, 0, none⟩ v0).setCell ⟨g, 1, none⟩ v1).setCell ⟨g, 2, none⟩ v2).setCell ⟨g, 3, none⟩ v3).setCell ⟨g, 4, none⟩ v4).setCell ⟨g, 5, none⟩ v5) g 6 _ _ v6 h5
  have h7 : ((((((((w.setCell ⟨g, 0, none⟩ v0).setCell ⟨g, 1, none⟩ v1).setCell ⟨g, 2, none⟩ v2).setCell ⟨g, 3, none⟩ v3).setCell ⟨g, 4, none⟩ v4).setCell ⟨g, 5, none⟩ v5).setCell ⟨g, 6, none⟩ v6).setCell ⟨g, 7, none⟩ v7).heap[g]? = some (.cells #[v0, v1, v2, v3, v4, v5, v6, v7, u8] t (0, 0)) := heap_setCell_same (((((((w.setCell ⟨g, 0, none⟩ v0).setCell ⟨g, 1, none⟩ v1).setCell ⟨g, 2, none⟩ v2).setCell ⟨g, 3, none⟩ v3).setCell ⟨g, 4, none⟩ v4).setCell ⟨g, 5, none⟩ v5).setCell ⟨g, 6, none⟩ v6) g 7 _ _ v7 h6
  have h8 : (((((((((w.setCell ⟨g, 0, none⟩ v0).setCell ⟨g, 1, none⟩ v1).setCell ⟨g, 2, none⟩ v2).setCell ⟨g, 3, none⟩ v3).setCell ⟨g, 4, none⟩ v4).setCell ⟨g, 5, none⟩ v5).setCell ⟨g, 6, none⟩ v6).setCell ⟨g, 7, none⟩ v7).setCell ⟨g, 8, none⟩ v8).heap[g]? = some (.cells #[v0, v1, v2, v3, v4, v5, v6, v7, v8] t (0, 0)) := heap_setCell_same ((((((((w.setCell ⟨g, 0, none⟩ v0).setCell ⟨g, 1, none⟩ v1).setCell ⟨g, 2, none⟩ v2).setCell ⟨g, 3, none⟩ v3).setCell ⟨g, 4, none⟩ v4).setCell ⟨g, 5, none⟩ v5).setCell ⟨g, 6, none⟩ v6).setCell ⟨g, 7, none⟩ v7) g 8 _ _ v8 h7
  exact h8
section
variable {T : TypeId} {w0 w : World} {lo hi g n c p : Nat} {A : Option Addr} {l : List UInt8} {e : Int} {X R : Nat} {x : Crd}
/-- A store into the result's block. -/
theorem res_set (h : Cu T w lo hi g A n c l p e) (hG : w0.grownBy w (some g)) (hR : w0.heap.size ≤ R) (hg : g < w0.heap.size) (k : Nat) (v : Value) :
    Cu T (w.setCell ⟨R, k, none⟩ v) lo hi g A n c l p e ∧ w0.grownBy (w.setCell ⟨R, k, none⟩ v) (some g) :=
  ⟨h.other (grown_set w R k v) (by omega) (.inr (by have := h.hi; omega)), gro_new hG (grown_set w R k v) hR⟩
theorem res_nine (h : Cu T w lo hi g A n c l p e) (hG : w0.grownBy w (some g)) (hR : w0.heap.size ≤ R) (hg : g < w0.heap.size) (v0 v1 v2 v3 v4 v5 v6 v7 v8 : Value) :
    Cu T (((((((((w.setCell ⟨R, 0, none⟩ v0).setCell ⟨R, 1, none⟩ v1).setCell ⟨R, 2, none⟩ v2).setCell ⟨R, 3, none⟩ v3).setCell ⟨R, 4, none⟩ v4).setCell ⟨R, 5, none⟩ v5).setCell ⟨R, 6, none⟩ v6).setCell ⟨R, 7, none⟩ v7).setCell ⟨R, 8, none⟩ v8) lo hi g A n c l p e ∧
    w0.grownBy (((((((((w.setCell ⟨R, 0, none⟩ v0).setCell ⟨R, 1, none⟩ v1).setCell ⟨R, 2, none⟩ v2).setCell ⟨R, 3, none⟩ v3).setCell ⟨R, 4, none⟩ v4).setCell ⟨R, 5, none⟩ v5).setCell ⟨R, 6, none⟩ v6).setCell ⟨R, 7, none⟩ v7).setCell ⟨R, 8, none⟩ v8) (some g) := by
  obtain ⟨h0, g0⟩ := res_set h hG hR hg 0 v0
  obtain ⟨h1, g1⟩ := res_set h0 g0 hR hg 1 v1
  obtain ⟨h2, g2⟩ := res_set h1 g1 hR hg 2 v2
  obtain ⟨h3, g3⟩ := res_set h2 g2 hR hg 3 v3
  obtain ⟨h4, g4⟩ := res_set h3 g3 hR hg 4 v4
  obtain ⟨h5, g5⟩ := res_set h4 g4 hR hg 5 v5
  obtain ⟨h6, g6⟩ := res_set h5 g5 hR hg 6 v6
  obtain ⟨h7, g7⟩ := res_set h6 g6 hR hg 7 v7
  exact res_set h7 g7 hR hg 8 v8
end

set_option maxHeartbeats 16000000 in
theorem refReadC_any {w : World} {lo hi g n c p : Nat} {A : Option Addr} {l : List UInt8} {e : Int} (h : Cu 43 w lo hi g A n c l p e) :
    Calls Tryd.prog 23 #[.pointer (some ⟨g, 0, none⟩)] w fun er w' => ReadEnd 43 w w' lo hi g A n c l er (readC l p e) := by
  obtain ⟨V1, p1, e1, hx1⟩ : ∃ V p' e', numStep l p e 1 16 = (V, p', e') := ⟨_, _, _, rfl⟩
  obtain ⟨V2, p2, e2, hx2⟩ : ∃ V p' e', numStep l p1 e1 1 4000 = (V, p', e') := ⟨_, _, _, rfl⟩
  obtain ⟨S3, p3, e3, hx3⟩ : ∃ V p' e', nameStep l p2 e2 = (V, p', e') := ⟨_, _, _, rfl⟩
  obtain ⟨V4, p4, e4, hx4⟩ : ∃ V p' e', numStep l p3 e3 1 4 = (V, p', e') := ⟨_, _, _, rfl⟩
  have HRAW : Hid (readC l p e = fin (bodyStep V1 V2 (bL S3) V4 l p4 e4)) := hid (by
    unfold readC rawC
    simp only [hx1, hx2, hx3, hx4])
  have hgl := h.lt
  have hhi := h.hi
  obtain ⟨w1, hw1⟩ : ∃ w1, w1 = (w.alloc (.cells (Crd.cells .zero).toArray 27)).alloc (.cells (Crd.cells .zero).toArray 27) := ⟨_, rfl⟩
  have b1 : Below w.heap.size w w1 := by rw [hw1]; exact (below_cr w _).trans ((below_cr _ _).mono (by rw [World.size_alloc]; exact Nat.le_succ _))
  have r1 : CrAt w1 w.heap.size .zero := by rw [hw1]; exact (CrAt.new w _).kept (below_cr _ _)
  have s1 : CrAt w1 (w.heap.size + 1) .zero := by rw [hw1]; have := CrAt.new (w.alloc (.cells (Crd.cells .zero).toArray 27)) .zero; rwa [World.size_alloc] at this
  have H1 := hid (show Rd 43 w w1 lo hi g A n c l p e (w.heap.size + 1) w.heap.size .zero from ⟨h.below b1 hgl, s1, r1, gro_below (gro_refl w (some g)) b1, by omega, by omega, hgl, by omega⟩)
  clear b1 r1 s1 h
  unfold Crd.zero Crd.cells E0 at hw1
  simp only at hw1
  go_enter Tryd.func23, Tryd.ntmps23
  go_wp2_with fail
  rw [← hw1]
  clear hw1
  refine (rcu_number H1.out.cu 1 16).mono ?_
  rw [hx1]
  rintro er w2 hs
  obtain ⟨rfl, q2⟩ := H1.out.step hs
  clear hs H1
  have fz0 := q2.row.f 0
  have fc0 := q2.row.cell 0 _ rfl
  have q2s := q2.set 0 (.int .i64 V1) (q2.row.set0 V1)
  have H2 := hid q2s
  clear q2 q2s
  go_wp2_with fail
  clear fz0 fc0
  refine (rcu_number H2.out.cu 1 4000).mono ?_
  rw [hx2]
  rintro er w3 hs
  obtain ⟨rfl, q3⟩ := H2.out.step hs
  clear hs H2
  have fz1 := q3.row.f 1
  have fc1 := q3.row.cell 1 _ rfl
  have q3s := q3.set 1 (.int .i64 V2) (q3.row.set1 V2)
  have H3 := hid q3s
  clear q3 q3s
  go_wp2_with fail
  clear fz1 fc1
  refine (refName_any H3.out.cu).mono ?_
  rw [hx3]
  rintro er w4 hs
  obtain ⟨rfl, q4⟩ := H3.out.step hs
  clear hs H3
  have fz2 := q4.row.f 2
  have fc2 := q4.row.cell 2 _ rfl
  have q4s := q4.set 2 (.string ⟨S3.toArray⟩) (q4.row.set2 ⟨S3.toArray⟩)
  have H4 := hid q4s
  clear q4 q4s
  go_wp2_with fail
  clear fz2 fc2
  refine (rcu_number H4.out.cu 1 4).mono ?_
  rw [hx4]
  rintro er w5 hs
  obtain ⟨rfl, q5⟩ := H4.out.step hs
  clear hs H4
  have fz3 := q5.row.f 3
  have fc3 := q5.row.cell 3 _ rfl
  have q5s := q5.set 3 (.int .i64 V4) (q5.row.set3 V4)
  have H5 := hid q5s
  clear q5 q5s
  clear hx1 hx2 hx3 hx4
  have kc := H5.out.row.cell 3 _ rfl
  by_cases k1 : V4 = 1
  · subst k1
    obtain ⟨S5, p5, e5, hy⟩ : ∃ V p' e', nameStep l p4 e4 = (V, p', e') := ⟨_, _, _, rfl⟩
    go_wp2_with fail
    clear fz3 fc3 kc
    refine (refName_any H5.out.cu).mono ?_
    rw [hy]
    rintro er w6 hs
    obtain ⟨rfl, q6⟩ := H5.out.step hs
    clear hs H5
    have fz4 := q6.row.f 4
    have fc4 := q6.row.cell 4 _ rfl
    have q6s := q6.set 4 (.string ⟨S5.toArray⟩) (q6.row.set4 ⟨S5.toArray⟩)
    have H6 := hid q6s
    clear q6 q6s
    have kc := H6.out.row.cell 3 _ rfl
    have HFIN : Hid (readC l p e = fin (⟨V1, V2, ⟨S3.toArray⟩, 1, ⟨S5.toArray⟩, E0, E0, E0, E0⟩, p5, e5)) := hid (by rw [HRAW.out]; rw [bodyStep_1, hy]; try rfl)
    have ec := H6.out.cu.row.c2
    obtain ⟨x0, x1, x2, x3, x4, x5, x6, x7, x8⟩ := H6.out.row.all
    obtain ⟨z0, z1, z2, z3, z4, z5, z6, z7, z8⟩ := CrAt.all H6.out.res
    have zf0 := CrAt.f H6.out.res 0
    have zf1 := CrAt.f H6.out.res 1
    have zf2 := CrAt.f H6.out.res 2
    have zf3 := CrAt.f H6.out.res 3
    have zf4 := CrAt.f H6.out.res 4
    have zf5 := CrAt.f H6.out.res 5
    have zf6 := CrAt.f H6.out.res 6
    have zf7 := CrAt.f H6.out.res 7
    have zf8 := CrAt.f H6.out.res 8
    try unfold E0 at x4
    try unfold E0 at x5
    try unfold E0 at x6
    try unfold E0 at x7
    try unfold E0 at x8
    try unfold E0 at z2
    try unfold E0 at z4
    try unfold E0 at z5
    try unfold E0 at z6
    try unfold E0 at z7
    try unfold E0 at z8
    by_cases he : e5 = 0
    · have HE : Hid (readC l p e = (⟨V1, V2, ⟨S3.toArray⟩, 1, ⟨S5.toArray⟩, E0, E0, E0, E0⟩, p5, e5)) := hid (by rw [HFIN.out]; unfold fin; simp only; rw [if_pos he])
      go_wp2
      refine bodyPost_ret (results_mid (h := Tryd.results23) _ _ w.heap.size 0 [.int .i64 V1, .int .i64 V2, .string ⟨S3.toArray⟩, .int .i64 1, .string ⟨S5.toArray⟩, .string E0, .string E0, .string E0, .string E0] _ rfl (range_row (nine_set H6.out.res)) Tryd.underlying27 rfl info_cred) rfl ?_
      unfold ReadEnd
      rw [HE.out]
      exact ⟨rfl, res_nine H6.out.cu H6.out.gro (Nat.le_refl _) hgl _ _ _ _ _ _ _ _ _⟩
    · have HE : Hid (readC l p e = (.zero, p5, e5)) := hid (by rw [HFIN.out]; unfold fin; simp only; rw [if_neg he])
      go_wp2
      refine bodyPost_ret (results_mid (h := Tryd.results23) _ _ w.heap.size 0 [.int .i64 0, .int .i64 0, .string E0, .int .i64 0, .string E0, .string E0, .string E0, .string E0, .string E0] _ rfl (range_row (nine_set H6.out.res)) Tryd.underlying27 rfl info_cred) rfl ?_
      unfold ReadEnd
      rw [HE.out]
      exact ⟨rfl, res_nine H6.out.cu H6.out.gro (Nat.le_refl _) hgl _ _ _ _ _ _ _ _ _⟩
  by_cases k2 : V4 = 2
  · subst k2
    clear k1
    obtain ⟨⟨O5, S5⟩, p5, e5, hy⟩ : ∃ V p' e', roleStep l p4 e4 = (V, p', e') := ⟨_, _, _, rfl⟩
    go_wp2_with fail
    clear fz3 fc3 kc
    refine (refReadRole_any H5.out.cu).mono ?_
    rw [hy]
    rintro er w6 hs
    obtain ⟨rfl, q6⟩ := H5.out.step hs
    clear hs H5
    have fz5 := q6.row.f 5
    have fc5 := q6.row.cell 5 _ rfl
    have q6s := q6.set 5 (.string ⟨O5.toArray⟩) (q6.row.set5 ⟨O5.toArray⟩)
    have fz6 := q6s.row.f 6
    have fc6 := q6s.row.cell 6 _ rfl
    have q6ss := q6s.set 6 (.string ⟨S5.toArray⟩) (q6s.row.set6 ⟨S5.toArray⟩)
    have H6 := hid q6ss
    clear q6 q6s q6ss
    have kc := H6.out.row.cell 3 _ rfl
    have HFIN : Hid (readC l p e = fin (⟨V1, V2, ⟨S3.toArray⟩, 2, E0, ⟨O5.toArray⟩, ⟨S5.toArray⟩, E0, E0⟩, p5, e5)) := hid (by rw [HRAW.out]; rw [bodyStep_2, hy]; try rfl)
    have ec := H6.out.cu.row.c2
    obtain ⟨x0, x1, x2, x3, x4, x5, x6, x7, x8⟩ := H6.out.row.all
    obtain ⟨z0, z1, z2, z3, z4, z5, z6, z7, z8⟩ := CrAt.all H6.out.res
    have zf0 := CrAt.f H6.out.res 0
    have zf1 := CrAt.f H6.out.res 1
    have zf2 := CrAt.f H6.out.res 2
    have zf3 := CrAt.f H6.out.res 3
    have zf4 := CrAt.f H6.out.res 4
    have zf5 := CrAt.f H6.out.res 5
    have zf6 := CrAt.f H6.out.res 6
    have zf7 := CrAt.f H6.out.res 7
    have zf8 := CrAt.f H6.out.res 8
    try unfold E0 at x4
    try unfold E0 at x5
    try unfold E0 at x6
    try unfold E0 at x7
    try unfold E0 at x8
    try unfold E0 at z2
    try unfold E0 at z4
    try unfold E0 at z5
    try unfold E0 at z6
    try unfold E0 at z7
    try unfold E0 at z8
    by_cases he : e5 = 0
    · have HE : Hid (readC l p e = (⟨V1, V2, ⟨S3.toArray⟩, 2, E0, ⟨O5.toArray⟩, ⟨S5.toArray⟩, E0, E0⟩, p5, e5)) := hid (by rw [HFIN.out]; unfold fin; simp only; rw [if_pos he])
      go_wp2
      refine bodyPost_ret (results_mid (h := Tryd.results23) _ _ w.heap.size 0 [.int .i64 V1, .int .i64 V2, .string ⟨S3.toArray⟩, .int .i64 2, .string E0, .string ⟨O5.toArray⟩, .string ⟨S5.toArray⟩, .string E0, .string E0] _ rfl (range_row (nine_set H6.out.res)) Tryd.underlying27 rfl info_cred) rfl ?_
      unfold ReadEnd
      rw [HE.out]
      exact ⟨rfl, res_nine H6.out.cu H6.out.gro (Nat.le_refl _) hgl _ _ _ _ _ _ _ _ _⟩
    · have HE : Hid (readC l p e = (.zero, p5, e5)) := hid (by rw [HFIN.out]; unfold fin; simp only; rw [if_neg he])
      go_wp2
      refine bodyPost_ret (results_mid (h := Tryd.results23) _ _ w.heap.size 0 [.int .i64 0, .int .i64 0, .string E0, .int .i64 0, .string E0, .string E0, .string E0, .string E0, .string E0] _ rfl (range_row (nine_set H6.out.res)) Tryd.underlying27 rfl info_cred) rfl ?_
      unfold ReadEnd
      rw [HE.out]
      exact ⟨rfl, res_nine H6.out.cu H6.out.gro (Nat.le_refl _) hgl _ _ _ _ _ _ _ _ _⟩
  by_cases k3 : V4 = 3
  · subst k3
    clear k1 k2
    obtain ⟨S5, p5, e5, hy⟩ : ∃ V p' e', nameStep l p4 e4 = (V, p', e') := ⟨_, _, _, rfl⟩
    obtain ⟨S6, p6, e6, hz⟩ : ∃ V p' e', nameStep l p5 e5 = (V, p', e') := ⟨_, _, _, rfl⟩
    go_wp2_with fail
    clear fz3 fc3 kc
    refine (refName_any H5.out.cu).mono ?_
    rw [hy]
    rintro er w6 hs
    obtain ⟨rfl, q6⟩ := H5.out.step hs
    clear hs H5
    have fz6 := q6.row.f 6
    have fc6 := q6.row.cell 6 _ rfl
    have q6s := q6.set 6 (.string ⟨S5.toArray⟩) (q6.row.set6 ⟨S5.toArray⟩)
    have H6 := hid q6s
    clear q6 q6s
    go_wp2_with fail
    clear fz6 fc6
    refine (refName_any H6.out.cu).mono ?_
    rw [hz]
    rintro er w7 hs
    obtain ⟨rfl, q7⟩ := H6.out.step hs
    clear hs H6
    have fz8 := q7.row.f 8
    have fc8 := q7.row.cell 8 _ rfl
    have q7s := q7.set 8 (.string ⟨S6.toArray⟩) (q7.row.set8 ⟨S6.toArray⟩)
    have H7 := hid q7s
    clear q7 q7s
    have kc := H7.out.row.cell 3 _ rfl
    have HFIN : Hid (readC l p e = fin (⟨V1, V2, ⟨S3.toArray⟩, 3, E0, E0, ⟨S5.toArray⟩, E0, ⟨S6.toArray⟩⟩, p6, e6)) := hid (by rw [HRAW.out]; rw [bodyStep_3, hy]; simp only; rw [hz]; try rfl)
    have ec := H7.out.cu.row.c2
    obtain ⟨x0, x1, x2, x3, x4, x5, x6, x7, x8⟩ := H7.out.row.all
    obtain ⟨z0, z1, z2, z3, z4, z5, z6, z7, z8⟩ := CrAt.all H7.out.res
    have zf0 := CrAt.f H7.out.res 0
    have zf1 := CrAt.f H7.out.res 1
    have zf2 := CrAt.f H7.out.res 2
    have zf3 := CrAt.f H7.out.res 3
    have zf4 := CrAt.f H7.out.res 4
    have zf5 := CrAt.f H7.out.res 5
    have zf6 := CrAt.f H7.out.res 6
    have zf7 := CrAt.f H7.out.res 7
    have zf8 := CrAt.f H7.out.res 8
    try unfold E0 at x4
    try unfold E0 at x5
    try unfold E0 at x6
    try unfold E0 at x7
    try unfold E0 at x8
    try unfold E0 at z2
    try unfold E0 at z4
    try unfold E0 at z5
    try unfold E0 at z6
    try unfold E0 at z7
    try unfold E0 at z8
    by_cases he : e6 = 0
    · have HE : Hid (readC l p e = (⟨V1, V2, ⟨S3.toArray⟩, 3, E0, E0, ⟨S5.toArray⟩, E0, ⟨S6.toArray⟩⟩, p6, e6)) := hid (by rw [HFIN.out]; unfold fin; simp only; rw [if_pos he])
      go_wp2
      refine bodyPost_ret (results_mid (h := Tryd.results23) _ _ w.heap.size 0 [.int .i64 V1, .int .i64 V2, .string ⟨S3.toArray⟩, .int .i64 3, .string E0, .string E0, .string ⟨S5.toArray⟩, .string E0, .string ⟨S6.toArray⟩] _ rfl (range_row (nine_set H7.out.res)) Tryd.underlying27 rfl info_cred) rfl ?_
      unfold ReadEnd
      rw [HE.out]
      exact ⟨rfl, res_nine H7.out.cu H7.out.gro (Nat.le_refl _) hgl _ _ _ _ _ _ _ _ _⟩
    · have HE : Hid (readC l p e = (.zero, p6, e6)) := hid (by rw [HFIN.out]; unfold fin; simp only; rw [if_neg he])
      go_wp2
      refine bodyPost_ret (results_mid (h := Tryd.results23) _ _ w.heap.size 0 [.int .i64 0, .int .i64 0, .string E0, .int .i64 0, .string E0, .string E0, .string E0, .string E0, .string E0] _ rfl (range_row (nine_set H7.out.res)) Tryd.underlying27 rfl info_cred) rfl ?_
      unfold ReadEnd
      rw [HE.out]
      exact ⟨rfl, res_nine H7.out.cu H7.out.gro (Nat.le_refl _) hgl _ _ _ _ _ _ _ _ _⟩
  by_cases k4 : V4 = 4
  · subst k4
    clear k1 k2 k3
    obtain ⟨⟨O5, S5⟩, p5, e5, hy⟩ : ∃ V p' e', roleStep l p4 e4 = (V, p', e') := ⟨_, _, _, rfl⟩
    obtain ⟨⟨O6, S6⟩, p6, e6, hz⟩ : ∃ V p' e', roleStep l p5 e5 = (V, p', e') := ⟨_, _, _, rfl⟩
    go_wp2_with fail
    clear fz3 fc3 kc
    refine (refReadRole_any H5.out.cu).mono ?_
    rw [hy]
    rintro er w6 hs
    obtain ⟨rfl, q6⟩ := H5.out.step hs
    clear hs H5
    have fz5 := q6.row.f 5
    have fc5 := q6.row.cell 5 _ rfl
    have q6s := q6.set 5 (.string ⟨O5.toArray⟩) (q6.row.set5 ⟨O5.toArray⟩)
    have fz6 := q6s.row.f 6
    have fc6 := q6s.row.cell 6 _ rfl
    have q6ss := q6s.set 6 (.string ⟨S5.toArray⟩) (q6s.row.set6 ⟨S5.toArray⟩)
    have H6 := hid q6ss
    clear q6 q6s q6ss
    have kc := H6.out.row.cell 3 _ rfl
    go_wp2_with fail
    clear fz5 fc5 fz6 fc6
    clear kc
    refine (refReadRole_any H6.out.cu).mono ?_
    rw [hz]
    rintro er w7 hs
    obtain ⟨rfl, q7⟩ := H6.out.step hs
    clear hs H6
    have fz7 := q7.row.f 7
    have fc7 := q7.row.cell 7 _ rfl
    have q7s := q7.set 7 (.string ⟨O6.toArray⟩) (q7.row.set7 ⟨O6.toArray⟩)
    have fz8 := q7s.row.f 8
    have fc8 := q7s.row.cell 8 _ rfl
    have q7ss := q7s.set 8 (.string ⟨S6.toArray⟩) (q7s.row.set8 ⟨S6.toArray⟩)
    have H7 := hid q7ss
    clear q7 q7s q7ss
    have HFIN : Hid (readC l p e = fin (⟨V1, V2, ⟨S3.toArray⟩, 4, E0, ⟨O5.toArray⟩, ⟨S5.toArray⟩, ⟨O6.toArray⟩, ⟨S6.toArray⟩⟩, p6, e6)) := hid (by rw [HRAW.out]; rw [bodyStep_4, hy]; simp only; rw [hz]; try rfl)
    have ec := H7.out.cu.row.c2
    obtain ⟨x0, x1, x2, x3, x4, x5, x6, x7, x8⟩ := H7.out.row.all
    obtain ⟨z0, z1, z2, z3, z4, z5, z6, z7, z8⟩ := CrAt.all H7.out.res
    have zf0 := CrAt.f H7.out.res 0
    have zf1 := CrAt.f H7.out.res 1
    have zf2 := CrAt.f H7.out.res 2
    have zf3 := CrAt.f H7.out.res 3
    have zf4 := CrAt.f H7.out.res 4
    have zf5 := CrAt.f H7.out.res 5
    have zf6 := CrAt.f H7.out.res 6
    have zf7 := CrAt.f H7.out.res 7
    have zf8 := CrAt.f H7.out.res 8
    try unfold E0 at x4
    try unfold E0 at x5
    try unfold E0 at x6
    try unfold E0 at x7
    try unfold E0 at x8
    try unfold E0 at z2
    try unfold E0 at z4
    try unfold E0 at z5
    try unfold E0 at z6
    try unfold E0 at z7
    try unfold E0 at z8
    by_cases he : e6 = 0
    · have HE : Hid (readC l p e = (⟨V1, V2, ⟨S3.toArray⟩, 4, E0, ⟨O5.toArray⟩, ⟨S5.toArray⟩, ⟨O6.toArray⟩, ⟨S6.toArray⟩⟩, p6, e6)) := hid (by rw [HFIN.out]; unfold fin; simp only; rw [if_pos he])
      go_wp2
      refine bodyPost_ret (results_mid (h := Tryd.results23) _ _ w.heap.size 0 [.int .i64 V1, .int .i64 V2, .string ⟨S3.toArray⟩, .int .i64 4, .string E0, .string ⟨O5.toArray⟩, .string ⟨S5.toArray⟩, .string ⟨O6.toArray⟩, .string ⟨S6.toArray⟩] _ rfl (range_row (nine_set H7.out.res)) Tryd.underlying27 rfl info_cred) rfl ?_
      unfold ReadEnd
      rw [HE.out]
      exact ⟨rfl, res_nine H7.out.cu H7.out.gro (Nat.le_refl _) hgl _ _ _ _ _ _ _ _ _⟩
    · have HE : Hid (readC l p e = (.zero, p6, e6)) := hid (by rw [HFIN.out]; unfold fin; simp only; rw [if_neg he])
      go_wp2
      refine bodyPost_ret (results_mid (h := Tryd.results23) _ _ w.heap.size 0 [.int .i64 0, .int .i64 0, .string E0, .int .i64 0, .string E0, .string E0, .string E0, .string E0, .string E0] _ rfl (range_row (nine_set H7.out.res)) Tryd.underlying27 rfl info_cred) rfl ?_
      unfold ReadEnd
      rw [HE.out]
      exact ⟨rfl, res_nine H7.out.cu H7.out.gro (Nat.le_refl _) hgl _ _ _ _ _ _ _ _ _⟩
  have kb1 : (V4 == 1) = false := beq_eq_false_iff_ne.2 k1
  have kb2 : (V4 == 2) = false := beq_eq_false_iff_ne.2 k2
  have kb3 : (V4 == 3) = false := beq_eq_false_iff_ne.2 k3
  have kb4 : (V4 == 4) = false := beq_eq_false_iff_ne.2 k4
  have HFIN : Hid (readC l p e = fin (⟨V1, V2, ⟨S3.toArray⟩, V4, E0, E0, E0, E0, E0⟩, p4, e4)) := hid (by rw [HRAW.out]; unfold bodyStep; rw [if_neg k1, if_neg k2, if_neg k3, if_neg k4]; try rfl)
  have ec := H5.out.cu.row.c2
  obtain ⟨x0, x1, x2, x3, x4, x5, x6, x7, x8⟩ := H5.out.row.all
  obtain ⟨z0, z1, z2, z3, z4, z5, z6, z7, z8⟩ := CrAt.all H5.out.res
  have zf0 := CrAt.f H5.out.res 0
  have zf1 := CrAt.f H5.out.res 1
  have zf2 := CrAt.f H5.out.res 2
  have zf3 := CrAt.f H5.out.res 3
  have zf4 := CrAt.f H5.out.res 4
  have zf5 := CrAt.f H5.out.res 5
  have zf6 := CrAt.f H5.out.res 6
  have zf7 := CrAt.f H5.out.res 7
  have zf8 := CrAt.f H5.out.res 8
  try unfold E0 at x4
  try unfold E0 at x5
  try unfold E0 at x6
  try unfold E0 at x7
  try unfold E0 at x8
  try unfold E0 at z2
  try unfold E0 at z4
  try unfold E0 at z5
  try unfold E0 at z6
  try unfold E0 at z7
  try unfold E0 at z8
  by_cases he : e4 = 0
  · have HE : Hid (readC l p e = (⟨V1, V2, ⟨S3.toArray⟩, V4, E0, E0, E0, E0, E0⟩, p4, e4)) := hid (by rw [HFIN.out]; unfold fin; simp only; rw [if_pos he])
    go_wp2
    refine bodyPost_ret (results_mid (h := Tryd.results23) _ _ w.heap.size 0 [.int .i64 V1, .int .i64 V2, .string ⟨S3.toArray⟩, .int .i64 V4, .string E0, .string E0, .string E0, .string E0, .string E0] _ rfl (range_row (nine_set H5.out.res)) Tryd.underlying27 rfl info_cred) rfl ?_
    unfold ReadEnd
    rw [HE.out]
    exact ⟨rfl, res_nine H5.out.cu H5.out.gro (Nat.le_refl _) hgl _ _ _ _ _ _ _ _ _⟩
  · have HE : Hid (readC l p e = (.zero, p4, e4)) := hid (by rw [HFIN.out]; unfold fin; simp only; rw [if_neg he])
    go_wp2
    refine bodyPost_ret (results_mid (h := Tryd.results23) _ _ w.heap.size 0 [.int .i64 0, .int .i64 0, .string E0, .int .i64 0, .string E0, .string E0, .string E0, .string E0, .string E0] _ rfl (range_row (nine_set H5.out.res)) Tryd.underlying27 rfl info_cred) rfl ?_
    unfold ReadEnd
    rw [HE.out]
    exact ⟨rfl, res_nine H5.out.cu H5.out.gro (Nat.le_refl _) hgl _ _ _ _ _ _ _ _ _⟩
end Go.Proofs.YtkggagnaiiemlaaDoor.Sh
