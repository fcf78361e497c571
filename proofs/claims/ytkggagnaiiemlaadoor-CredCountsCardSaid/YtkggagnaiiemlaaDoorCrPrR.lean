/-
  The program's own name, role, parts and Read of a credential, by contract.
-/
import Derived.Test.YtkggagnaiiemlaaDoorCrPrB
namespace Go.Proofs.YtkggagnaiiemlaaDoor.Sh
open Go Go.RowKit

set_option maxHeartbeats 2000000 in
theorem cName_any {w : World} {lo hi g n c p : Nat} {A : Option Addr} {l : List UInt8} {e : Int} (h : Cu 69 w lo hi g A n c l p e) :
    Calls Tryd.prog 69 #[.pointer (some ⟨g, 0, none⟩)] w fun er w' => StepC 69 w w' lo hi g A n c l er (.string ⟨(nameStep l p e).1.toArray⟩) (nameStep l p e).2.1 (nameStep l p e).2.2 := by
  have HT := hid (cu_text h 8)
  obtain ⟨S, p1, e1, hx⟩ : ∃ S p1 e1, textStep l p e 8 = (S, p1, e1) := ⟨_, _, _, rfl⟩
  rw [hx] at HT
  have HN : Hid (nameStep l p e = (S, p1, if mayL S = true then e1 else if e1 = 0 then 2 else e1)) := hid (by unfold nameStep; rw [hx])
  clear hx
  have HM := hid (fun w => may_any ⟨S.toArray⟩ w)
  obtain ⟨b, hb⟩ : ∃ b, mayL S = b := ⟨_, rfl⟩
  rw [mk_toList, hb] at HM
  rw [hb] at HN
  clear hb
  go_enter Tryd.func69, Tryd.ntmps69
  go_wp2_with fail
  refine HT.out.mono ?_
  rintro er w1 ⟨rfl, X1, G1⟩
  go_wp2_with fail
  refine (HM.out _).mono ?_
  rintro er w2 ⟨rfl, bb⟩
  have X2 := X1.below bb X1.lt
  have G2 := gro_below G1 bb
  clear bb X1 G1
  cases b with
  | true =>
    go_wp2
    go_ret
    rw [HN.out]
    exact ⟨rfl, X2, G2⟩
  | false =>
    have HF := hid (cu_fail X2 2)
    go_wp2_with fail
    refine HF.out.mono ?_
    rintro er w3 ⟨rfl, X3, G3⟩
    go_wp2
    go_ret
    rw [HN.out]
    exact ⟨rfl, X3, gro_trans G2 G3⟩

set_option maxHeartbeats 2000000 in
theorem cRole_any {w : World} {lo hi g n c p : Nat} {A : Option Addr} {l : List UInt8} {e : Int} (h : Cu 69 w lo hi g A n c l p e) :
    Calls Tryd.prog 70 #[.pointer (some ⟨g, 0, none⟩)] w fun er w' =>
      StepC 69 w w' lo hi g A n c l er (.agg #[.string ⟨(roleStep l p e).1.1.toArray⟩, .string ⟨(roleStep l p e).1.2.toArray⟩]) (roleStep l p e).2.1 (roleStep l p e).2.2 := by
  obtain ⟨V, p1, e1, hx⟩ : ∃ V p1 e1, numStep l p e 1 16 = (V, p1, e1) := ⟨_, _, _, rfl⟩
  obtain ⟨S, p2, e2, hy⟩ : ∃ S p2 e2, nameStep l p1 e1 = (S, p2, e2) := ⟨_, _, _, rfl⟩
  have HR : Hid (roleStep l p e = ((domL V, S), p2, e2)) := hid (by unfold roleStep; rw [hx]; simp only; rw [hy])
  have HV : Hid (-9223372036854775808 ≤ V ∧ V < 9223372036854775808) := hid (by
    obtain ⟨V', p', e', h1, h2, _⟩ := numStep_nat l p e 1 16 (by rw [h.len]; exact h.place)
    rw [hx] at h1
    simp only [Prod.mk.injEq] at h1
    omega)
  have hgl := h.lt
  have hhi := h.hi
  obtain ⟨w1, hw1⟩ : ∃ w1, w1 = w.alloc (.cells #[.string ⟨#[]⟩, .string ⟨#[]⟩] 25) := ⟨_, rfl⟩
  have r1 : RoleAt w1 w.heap.size ⟨#[]⟩ ⟨#[]⟩ := by rw [hw1]; exact RoleAt.new w _ _
  have b1 : Below w.heap.size w w1 := by rw [hw1]; exact below_box w _ _
  have X1 := h.below b1 hgl
  have G1 := gro_below (gro_refl w (some g)) b1
  go_enter Tryd.func70, Tryd.ntmps70
  go_wp2_with fail
  rw [← hw1]
  clear hw1
  refine (cu_number X1 1 16).mono ?_
  rw [hx]
  rintro er w2 ⟨rfl, X2, G2⟩
  have r2 : RoleAt w2 w.heap.size ⟨#[]⟩ ⟨#[]⟩ := (G2.block _ r1.lt (fun e => by injection e with e; omega)).trans r1
  have K2 := gro_trans G1 G2
  clear r1 b1 X1 G1 G2 hx
  go_wp2_with fail
  refine (domain_any V HV.out.1 HV.out.2 w2).mono ?_
  rintro er w3 ⟨rfl, bb⟩
  have r3 := hid (r2.kept bb)
  have X3 := hid (X2.below bb X2.lt)
  have K3 := hid (gro_below K2 bb)
  clear r2 X2 K2 bb
  go_wp2_with fail
  refine (cName_any X3.out).mono ?_
  rw [hy]
  rintro er w5 ⟨rfl, X5, G5⟩
  have r5 : RoleAt w5 w.heap.size ⟨#[]⟩ ⟨#[]⟩ := (G5.block _ r3.out.lt (fun e => by injection e with e; omega)).trans r3.out
  have HX6 := hid X5
  have HK6 := hid (gro_trans K3.out G5)
  clear r3 X3 K3 G5 X5 hy
  have y0 := r5.c0
  have y1 := r5.c1
  have g0 := r5.f 0
  have g1 := r5.f 1
  have HR6 := hid r5
  clear r5
  go_wp2
  refine bodyPost_ret (results_mid (h := Tryd.results70) _ _ w.heap.size 0 [.string ⟨(domL V).toArray⟩, .string ⟨S.toArray⟩] _ rfl (range_row (pair_set HR6.out)) Tryd.underlying25 rfl info_role) rfl ?_
  rw [HR.out]
  refine ⟨rfl, ?_, ?_⟩
  · exact (HX6.out.other (grown_set _ w.heap.size 0 _) (by omega) (.inr (by omega))).other (grown_set _ w.heap.size 1 _) (by omega) (.inr (by omega))
  · exact gro_new (gro_new HK6.out (grown_set _ w.heap.size 0 _) (Nat.le_refl _)) (grown_set _ w.heap.size 1 _) (Nat.le_refl _)

set_option maxHeartbeats 16000000 in
theorem parts_any {w : World} {lo hi g n c p : Nat} {A : Option Addr} {l : List UInt8} {e : Int} (h : Cu 69 w lo hi g A n c l p e) :
    Calls Tryd.prog 50 #[.pointer (some ⟨g, 0, none⟩)] w fun er w' => ReadEnd 69 w w' lo hi g A n c l er (rawC l p e) := by
  obtain ⟨V1, p1, e1, hx1⟩ : ∃ V p' e', numStep l p e 1 16 = (V, p', e') := ⟨_, _, _, rfl⟩
  obtain ⟨V2, p2, e2, hx2⟩ : ∃ V p' e', numStep l p1 e1 1 4000 = (V, p', e') := ⟨_, _, _, rfl⟩
  obtain ⟨S3, p3, e3, hx3⟩ : ∃ V p' e', nameStep l p2 e2 = (V, p', e') := ⟨_, _, _, rfl⟩
  obtain ⟨V4, p4, e4, hx4⟩ : ∃ V p' e', numStep l p3 e3 1 4 = (V, p', e') := ⟨_, _, _, rfl⟩
  have HRAW : Hid (rawC l p e = bodyStep V1 V2 (bL S3) V4 l p4 e4) := hid (by
    unfold rawC
    simp only [hx1, hx2, hx3, hx4])
  have hgl := h.lt
  have hhi := h.hi
  obtain ⟨w1, hw1⟩ : ∃ w1, w1 = (w.alloc (.cells (Crd.cells .zero).toArray 27)).alloc (.cells (Crd.cells .zero).toArray 27) := ⟨_, rfl⟩
  have b1 : Below w.heap.size w w1 := by rw [hw1]; exact (below_cr w _).trans ((below_cr _ _).mono (by rw [World.size_alloc]; exact Nat.le_succ _))
  have r1 : CrAt w1 w.heap.size .zero := by rw [hw1]; exact (CrAt.new w _).kept (below_cr _ _)
  have s1 : CrAt w1 (w.heap.size + 1) .zero := by rw [hw1]; have := CrAt.new (w.alloc (.cells (Crd.cells .zero).toArray 27)) .zero; rwa [World.size_alloc] at this
  have H1 := hid (show Rd 69 w w1 lo hi g A n c l p e (w.heap.size + 1) w.heap.size .zero from ⟨h.below b1 hgl, s1, r1, gro_below (gro_refl w (some g)) b1, by omega, by omega, hgl, by omega⟩)
  clear b1 r1 s1 h
  unfold Crd.zero Crd.cells E0 at hw1
  simp only at hw1
  go_enter Tryd.func50, Tryd.ntmps50
  go_wp2_with fail
  rw [← hw1]
  clear hw1
  refine (cu_number H1.out.cu 1 16).mono ?_
  rw [hx1]
  rintro er w2 hs
  obtain ⟨rfl, q2⟩ := H1.out.step hs
  clear hs H1
  have fz0 := q2.row.f 0
  have fc0 := q2.row.cell 0 _ rfl
  have q2s := q2.set 0 (.int .i64 V1) (q2.row.set0 V1)
  have H2 := hid q2s
  clear q2 q2s
  go_wp2_with fail
  clear fz0 fc0
  refine (cu_number H2.out.cu 1 4000).mono ?_
  rw [hx2]
  rintro er w3 hs
  obtain ⟨rfl, q3⟩ := H2.out.step hs
  clear hs H2
  have fz1 := q3.row.f 1
  have fc1 := q3.row.cell 1 _ rfl
  have q3s := q3.set 1 (.int .i64 V2) (q3.row.set1 V2)
  have H3 := hid q3s
  clear q3 q3s
  go_wp2_with fail
  clear fz1 fc1
  refine (cName_any H3.out.cu).mono ?_
  rw [hx3]
  rintro er w4 hs
  obtain ⟨rfl, q4⟩ := H3.out.step hs
  clear hs H3
  have fz2 := q4.row.f 2
  have fc2 := q4.row.cell 2 _ rfl
  have q4s := q4.set 2 (.string ⟨S3.toArray⟩) (q4.row.set2 ⟨S3.toArray⟩)
  have H4 := hid q4s
  clear q4 q4s
  go_wp2_with fail
  clear fz2 fc2
  refine (cu_number H4.out.cu 1 4).mono ?_
  rw [hx4]
  rintro er w5 hs
  obtain ⟨rfl, q5⟩ := H4.out.step hs
  clear hs H4
  have fz3 := q5.row.f 3
  have fc3 := q5.row.cell 3 _ rfl
  have q5s := q5.set 3 (.int .i64 V4) (q5.row.set3 V4)
  have H5 := hid q5s
  clear q5 q5s
  clear hx1 hx2 hx3 hx4
  have kc := H5.out.row.cell 3 _ rfl
  by_cases k1 : V4 = 1
  · subst k1
    obtain ⟨S5, p5, e5, hy⟩ : ∃ V p' e', nameStep l p4 e4 = (V, p', e') := ⟨_, _, _, rfl⟩
    go_wp2_with fail
    clear fz3 fc3 kc
    refine (cName_any H5.out.cu).mono ?_
    rw [hy]
    rintro er w6 hs
    obtain ⟨rfl, q6⟩ := H5.out.step hs
    clear hs H5
    have fz4 := q6.row.f 4
    have fc4 := q6.row.cell 4 _ rfl
    have q6s := q6.set 4 (.string ⟨S5.toArray⟩) (q6.row.set4 ⟨S5.toArray⟩)
    have H6 := hid q6s
    clear q6 q6s
    have kc := H6.out.row.cell 3 _ rfl
    have HE : Hid (rawC l p e = (⟨V1, V2, ⟨S3.toArray⟩, 1, ⟨S5.toArray⟩, E0, E0, E0, E0⟩, p5, e5)) := hid (by rw [HRAW.out]; rw [bodyStep_1, hy]; try rfl)
    obtain ⟨x0, x1, x2, x3, x4, x5, x6, x7, x8⟩ := H6.out.row.all
    obtain ⟨z0, z1, z2, z3, z4, z5, z6, z7, z8⟩ := CrAt.all H6.out.res
    have zf0 := CrAt.f H6.out.res 0
    have zf1 := CrAt.f H6.out.res 1
    have zf2 := CrAt.f H6.out.res 2
    have zf3 := CrAt.f H6.out.res 3
    have zf4 := CrAt.f H6.out.res 4
    have zf5 := CrAt.f H6.out.res 5
    have zf6 := CrAt.f H6.out.res 6
    have zf7 := CrAt.f H6.out.res 7
    have zf8 := CrAt.f H6.out.res 8
    try unfold E0 at x4
    try unfold E0 at x5
    try unfold E0 at x6
    try unfold E0 at x7
    try unfold E0 at x8
    try unfold E0 at z2
    try unfold E0 at z4
    try unfold E0 at z5
    try unfold E0 at z6
    try unfold E0 at z7
    try unfold E0 at z8
    go_wp2
    refine bodyPost_ret (results_mid (h := Tryd.results50) _ _ w.heap.size 0 [.int .i64 V1, .int .i64 V2, .string ⟨S3.toArray⟩, .int .i64 1, .string ⟨S5.toArray⟩, .string E0, .string E0, .string E0, .string E0] _ rfl (range_row (nine_set H6.out.res)) Tryd.underlying27 rfl info_cred) rfl ?_
    unfold ReadEnd
    rw [HE.out]
    exact ⟨rfl, res_nine H6.out.cu H6.out.gro (Nat.le_refl _) hgl _ _ _ _ _ _ _ _ _⟩
  by_cases k2 : V4 = 2
  · subst k2
    clear k1
    obtain ⟨⟨O5, S5⟩, p5, e5, hy⟩ : ∃ V p' e', roleStep l p4 e4 = (V, p', e') := ⟨_, _, _, rfl⟩
    go_wp2_with fail
    clear fz3 fc3 kc
    refine (cRole_any H5.out.cu).mono ?_
    rw [hy]
    rintro er w6 hs
    obtain ⟨rfl, q6⟩ := H5.out.step hs
    clear hs H5
    have fz5 := q6.row.f 5
    have fc5 := q6.row.cell 5 _ rfl
    have q6s := q6.set 5 (.string ⟨O5.toArray⟩) (q6.row.set5 ⟨O5.toArray⟩)
    have fz6 := q6s.row.f 6
    have fc6 := q6s.row.cell 6 _ rfl
    have q6ss := q6s.set 6 (.string ⟨S5.toArray⟩) (q6s.row.set6 ⟨S5.toArray⟩)
    have H6 := hid q6ss
    clear q6 q6s q6ss
    have kc := H6.out.row.cell 3 _ rfl
    have HE : Hid (rawC l p e = (⟨V1, V2, ⟨S3.toArray⟩, 2, E0, ⟨O5.toArray⟩, ⟨S5.toArray⟩, E0, E0⟩, p5, e5)) := hid (by rw [HRAW.out]; rw [bodyStep_2, hy]; try rfl)
    obtain ⟨x0, x1, x2, x3, x4, x5, x6, x7, x8⟩ := H6.out.row.all
    obtain ⟨z0, z1, z2, z3, z4, z5, z6, z7, z8⟩ := CrAt.all H6.out.res
    have zf0 := CrAt.f H6.out.res 0
    have zf1 := CrAt.f H6.out.res 1
    have zf2 := CrAt.f H6.out.res 2
    have zf3 := CrAt.f H6.out.res 3
    have zf4 := CrAt.f H6.out.res 4
    have zf5 := CrAt.f H6.out.res 5
    have zf6 := CrAt.f H6.out.res 6
    have zf7 := CrAt.f H6.out.res 7
    have zf8 := CrAt.f H6.out.res 8
    try unfold E0 at x4
    try unfold E0 at x5
    try unfold E0 at x6
    try unfold E0 at x7
    try unfold E0 at x8
    try unfold E0 at z2
    try unfold E0 at z4
    try unfold E0 at z5
    try unfold E0 at z6
    try unfold E0 at z7
    try unfold E0 at z8
    go_wp2
    refine bodyPost_ret (results_mid (h := Tryd.results50) _ _ w.heap.size 0 [.int .i64 V1, .int .i64 V2, .string ⟨S3.toArray⟩, .int .i64 2, .string E0, .string ⟨O5.toArray⟩, .string ⟨S5.toArray⟩, .string E0, .string E0] _ rfl (range_row (nine_set H6.out.res)) Tryd.underlying27 rfl info_cred) rfl ?_
    unfold ReadEnd
    rw [HE.out]
    exact ⟨rfl, res_nine H6.out.cu H6.out.gro (Nat.le_refl _) hgl _ _ _ _ _ _ _ _ _⟩
  by_cases k3 : V4 = 3
  · subst k3
    clear k1 k2
    obtain ⟨S5, p5, e5, hy⟩ : ∃ V p' e', nameStep l p4 e4 = (V, p', e') := ⟨_, _, _, rfl⟩
    obtain ⟨S6, p6, e6, hz⟩ : ∃ V p' e', nameStep l p5 e5 = (V, p', e') := ⟨_, _, _, rfl⟩
    go_wp2_with fail
    clear fz3 fc3 kc
    refine (cName_any H5.out.cu).mono ?_
    rw [hy]
    rintro er w6 hs
    obtain ⟨rfl, q6⟩ := H5.out.step hs
    clear hs H5
    have fz6 := q6.row.f 6
    have fc6 := q6.row.cell 6 _ rfl
    have q6s := q6.set 6 (.string ⟨S5.toArray⟩) (q6.row.set6 ⟨S5.toArray⟩)
    have H6 := hid q6s
    clear q6 q6s
    go_wp2_with fail
    clear fz6 fc6
    refine (cName_any H6.out.cu).mono ?_
    rw [hz]
    rintro er w7 hs
    obtain ⟨rfl, q7⟩ := H6.out.step hs
    clear hs H6
    have fz8 := q7.row.f 8
    have fc8 := q7.row.cell 8 _ rfl
    have q7s := q7.set 8 (.string ⟨S6.toArray⟩) (q7.row.set8 ⟨S6.toArray⟩)
    have H7 := hid q7s
    clear q7 q7s
    have kc := H7.out.row.cell 3 _ rfl
    have HE : Hid (rawC l p e = (⟨V1, V2, ⟨S3.toArray⟩, 3, E0, E0, ⟨S5.toArray⟩, E0, ⟨S6.toArray⟩⟩, p6, e6)) := hid (by rw [HRAW.out]; rw [bodyStep_3, hy]; simp only; rw [hz]; try rfl)
    obtain ⟨x0, x1, x2, x3, x4, x5, x6, x7, x8⟩ := H7.out.row.all
    obtain ⟨z0, z1, z2, z3, z4, z5, z6, z7, z8⟩ := CrAt.all H7.out.res
    have zf0 := CrAt.f H7.out.res 0
    have zf1 := CrAt.f H7.out.res 1
    have zf2 := CrAt.f H7.out.res 2
    have zf3 := CrAt.f H7.out.res 3
    have zf4 := CrAt.f H7.out.res 4
    have zf5 := CrAt.f H7.out.res 5
    have zf6 := CrAt.f H7.out.res 6
    have zf7 := CrAt.f H7.out.res 7
    have zf8 := CrAt.f H7.out.res 8
    try unfold E0 at x4
    try unfold E0 at x5
    try unfold E0 at x6
    try unfold E0 at x7
    try unfold E0 at x8
    try unfold E0 at z2
    try unfold E0 at z4
    try unfold E0 at z5
    try unfold E0 at z6
    try unfold E0 at z7
    try unfold E0 at z8
    go_wp2
    refine bodyPost_ret (results_mid (h := Tryd.results50) _ _ w.heap.size 0 [.int .i64 V1, .int .i64 V2, .string ⟨S3.toArray⟩, .int .i64 3, .string E0, .string E0, .string ⟨S5.toArray⟩, .string E0, .string ⟨S6.toArray⟩] _ rfl (range_row (nine_set H7.out.res)) Tryd.underlying27 rfl info_cred) rfl ?_
    unfold ReadEnd
    rw [HE.out]
    exact ⟨rfl, res_nine H7.out.cu H7.out.gro (Nat.le_refl _) hgl _ _ _ _ _ _ _ _ _⟩
  by_cases k4 : V4 = 4
  · subst k4
    clear k1 k2 k3
    obtain ⟨⟨O5, S5⟩, p5, e5, hy⟩ : ∃ V p' e', roleStep l p4 e4 = (V, p', e') := ⟨_, _, _, rfl⟩
    obtain ⟨⟨O6, S6⟩, p6, e6, hz⟩ : ∃ V p' e', roleStep l p5 e5 = (V, p', e') := ⟨_, _, _, rfl⟩
    go_wp2_with fail
    clear fz3 fc3 kc
    refine (cRole_any H5.out.cu).mono ?_
    rw [hy]
    rintro er w6 hs
    obtain ⟨rfl, q6⟩ := H5.out.step hs
    clear hs H5
    have fz5 := q6.row.f 5
    have fc5 := q6.row.cell 5 _ rfl
    have q6s := q6.set 5 (.string ⟨O5.toArray⟩) (q6.row.set5 ⟨O5.toArray⟩)
    have fz6 := q6s.row.f 6
    have fc6 := q6s.row.cell 6 _ rfl
    have q6ss := q6s.set 6 (.string ⟨S5.toArray⟩) (q6s.row.set6 ⟨S5.toArray⟩)
    have H6 := hid q6ss
    clear q6 q6s q6ss
    have kc := H6.out.row.cell 3 _ rfl
    go_wp2_with fail
    clear fz5 fc5 fz6 fc6
    clear kc
    refine (cRole_any H6.out.cu).mono ?_
    rw [hz]
    rintro er w7 hs
    obtain ⟨rfl, q7⟩ := H6.out.step hs
    clear hs H6
    have fz7 := q7.row.f 7
    have fc7 := q7.row.cell 7 _ rfl
    have q7s := q7.set 7 (.string ⟨O6.toArray⟩) (q7.row.set7 ⟨O6.toArray⟩)
    have fz8 := q7s.row.f 8
    have fc8 := q7s.row.cell 8 _ rfl
    have q7ss := q7s.set 8 (.string ⟨S6.toArray⟩) (q7s.row.set8 ⟨S6.toArray⟩)
    have H7 := hid q7ss
    clear q7 q7s q7ss
    have HE : Hid (rawC l p e = (⟨V1, V2, ⟨S3.toArray⟩, 4, E0, ⟨O5.toArray⟩, ⟨S5.toArray⟩, ⟨O6.toArray⟩, ⟨S6.toArray⟩⟩, p6, e6)) := hid (by rw [HRAW.out]; rw [bodyStep_4, hy]; simp only; rw [hz]; try rfl)
    obtain ⟨x0, x1, x2, x3, x4, x5, x6, x7, x8⟩ := H7.out.row.all
    obtain ⟨z0, z1, z2, z3, z4, z5, z6, z7, z8⟩ := CrAt.all H7.out.res
    have zf0 := CrAt.f H7.out.res 0
    have zf1 := CrAt.f H7.out.res 1
    have zf2 := CrAt.f H7.out.res 2
    have zf3 := CrAt.f H7.out.res 3
    have zf4 := CrAt.f H7.out.res 4
    have zf5 := CrAt.f H7.out.res 5
    have zf6 := CrAt.f H7.out.res 6
    have zf7 := CrAt.f H7.out.res 7
    have zf8 := CrAt.f H7.out.res 8
    try unfold E0 at x4
    try unfold E0 at x5
    try unfold E0 at x6
    try unfold E0 at x7
    try unfold E0 at x8
    try unfold E0 at z2
    try unfold E0 at z4
    try unfold E0 at z5
    try unfold E0 at z6
    try unfold E0 at z7
    try unfold E0 at z8
    go_wp2
    refine bodyPost_ret (results_mid (h := Tryd.results50) _ _ w.heap.size 0 [.int .i64 V1, .int .i64 V2, .string ⟨S3.toArray⟩, .int .i64 4, .string E0, .string ⟨O5.toArray⟩, .string ⟨S5.toArray⟩, .string ⟨O6.toArray⟩, .string ⟨S6.toArray⟩] _ rfl (range_row (nine_set H7.out.res)) Tryd.underlying27 rfl info_cred) rfl ?_
    unfold ReadEnd
    rw [HE.out]
    exact ⟨rfl, res_nine H7.out.cu H7.out.gro (Nat.le_refl _) hgl _ _ _ _ _ _ _ _ _⟩
  have kb1 : (V4 == 1) = false := beq_eq_false_iff_ne.2 k1
  have kb2 : (V4 == 2) = false := beq_eq_false_iff_ne.2 k2
  have kb3 : (V4 == 3) = false := beq_eq_false_iff_ne.2 k3
  have kb4 : (V4 == 4) = false := beq_eq_false_iff_ne.2 k4
  have HE : Hid (rawC l p e = (⟨V1, V2, ⟨S3.toArray⟩, V4, E0, E0, E0, E0, E0⟩, p4, e4)) := hid (by rw [HRAW.out]; unfold bodyStep; rw [if_neg k1, if_neg k2, if_neg k3, if_neg k4]; try rfl)
  obtain ⟨x0, x1, x2, x3, x4, x5, x6, x7, x8⟩ := H5.out.row.all
  obtain ⟨z0, z1, z2, z3, z4, z5, z6, z7, z8⟩ := CrAt.all H5.out.res
  have zf0 := CrAt.f H5.out.res 0
  have zf1 := CrAt.f H5.out.res 1
  have zf2 := CrAt.f H5.out.res 2
  have zf3 := CrAt.f H5.out.res 3
  have zf4 := CrAt.f H5.out.res 4
  have zf5 := CrAt.f H5.out.res 5
  have zf6 := CrAt.f H5.out.res 6
  have zf7 := CrAt.f H5.out.res 7
  have zf8 := CrAt.f H5.out.res 8
  try unfold E0 at x4
  try unfold E0 at x5
  try unfold E0 at x6
  try unfold E0 at x7
  try unfold E0 at x8
  try unfold E0 at z2
  try unfold E0 at z4
  try unfold E0 at z5
  try unfold E0 at z6
  try unfold E0 at z7
  try unfold E0 at z8
  go_wp2
  refine bodyPost_ret (results_mid (h := Tryd.results50) _ _ w.heap.size 0 [.int .i64 V1, .int .i64 V2, .string ⟨S3.toArray⟩, .int .i64 V4, .string E0, .string E0, .string E0, .string E0, .string E0] _ rfl (range_row (nine_set H5.out.res)) Tryd.underlying27 rfl info_cred) rfl ?_
  unfold ReadEnd
  rw [HE.out]
  exact ⟨rfl, res_nine H5.out.cu H5.out.gro (Nat.le_refl _) hgl _ _ _ _ _ _ _ _ _⟩
end Go.Proofs.YtkggagnaiiemlaaDoor.Sh
