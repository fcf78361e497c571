/-
  The program's own holders and Text of a credential, by contract.
-/
import Derived.Test.YtkggagnaiiemlaaDoorCrPrB
namespace Go.Proofs.YtkggagnaiiemlaaDoor.Sh
open Go Go.RowKit

/-- What holders answers, kind by kind. -/
def holdB (c : Crd) : ByteArray := bL (textBody c)
theorem hold_1 {c : Crd} (h : c.kd = 1) : holdB c = c.wh := by unfold holdB; rw [textBody_1 h]; exact bL_list _
theorem hold_2 {c : Crd} (h : c.kd = 2) : holdB c = textB c.ao c.an := by refine ba_eq ?_; unfold holdB; rw [textBody_2 h, textB_list]; rfl
theorem hold_3 {c : Crd} (h : c.kd = 3) : holdB c = textB (domB c.d) c.an ++ (⟨#[46]⟩ ++ c.bn) := by
  refine ba_eq ?_
  unfold holdB
  rw [textBody_3 h]
  simp [textB_list, bL, domB]
theorem hold_4 {c : Crd} (h : c.kd = 4) : holdB c = textB c.ao c.an ++ (⟨#[32, 38, 32]⟩ ++ textB c.bo c.bn) := by
  refine ba_eq ?_
  unfold holdB
  rw [textBody_4 h]
  simp [textB_list, bL]
theorem hold_size {c : Crd} (h : mayC c = true) : (holdB c).size ≤ 100 := by
  obtain ⟨m1, m2, m3, m4, m5, m6⟩ := may_sizes h
  have hd := domB_size c.d
  rcases may_kind h with ⟨k, -⟩ | ⟨k, -⟩ | ⟨k, -⟩ | ⟨k, -⟩
  · rw [hold_1 k]; omega
  · rw [hold_2 k, textB_size]; omega
  · rw [hold_3 k]; simp [textB_size, ByteArray.size_append]; have : (⟨#[46]⟩ : ByteArray).size = 1 := rfl; omega
  · rw [hold_4 k]; simp [textB_size, ByteArray.size_append]; have : (⟨#[32, 38, 32]⟩ : ByteArray).size = 3 := rfl; omega
theorem hold_text (c : Crd) : textB (domB c.d) c.nm ++ arrow ++ holdB c = textC c := by
  refine ba_eq ?_
  unfold textC textHead holdB
  simp [textB_list, bL, domB, arrow]
theorem emp_r (s : ByteArray) : s ++ ⟨#[]⟩ = s := ba_eq (by simp)

set_option maxHeartbeats 4000000 in
theorem holders_any (c : Crd) (hm : mayC c = true) (w : World) : Calls Tryd.prog 35 #[.agg c.cells.toArray] w fun e w' => e = .returned (.string (holdB c)) ∧ Below w.heap.size w w' := by
  obtain ⟨w0, hw0⟩ : ∃ w0, w0 = w.alloc (.cells c.cells.toArray 27) := ⟨_, rfl⟩
  have HR0 : Hid (CrAt w0 w.heap.size c) := hid (by rw [hw0]; exact CrAt.new w c)
  have HB0 : Hid (Below w.heap.size w w0) := hid (by rw [hw0]; exact below_cr w c)
  obtain ⟨m1, m2, m3, m4, m5, m6⟩ := may_sizes hm
  obtain ⟨g1, g2, _, _, _⟩ := may_head hm
  have hk := may_kind hm
  have HH1 := hid (@hold_1 c)
  have HH2 := hid (@hold_2 c)
  have HH3 := hid (@hold_3 c)
  have HH4 := hid (@hold_4 c)
  clear hm
  obtain ⟨d, q, nm, kd, wh, ao, an, bo, bn⟩ := c
  have hDs := domB_size d
  simp only at m1 m2 m3 m4 m5 m6 g1 g2 hk HH1 HH2 HH3 HH4
  obtain ⟨D, hD⟩ : ∃ D, domB d = D := ⟨_, rfl⟩
  have HD0 : Hid (∀ w, Calls Tryd.prog 44 #[.int .i64 d] w fun e w' => e = .returned (.string D) ∧ Below w.heap.size w w') := hid (fun w => by rw [← hD]; exact domain_any d (by omega) (by omega) w)
  rw [hD] at hDs HH3
  clear hD
  unfold Crd.cells at hw0 ⊢
  simp only at hw0 ⊢
  obtain ⟨c0, c1, c2, c3, c4, c5, c6, c7, c8⟩ := HR0.out.all
  have HT := hid (fun w => text_names ao an (by omega) w)
  have HU := hid (fun w => text_names bo bn (by omega) w)
  have HV := hid (fun w => text_names D an (by omega) w)
  have ht := textB_size ao an
  have hu := textB_size bo bn
  have hv := textB_size D an
  obtain ⟨T, hT⟩ : ∃ T, textB ao an = T := ⟨_, rfl⟩
  obtain ⟨U, hU⟩ : ∃ U, textB bo bn = U := ⟨_, rfl⟩
  obtain ⟨V, hV⟩ : ∃ V, textB D an = V := ⟨_, rfl⟩
  rw [hT] at HT ht HH2 HH4
  rw [hU] at HU hu HH4
  rw [hV] at HV hv HH3
  clear hT hU hV
  have ht' : (T.size : Int) ≤ 12 := by omega
  have hu' : (U.size : Int) ≤ 12 := by omega
  have hv' : (V.size : Int) ≤ 12 := by omega
  have hbn' : (bn.size : Int) ≤ 8 := by omega
  clear ht hu hv
  rcases hk with ⟨rfl, -⟩ | ⟨rfl, -⟩ | ⟨rfl, -⟩ | ⟨rfl, -⟩
  · have HE := hid (HH1.out rfl)
    go_enter Tryd.func35, Tryd.ntmps35
    rw [hw0] at c0 c1 c2 c3 c4 c5 c6 c7 c8
    go_wp2
    rw [← hw0]
    go_ret
    exact ⟨by rw [HE.out]; rfl, HB0.out⟩
  · have HE := hid (HH2.out rfl)
    go_enter Tryd.func35, Tryd.ntmps35
    rw [hw0] at c0 c1 c2 c3 c4 c5 c6 c7 c8
    go_wp2_with fail
    rw [← hw0] at c0 c1 c2 c3 c4 c5 c6 c7 c8 ⊢
    clear hw0
    refine (HT.out _).mono ?_
    rintro er w1 ⟨rfl, bb⟩
    have HB1 := hid (HB0.out.trans (bb.mono HB0.out.size))
    clear bb c0 c1 c2 c3 c4 c5 c6 c7 c8
    go_wp2
    go_ret
    exact ⟨by rw [HE.out]; first | rfl | (rw [emp_r]; rfl) | (simp only [emp_r]; rfl), HB1.out⟩
  · have HE := hid (HH3.out rfl)
    go_enter Tryd.func35, Tryd.ntmps35
    rw [hw0] at c0 c1 c2 c3 c4 c5 c6 c7 c8
    go_wp2_with fail
    rw [← hw0] at c0 c1 c2 c3 c4 c5 c6 c7 c8 ⊢
    clear hw0
    refine (HD0.out _).mono ?_
    rintro er w1 ⟨rfl, bb⟩
    have HR1 := hid (HR0.out.kept bb)
    have HB1 := hid (HB0.out.trans (bb.mono HB0.out.size))
    clear bb c0 c1 c2 c3 c4 c5 c6 c7 c8
    have f5 := HR1.out.f 5
    obtain ⟨c0, c1, c2, c3, c4, c5, c6, c7, c8⟩ := HR1.out.all
    have HR2 := hid (HR1.out.set5 D)
    have HB2 := hid (HB1.out.setCell (p := ⟨w.heap.size, 5, none⟩) (Nat.le_refl _) (.string D))
    go_wp2_with fail
    refine (HV.out _).mono ?_
    rintro er w3 ⟨rfl, bb⟩
    have HB3 := hid (HB2.out.trans (bb.mono HB2.out.size))
    clear bb c0 c1 c2 c3 c4 c5 c6 c7 c8 f5
    go_wp2
    go_ret
    exact ⟨by rw [HE.out]; rfl, HB3.out⟩
  · have HE := hid (HH4.out rfl)
    go_enter Tryd.func35, Tryd.ntmps35
    rw [hw0] at c0 c1 c2 c3 c4 c5 c6 c7 c8
    go_wp2_with fail
    rw [← hw0] at c0 c1 c2 c3 c4 c5 c6 c7 c8 ⊢
    clear hw0
    refine (HU.out _).mono ?_
    rintro er w1 ⟨rfl, bb⟩
    have HR1 := hid (HR0.out.kept bb)
    have HB1 := hid (HB0.out.trans (bb.mono HB0.out.size))
    clear bb c0 c1 c2 c3 c4 c5 c6 c7 c8
    obtain ⟨c0, c1, c2, c3, c4, c5, c6, c7, c8⟩ := HR1.out.all
    go_wp2_with fail
    refine (HT.out _).mono ?_
    rintro er w2 ⟨rfl, bb⟩
    have HB2 := hid (HB1.out.trans (bb.mono HB1.out.size))
    clear bb c0 c1 c2 c3 c4 c5 c6 c7 c8
    go_wp2
    go_ret
    exact ⟨by rw [HE.out]; rfl, HB2.out⟩

set_option maxHeartbeats 4000000 in
theorem textC_any (c : Crd) (w : World) : Calls Tryd.prog 11 #[.agg c.cells.toArray] w fun e w' => e = textEnd c ∧ Below w.heap.size w w' := by
  obtain ⟨b, hb⟩ : ∃ b, mayC c = b := ⟨_, rfl⟩
  have HM := hid (fun w => hb ▸ mayC_any c w)
  obtain ⟨w0, hw0⟩ : ∃ w0, w0 = w.alloc (.cells c.cells.toArray 27) := ⟨_, rfl⟩
  have HR0 : Hid (CrAt w0 w.heap.size c) := hid (by rw [hw0]; exact CrAt.new w c)
  have HB0 : Hid (Below w.heap.size w w0) := hid (by rw [hw0]; exact below_cr w c)
  have HE : Hid (textEnd c = .returned (.tuple (if b = true then #[.string (textC c), .int .i64 0] else #[.string E0, .int .i64 11]))) := hid (by unfold textEnd; rw [hb])
  have HHT := hid (hold_text c)
  cases b with
  | false =>
    clear HHT
    obtain ⟨d, q, nm, kd, wh, ao, an, bo, bn⟩ := c
    unfold Crd.cells at hw0 HM ⊢
    simp only at hw0 HM ⊢
    obtain ⟨c0, c1, c2, c3, c4, c5, c6, c7, c8⟩ := HR0.out.all
    clear hb
    go_enter Tryd.func11, Tryd.ntmps11
    rw [hw0] at c0 c1 c2 c3 c4 c5 c6 c7 c8
    go_wp2_with fail
    rw [← hw0] at c0 c1 c2 c3 c4 c5 c6 c7 c8 ⊢
    clear hw0
    refine (HM.out w0).mono ?_
    rintro er w1 ⟨rfl, bb⟩
    have HB1 := hid (HB0.out.trans (bb.mono HB0.out.size))
    clear bb c0 c1 c2 c3 c4 c5 c6 c7 c8
    go_wp2
    go_ret2
    exact ⟨by rw [HE.out]; rfl, HB1.out⟩
  | true =>
    have hs := hold_size hb
    obtain ⟨g1, g2, _, _, _⟩ := may_head hb
    obtain ⟨m1, _⟩ := may_sizes hb
    have HO := hid (fun w => holders_any c hb w)
    have HR := hid (fun w => roleC_any c (by omega) (by omega) w)
    have hd := domB_size c.d
    obtain ⟨D, hD⟩ : ∃ D, domB c.d = D := ⟨_, rfl⟩
    rw [hD] at HR hd HHT
    clear hD hb
    obtain ⟨O, hO⟩ : ∃ O, holdB c = O := ⟨_, rfl⟩
    rw [hO] at HO hs HHT
    clear hO
    obtain ⟨R, hR⟩ : ∃ R, textC c = R := ⟨_, rfl⟩
    rw [hR] at HE HHT
    clear hR
    obtain ⟨d, q, nm, kd, wh, ao, an, bo, bn⟩ := c
    simp only at g1 g2 m1 HR HHT
    have HT := hid (fun w => text_names D nm (by omega) w)
    have ht := textB_size D nm
    obtain ⟨T, hT⟩ : ∃ T, textB D nm = T := ⟨_, rfl⟩
    rw [hT] at HT ht HHT
    clear hT
    have ht' : (T.size : Int) ≤ 12 := by omega
    have hs' : (O.size : Int) ≤ 100 := by omega
    clear ht hs
    unfold Crd.cells at hw0 HM HO HR ⊢
    simp only at hw0 HM HO HR ⊢
    obtain ⟨c0, c1, c2, c3, c4, c5, c6, c7, c8⟩ := HR0.out.all
    go_enter Tryd.func11, Tryd.ntmps11
    rw [hw0] at c0 c1 c2 c3 c4 c5 c6 c7 c8
    go_wp2_with fail
    rw [← hw0] at c0 c1 c2 c3 c4 c5 c6 c7 c8 ⊢
    clear hw0
    refine (HM.out w0).mono ?_
    rintro er w1 ⟨rfl, bb⟩
    have r1 := HR0.out.kept bb
    have H0 := hid (HB0.out.trans (bb.mono HB0.out.size))
    clear bb c0 c1 c2 c3 c4 c5 c6 c7 c8
    have HK := hid (fun W (hW : Below w1.heap.size w1 W) => ((r1.kept hW).all : W.cell? ⟨w.heap.size, 0, none⟩ = some (.int .i64 d) ∧ W.cell? ⟨w.heap.size, 1, none⟩ = some (.int .i64 q) ∧ W.cell? ⟨w.heap.size, 2, none⟩ = some (.string nm) ∧ W.cell? ⟨w.heap.size, 3, none⟩ = some (.int .i64 kd) ∧ W.cell? ⟨w.heap.size, 4, none⟩ = some (.string wh) ∧ W.cell? ⟨w.heap.size, 5, none⟩ = some (.string ao) ∧ W.cell? ⟨w.heap.size, 6, none⟩ = some (.string an) ∧ W.cell? ⟨w.heap.size, 7, none⟩ = some (.string bo) ∧ W.cell? ⟨w.heap.size, 8, none⟩ = some (.string bn)))
    have HD := hid (Below.refl w1.heap.size w1).drew
    clear r1
    go_wp2_with fail
    obtain ⟨k0, k1, k2, k3, k4, k5, k6, k7, k8⟩ := HK.out _ HD.out
    go_region_with ((first
      | (go_at_call 15; (refine (HR.out _).mono ?_); rintro er w5 ⟨rfl, bb⟩; have B1 := hid (kept_trans HD.out HD.out.size bb); (obtain ⟨k0, k1, k2, k3, k4, k5, k6, k7, k8⟩ := HK.out _ B1.out); clear bb)
      | (go_at_call 34; (refine (HT.out _).mono ?_); rintro er w6 ⟨rfl, bb⟩; have B2 := hid (kept_trans B1.out B1.out.size bb); (obtain ⟨k0, k1, k2, k3, k4, k5, k6, k7, k8⟩ := HK.out _ B2.out); clear bb)
      | (go_at_call 35; (refine (HO.out _).mono ?_); rintro er w7 ⟨rfl, bb⟩; have B3 := hid (kept_trans B2.out B2.out.size bb); clear bb)))
    all_goals
      go_wp2
      go_ret2
      exact ⟨by rw [HE.out, ← HHT.out]; rfl, H0.out.trans (B3.out.mono H0.out.size)⟩
end Go.Proofs.YtkggagnaiiemlaaDoor.Sh
