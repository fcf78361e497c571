/-
  The program's own readCaveat and list of caveats, by contract. Written by mk_tkrdd.py.
-/
import Derived.Test.YtaadmgbmaekicaaGreatDoorJn49
set_option linter.unusedVariables false
set_option linter.unusedSimpArgs false
namespace Go.Proofs.YtaadmgbmaekicaaGreatDoor.Sh
open Go Go.RowKit

set_option linter.unusedSimpArgs false
set_option linter.unusedVariables false
theorem RowX.lower {α : Type} {E : Enc α} {T : TypeId} {w : World} {B B' n c : Nat} {A : Option Addr} {l : List α} (h : RowX E T w B A n c l) (hb : B' ≤ B) : RowX E T w B' A n c l := by
  obtain ⟨U, h⟩ := h
  exact ⟨U, h.wide hb (Nat.le_refl _)⟩
theorem gro_four (w : World) (g : Nat) (u0 u1 u2 u3 : Value) : w.grownBy ((((w.setCell ⟨g, 0, none⟩ u0).setCell ⟨g, 1, none⟩ u1).setCell ⟨g, 2, none⟩ u2).setCell ⟨g, 3, none⟩ u3) (some g) :=
  gro_trans (gro_trans (gro_trans (grown_set w g 0 u0) (grown_set _ g 1 u1)) (grown_set _ g 2 u2)) (grown_set _ g 3 u3)
theorem ChAt.put4 {w : World} {g : Nat} {h : CH} (a : ChAt w g h) (x : CH) : ChAt ((((w.setCell ⟨g, 0, none⟩ (.int .i64 x.kind)).setCell ⟨g, 1, none⟩ (.slice x.rA x.rn x.rc)).setCell ⟨g, 2, none⟩ (.int .i64 x.til)).setCell ⟨g, 3, none⟩ (.string x.aud)) g x := by
  have h1 := ChAt.set0 a x.kind
  have h2 := ChAt.set1 h1 x.rA x.rn x.rc
  have h3 := ChAt.set2 h2 x.til
  have h4 := ChAt.set3 h3 x.aud
  exact h4
/-- What reading a caveat answers. -/
def ReadCav (T : TypeId) (w w' : World) (lo hi g : Nat) (A : Option Addr) (n c : Nat) (l : List UInt8) (er : Ending) (x : Cav × Nat × Int) : Prop :=
  ∃ ch : CH, er = .returned (.agg ch.cells.toArray) ∧ (ch.kind = x.1.kind ∧ ch.til = x.1.til ∧ ch.aud = x.1.aud) ∧ RowX encR 69 w' w.heap.size ch.rA ch.rn ch.rc x.1.roles ∧ Cu T w' lo hi g A n c l x.2.1 x.2.2 ∧ w.grownBy w' (some g)
set_option maxHeartbeats 8000000 in
theorem readCavT_any {w : World} {lo hi g n c p : Nat} {A : Option Addr} {l : List UInt8} {e : Int} (h : Cu 76 w lo hi g A n c l p e) :
    Calls Tryz.prog 94 #[.pointer (some ⟨g, 0, none⟩)] w fun er w' => ReadCav 76 w w' lo hi g A n c l er (cavStep l p e) := by
  obtain ⟨V, q2, d2, hx⟩ : ∃ V p1 e1, numStep l p e 1 3 = (V, p1, e1) := ⟨_, _, _, rfl⟩
  have HCS : Hid (cavStep l p e = cavTail l V q2 d2) := hid (by unfold cavStep; simp only [hx])
  have HGL : Hid (g < w.heap.size) := hid h.lt
  have HX := hid hx
  obtain ⟨w1, hw1⟩ : ∃ w1, w1 = w.alloc (.cells #[.int .i64 0, .slice none 0 0, .int .i64 0, .string ⟨#[]⟩] 51) := ⟨_, rfl⟩
  have b1 : Below w.heap.size w w1 := by rw [hw1]; exact (Below.refl _ _).alloc (Nat.le_refl _) _
  have HR1 : Hid (ChAt w1 w.heap.size ⟨0, none, 0, 0, 0, E0⟩) := hid (by rw [hw1]; exact ChAt.new w ⟨0, none, 0, 0, 0, E0⟩)
  have HC1 := hid (h.below b1 h.lt)
  have HG1 := hid (gro_below (gro_refl w (some g)) b1)
  have HW := hid hw1
  clear h hx hw1 b1
  go_enter Tryz.func94, Tryz.ntmps94
  go_wp2_with fail
  rw [← HW.out]
  clear HW
  refine (cu_number HC1.out 1 3).mono ?_
  rw [HX.out]
  rintro er w2 ⟨rfl, X2, G2⟩
  have HR2 := hid (HR1.out.gro G2 (by have := HGL.out; omega))
  have HG2 := hid (gro_trans HG1.out G2)
  obtain ⟨gx, hgx⟩ : ∃ y, y = w2.heap.size := ⟨_, rfl⟩
  obtain ⟨u3, hu⟩ : ∃ y, y = w2.alloc (.cells #[.int .i64 V, .slice none 0 0, .int .i64 0, .string ⟨#[]⟩] 51) := ⟨_, rfl⟩
  have hb3 : Below w2.heap.size w2 u3 := by rw [hu]; exact (Below.refl _ _).alloc (Nat.le_refl _) _
  have HC3 := hid (X2.below hb3 X2.lt)
  have HX3 : Hid (ChAt u3 gx ⟨V, none, 0, 0, 0, E0⟩) := hid (by rw [hu, hgx]; exact ChAt.new w2 ⟨V, none, 0, 0, 0, E0⟩)
  have HR3 := hid (HR2.out.below hb3)
  have HG3 := hid (gro_below HG2.out hb3)
  have HGX : Hid (w.heap.size + 1 ≤ gx) := hid (by rw [hgx]; exact HR2.out.lt)
  have HU := hid hu
  have HGXX := hid hgx
  clear X2 G2 HR1 HC1 HG1 HR2 HG2 hb3 hu hgx HX
  go_upto_region 2 with fail
  rw [← HU.out, ← HGXX.out]
  clear HU HGXX
  by_cases k1 : V = 1
  · subst k1
    obtain ⟨x0, x1, x2, x3⟩ := HX3.out.all
    simp only at x0 x1 x2 x3
    go_wp2_with fail
    clear x0 x1 x2 x3
    obtain ⟨cr, q3, d3, hy⟩ : ∃ a b d, rollsStep l q2 d2 = (a, b, d) := ⟨_, _, _, rfl⟩
    have HCT : Hid (cavTail l 1 q2 d2 = (⟨1, cr, 0, E0⟩, q3, d3)) := hid (by unfold cavTail; rw [if_pos rfl, hy])
    have HB := hid hy
    clear hy
    refine (listR_any HC3.out).mono ?_
    rw [HB.out]
    rintro er u4 ⟨xA, xn, xc, rfl, hl5, ho5, X4, hg5⟩
    have HXR4 := hid (RowX.own (B := w.heap.size + 1) ho5 hl5 (by have := HGX.out; have := HX3.out.lt; omega))
    have HC4 := hid X4
    have HR4 := hid (HR3.out.gro hg5 (by have := HGL.out; omega))
    have HX4 := hid (HX3.out.gro hg5 (by have := HGX.out; have := HGL.out; omega))
    have HG4 := hid (gro_trans HG3.out hg5)
    obtain ⟨u5, hu⟩ : ∃ y, y = u4.setCell ⟨gx, 1, none⟩ (.slice xA xn xc) := ⟨_, rfl⟩
    have hgu : u4.grownBy u5 (some gx) := by rw [hu]; exact grown_set _ _ _ _
    have HC5 := hid (HC4.out.other hgu (by have := HGX.out; have := HGL.out; omega) (.inr (by have := HC4.out.hi; have := HGX.out; have := HGL.out; omega)))
    have HX5 : Hid (ChAt u5 gx ⟨1, xA, xn, xc, 0, E0⟩) := hid (by rw [hu]; exact HX4.out.set1 _ _ _)
    have HR5 := hid (HR4.out.gro hgu (by have := HGX.out; omega))
    have HG5 := hid (gro_new HG4.out hgu (by have := HGX.out; omega))
    have HU := hid hu
    obtain ⟨x0, x1, x2, x3⟩ := HX4.out.all
    have x4 := HX4.out.f 1
    simp only at x0 x1 x2 x3
    obtain ⟨y0, y1, y2, y3⟩ := HX5.out.all
    simp only at y0 y1 y2 y3
    have HXR : Hid (RowX encR 69 u5 (w.heap.size + 1) xA xn xc cr) := hid (HXR4.out.keptT (KeptT.row _ HX4.out hgu (by decide)))
    clear hl5 ho5 X4 hg5 hu hgu HXR4 HC3 HX3 HR3 HG3 HC4 HX4 HR4 HG4 HB
    go_upto_region 9 with fail
    rw [← HU.out]
    clear HU x0 x1 x2 x3 x4 y0 y1 y2 y3
    obtain ⟨x0, x1, x2, x3⟩ := HX5.out.all
    obtain ⟨z0, z1, z2, z3⟩ := HR5.out.all
    have g0 := HR5.out.f 0
    have g1 := HR5.out.f 1
    have g2 := HR5.out.f 2
    have g3 := HR5.out.f 3
    simp only at x0 x1 x2 x3 z0 z1 z2 z3
    have HPUT := hid (HR5.out.put4 ⟨1, xA, xn, xc, 0, E0⟩)
    have HGR := hid (gro_four u5 w.heap.size (.int .i64 1) (.slice xA xn xc) (.int .i64 0) (.string E0))
    go_wp2_with fail
    refine bodyPost_ret (results_mid (h := Tryz.results94) _ _ w.heap.size 0 (CH.cells ⟨1, xA, xn, xc, 0, E0⟩) _ rfl (range_row HPUT.out) Tryz.underlying51 rfl info_cav) rfl ?_
    rw [HCS.out, HCT.out]
    exact ⟨⟨1, xA, xn, xc, 0, E0⟩, rfl, ⟨rfl, rfl, rfl⟩, (HXR.out.keptT (KeptT.gro _ HGR.out (by omega))).lower (by omega), HC5.out.other HGR.out (by have := HGL.out; omega) (.inr (by have := HC5.out.hi; have := HGL.out; omega)), gro_new HG5.out HGR.out (Nat.le_refl _)⟩
  by_cases k2 : V = 2
  · subst k2
    obtain ⟨x0, x1, x2, x3⟩ := HX3.out.all
    simp only at x0 x1 x2 x3
    go_wp2_with fail
    clear x0 x1 x2 x3
    obtain ⟨S, q3, d3, hy⟩ : ∃ a b d, numStep l q2 d2 0 1099511627776 = (a, b, d) := ⟨_, _, _, rfl⟩
    have HCT : Hid (cavTail l 2 q2 d2 = (⟨2, [], S, E0⟩, q3, d3)) := hid (by unfold cavTail; rw [if_neg (by omega), if_pos rfl, hy])
    have HB := hid hy
    clear hy
    refine (cu_number HC3.out 0 1099511627776).mono ?_
    rw [HB.out]
    rintro er u4 ⟨rfl, X4, hg5⟩
    have HC4 := hid X4
    have HR4 := hid (HR3.out.gro hg5 (by have := HGL.out; omega))
    have HX4 := hid (HX3.out.gro hg5 (by have := HGX.out; have := HGL.out; omega))
    have HG4 := hid (gro_trans HG3.out hg5)
    obtain ⟨u5, hu⟩ : ∃ y, y = u4.setCell ⟨gx, 2, none⟩ (.int .i64 S) := ⟨_, rfl⟩
    have hgu : u4.grownBy u5 (some gx) := by rw [hu]; exact grown_set _ _ _ _
    have HC5 := hid (HC4.out.other hgu (by have := HGX.out; have := HGL.out; omega) (.inr (by have := HC4.out.hi; have := HGX.out; have := HGL.out; omega)))
    have HX5 : Hid (ChAt u5 gx ⟨2, none, 0, 0, S, E0⟩) := hid (by rw [hu]; exact HX4.out.set2 _)
    have HR5 := hid (HR4.out.gro hgu (by have := HGX.out; omega))
    have HG5 := hid (gro_new HG4.out hgu (by have := HGX.out; omega))
    have HU := hid hu
    obtain ⟨x0, x1, x2, x3⟩ := HX4.out.all
    have x4 := HX4.out.f 2
    simp only at x0 x1 x2 x3
    obtain ⟨y0, y1, y2, y3⟩ := HX5.out.all
    simp only at y0 y1 y2 y3
    have HXR : Hid (RowX encR 69 u5 (w.heap.size + 1) none 0 0 ([] : List Ro)) := hid RowX.nil
    clear X4 hg5 hu hgu HC3 HX3 HR3 HG3 HC4 HX4 HR4 HG4 HB
    go_upto_region 9 with fail
    rw [← HU.out]
    clear HU x0 x1 x2 x3 x4 y0 y1 y2 y3
    obtain ⟨x0, x1, x2, x3⟩ := HX5.out.all
    obtain ⟨z0, z1, z2, z3⟩ := HR5.out.all
    have g0 := HR5.out.f 0
    have g1 := HR5.out.f 1
    have g2 := HR5.out.f 2
    have g3 := HR5.out.f 3
    simp only at x0 x1 x2 x3 z0 z1 z2 z3
    have HPUT := hid (HR5.out.put4 ⟨2, none, 0, 0, S, E0⟩)
    have HGR := hid (gro_four u5 w.heap.size (.int .i64 2) (.slice none 0 0) (.int .i64 S) (.string E0))
    go_wp2_with fail
    refine bodyPost_ret (results_mid (h := Tryz.results94) _ _ w.heap.size 0 (CH.cells ⟨2, none, 0, 0, S, E0⟩) _ rfl (range_row HPUT.out) Tryz.underlying51 rfl info_cav) rfl ?_
    rw [HCS.out, HCT.out]
    exact ⟨⟨2, none, 0, 0, S, E0⟩, rfl, ⟨rfl, rfl, rfl⟩, (HXR.out.keptT (KeptT.gro _ HGR.out (by omega))).lower (by omega), HC5.out.other HGR.out (by have := HGL.out; omega) (.inr (by have := HC5.out.hi; have := HGL.out; omega)), gro_new HG5.out HGR.out (Nat.le_refl _)⟩
  by_cases k3 : V = 3
  · subst k3
    obtain ⟨x0, x1, x2, x3⟩ := HX3.out.all
    simp only at x0 x1 x2 x3
    go_wp2_with fail
    clear x0 x1 x2 x3
    obtain ⟨S, q3, d3, hy⟩ : ∃ a b d, textStep l q2 d2 8 = (a, b, d) := ⟨_, _, _, rfl⟩
    have HCT : Hid (cavTail l 3 q2 d2 = (⟨3, [], 0, ⟨S.toArray⟩⟩, q3, d3)) := hid (by unfold cavTail; rw [if_neg (by omega), if_neg (by omega), if_pos rfl, hy]; rfl)
    have HB := hid hy
    clear hy
    refine (cu_text HC3.out 8).mono ?_
    rw [HB.out]
    rintro er u4 ⟨rfl, X4, hg5⟩
    have HC4 := hid X4
    have HR4 := hid (HR3.out.gro hg5 (by have := HGL.out; omega))
    have HX4 := hid (HX3.out.gro hg5 (by have := HGX.out; have := HGL.out; omega))
    have HG4 := hid (gro_trans HG3.out hg5)
    obtain ⟨u5, hu⟩ : ∃ y, y = u4.setCell ⟨gx, 3, none⟩ (.string ⟨S.toArray⟩) := ⟨_, rfl⟩
    have hgu : u4.grownBy u5 (some gx) := by rw [hu]; exact grown_set _ _ _ _
    have HC5 := hid (HC4.out.other hgu (by have := HGX.out; have := HGL.out; omega) (.inr (by have := HC4.out.hi; have := HGX.out; have := HGL.out; omega)))
    have HX5 : Hid (ChAt u5 gx ⟨3, none, 0, 0, 0, ⟨S.toArray⟩⟩) := hid (by rw [hu]; exact HX4.out.set3 _)
    have HR5 := hid (HR4.out.gro hgu (by have := HGX.out; omega))
    have HG5 := hid (gro_new HG4.out hgu (by have := HGX.out; omega))
    have HU := hid hu
    obtain ⟨x0, x1, x2, x3⟩ := HX4.out.all
    have x4 := HX4.out.f 3
    simp only at x0 x1 x2 x3
    obtain ⟨y0, y1, y2, y3⟩ := HX5.out.all
    simp only at y0 y1 y2 y3
    have HXR : Hid (RowX encR 69 u5 (w.heap.size + 1) none 0 0 ([] : List Ro)) := hid RowX.nil
    clear X4 hg5 hu hgu HC3 HX3 HR3 HG3 HC4 HX4 HR4 HG4 HB
    go_upto_region 9 with fail
    rw [← HU.out]
    clear HU x0 x1 x2 x3 x4 y0 y1 y2 y3
    obtain ⟨x0, x1, x2, x3⟩ := HX5.out.all
    obtain ⟨z0, z1, z2, z3⟩ := HR5.out.all
    have g0 := HR5.out.f 0
    have g1 := HR5.out.f 1
    have g2 := HR5.out.f 2
    have g3 := HR5.out.f 3
    simp only at x0 x1 x2 x3 z0 z1 z2 z3
    have HPUT := hid (HR5.out.put4 ⟨3, none, 0, 0, 0, ⟨S.toArray⟩⟩)
    have HGR := hid (gro_four u5 w.heap.size (.int .i64 3) (.slice none 0 0) (.int .i64 0) (.string ⟨S.toArray⟩))
    go_wp2_with fail
    refine bodyPost_ret (results_mid (h := Tryz.results94) _ _ w.heap.size 0 (CH.cells ⟨3, none, 0, 0, 0, ⟨S.toArray⟩⟩) _ rfl (range_row HPUT.out) Tryz.underlying51 rfl info_cav) rfl ?_
    rw [HCS.out, HCT.out]
    exact ⟨⟨3, none, 0, 0, 0, ⟨S.toArray⟩⟩, rfl, ⟨rfl, rfl, rfl⟩, (HXR.out.keptT (KeptT.gro _ HGR.out (by omega))).lower (by omega), HC5.out.other HGR.out (by have := HGL.out; omega) (.inr (by have := HC5.out.hi; have := HGL.out; omega)), gro_new HG5.out HGR.out (Nat.le_refl _)⟩
  have kb1 : (V == 1) = false := beq_eq_false_iff_ne.2 k1
  have kb2 : (V == 2) = false := beq_eq_false_iff_ne.2 k2
  have kb3 : (V == 3) = false := beq_eq_false_iff_ne.2 k3
  obtain ⟨x0, x1, x2, x3⟩ := HX3.out.all
  simp only at x0 x1 x2 x3
  have HXR : Hid (RowX encR 69 u3 (w.heap.size + 1) none 0 0 ([] : List Ro)) := hid RowX.nil
  have HCT : Hid (cavTail l V q2 d2 = (⟨V, [], 0, E0⟩, q2, d2)) := hid (by unfold cavTail; rw [if_neg k1, if_neg k2, if_neg k3])
  go_upto_region 9 with fail
  clear x0 x1 x2 x3
  obtain ⟨x0, x1, x2, x3⟩ := HX3.out.all
  obtain ⟨z0, z1, z2, z3⟩ := HR3.out.all
  have g0 := HR3.out.f 0
  have g1 := HR3.out.f 1
  have g2 := HR3.out.f 2
  have g3 := HR3.out.f 3
  simp only at x0 x1 x2 x3 z0 z1 z2 z3
  have HPUT := hid (HR3.out.put4 ⟨V, none, 0, 0, 0, E0⟩)
  have HGR := hid (gro_four u3 w.heap.size (.int .i64 V) (.slice none 0 0) (.int .i64 0) (.string E0))
  go_wp2_with fail
  refine bodyPost_ret (results_mid (h := Tryz.results94) _ _ w.heap.size 0 (CH.cells ⟨V, none, 0, 0, 0, E0⟩) _ rfl (range_row HPUT.out) Tryz.underlying51 rfl info_cav) rfl ?_
  rw [HCS.out, HCT.out]
  exact ⟨⟨V, none, 0, 0, 0, E0⟩, rfl, ⟨rfl, rfl, rfl⟩, (HXR.out.keptT (KeptT.gro _ HGR.out (by omega))).lower (by omega), HC3.out.other HGR.out (by have := HGL.out; omega) (.inr (by have := HC3.out.hi; have := HGL.out; omega)), gro_new HG3.out HGR.out (Nat.le_refl _)⟩

/-- What reading a row of caveats answers. -/
def ReadCavs (T : TypeId) (w w' : World) (lo hi g : Nat) (A : Option Addr) (n c : Nat) (l : List UInt8) (er : Ending) (x : List Cav × Nat × Int) : Prop :=
  ∃ (A' : Option Addr) (m c' : Nat) (hs : List CH), er = .returned (.slice A' m c') ∧ hs.length = m ∧ hs.length = x.1.length ∧ Own (E := encC) w' w.heap.size 51 (.slice A' m c') hs ∧ CvR w' w.heap.size hs x.1 ∧ Cu T w' lo hi g A n c l x.2.1 x.2.2 ∧ w.grownBy w' (some g)
set_option maxHeartbeats 8000000 in
theorem listC_any {w : World} {lo hi g n c p : Nat} {A : Option Addr} {l : List UInt8} {e : Int} (h : Cu 76 w lo hi g A n c l p e) :
    Calls Tryz.prog 93 #[.pointer (some ⟨g, 0, none⟩), .int .i64 6, .func (.func 94) #[] #[]] w fun er w' => ReadCavs 76 w w' lo hi g A n c l er (cavsStep l p e) := by
  obtain ⟨Z, hZ⟩ : ∃ Z, numStep l p e 0 6 = Z := ⟨_, rfl⟩
  have hb := numStep_bound l p e 0 6 (by omega)
  have HN := hid (cu_number h 0 6)
  rw [hZ] at hb HN
  obtain ⟨z, p1, e1⟩ := Z
  obtain ⟨k, hk⟩ : ∃ k : Nat, z = (k : Int) := ⟨z.toNat, by simp only at hb; omega⟩
  subst hk
  simp only at hb HN
  have hkm : k ≤ 6 := by omega
  have HRV : Hid (cavsStep l p e = many (cavStep l) k p1 e1) := hid (by unfold cavsStep; simp only [hZ]; rfl)
  have HGL : Hid (g < w.heap.size) := hid h.lt
  clear h hZ hb
  go_enter Tryz.func93, Tryz.ntmps93
  go_wp2_with fail
  refine HN.out.mono ?_
  rintro er w1 ⟨rfl, hc1, hg1⟩
  have HC1 := hid hc1
  have HG1 := hid hg1
  clear hc1 hg1
  go_wp2_with fail
  go_loopw [7, 11] (fun v i wr => ∃ (A1 : Option Addr) (c1 j : Nat) (hs : List CH), v = .slice A1 j c1 ∧ i = .int .i64 (j : Int) ∧ j ≤ k ∧ Hid (hs.length = j) ∧ Hid (Own (E := encC) wr w.heap.size 51 (.slice A1 j c1) hs) ∧ Hid (CvR wr w.heap.size hs (many (cavStep l) j p1 e1).1) ∧ Hid (Cu 76 wr lo hi g A n c l (many (cavStep l) j p1 e1).2.1 (many (cavStep l) j p1 e1).2.2) ∧ Hid (w.grownBy wr (some g))) (fun _ i _ => k - (intOf i).toNat)
  case atStart => exact ⟨none, 0, 0, [], rfl, rfl, Nat.zero_le _, hid rfl, hid (Own.nil _ _ _), hid (CvR.nil _ _), HC1, HG1⟩
  case round =>
    obtain ⟨wj, hwj⟩ : ∃ x, x = wr := ⟨_, rfl⟩
    subst hwj
    obtain ⟨A1, c1, j, hs, rfl, rfl, hj, HSL, HO, HV, HC, HG⟩ := hrel
    have hj0 : (0 : Int) ≤ (j : Int) := Int.natCast_nonneg _
    by_cases hlt : j < k
    · have hj1 : (j : Int) < (k : Int) := by omega
      have hml := many_len (cavStep l) j p1 e1
      have hmx : many (cavStep l) (j + 1) p1 e1 = ((many (cavStep l) j p1 e1).1 ++ [(cavStep l (many (cavStep l) j p1 e1).2.1 (many (cavStep l) j p1 e1).2.2).1], (cavStep l (many (cavStep l) j p1 e1).2.1 (many (cavStep l) j p1 e1).2.2).2) := rfl
      generalize many (cavStep l) j p1 e1 = M at HV HC hml hmx
      obtain ⟨L, pj, ej⟩ := M
      simp only at HV HC hml hmx
      have HRD0 := readCavT_any HC.out
      obtain ⟨V, p3, e3, hx⟩ : ∃ (V : Cav) (p3 : Nat) (e3 : Int), cavStep l pj ej = (V, p3, e3) := ⟨_, _, _, rfl⟩
      rw [hx] at HRD0 hmx
      simp only at hmx
      have HNX : Hid (many (cavStep l) (j + 1) p1 e1 = (L ++ [V], p3, e3)) := hid hmx
      have hfl : hs.length ≤ 1000000000000 := by have := HSL.out; omega
      have HLL : Hid (hs.length = L.length) := hid (by have := HSL.out; omega)
      have HRD1 := hid HRD0
      clear hmx hml hx HRD0
      go_wp2_with fail
      refine HRD1.out.mono ?_
      rintro er w4 ⟨⟨xk, xA, xn, xc, xt, xa⟩, rfl, hke, hrx, hc4, hg4⟩
      have KG : KeptT wj w4 w.heap.size 69 := .gro _ hg4 HGL.out
      have HO4 := hid (HO.out.cuT hg4 HGL.out)
      have HV4 := hid ((HV.out.keptT KG).snoc HLL.out (x := ⟨xk, xA, xn, xc, xt, xa⟩) hke (hrx.lower HG.out.size))
      have HG4 := hid (gro_trans HG.out hg4)
      have BA : Below w4.heap.size w4 (w4.alloc (.cells #[.int .i64 xk, .slice xA xn xc, .int .i64 xt, .string xa] 51)) := (Below.refl _ _).alloc (Nat.le_refl _) _
      have HOA := hid (HO4.out.alloc (.cells #[.int .i64 xk, .slice xA xn xc, .int .i64 xt, .string xa] 51))
      have HVA := hid (HV4.out.keptT (.below _ _ BA))
      have HCA := hid (hc4.allocT (.cells #[.int .i64 xk, .slice xA xn xc, .int .i64 xt, .string xa] 51))
      have HRD := hid (reads_new w4 #[.int .i64 xk, .slice xA xn xc, .int .i64 xt, .string xa] 51 (0, 0))
      have HGA := hid (gro_alloc HG4.out (.cells #[.int .i64 xk, .slice xA xn xc, .int .i64 xt, .string xa] 51))
      have hbs : w.heap.size ≤ (w4.alloc (.cells #[.int .i64 xk, .slice xA xn xc, .int .i64 xt, .string xa] 51)).heap.size := HGA.out.size
      clear hc4 hg4 HRD1 HO HV HC HG HO4 HV4 HG4 BA KG hke hrx
      unfold CH.cells
      go_wp2_with (first | (at_builtin; refine wpList_app1 (E := encC) rfl slkC (.tmp 13) (.tmp 17) rfl (B := w.heap.size) (v := .slice A1 j c1) (l := hs) HOA.out rfl (ad := ⟨w4.heap.size, 0, none⟩) (c := 1) ⟨xk, xA, xn, xc, xt, xa⟩ rfl HRD.out hfl (by omega) hbs ?_; intro A9 c9 w9 ho9 hg9 he9; have HO9 := hid ho9; have HV9 := hid (HVA.out.keptT (KeptT.own _ HOA.out hg9 (by decide))); have HC9 := hid (HCA.out.ownT hg9 (fun b hb => Nat.lt_of_lt_of_le HGL.out (HOA.out.lt b hb).1)); have HG9 := hid (gro_ownT HGA.out hg9 (fun b hb => (HOA.out.lt b hb).1)); clear ho9 hg9 he9) | go_in)
      have HQL : Hid ((hs ++ [(⟨xk, xA, xn, xc, xt, xa⟩ : CH)]).length = j + 1) := hid (by rw [List.length_append, HSL.out]; rfl)
      rw [HSL.out] at HO9 ⊢
      go_roundw
      case rel => exact ⟨A9, c9, j + 1, _, rfl, by go_num, by omega, HQL, HO9, hid (by rw [HNX.out]; exact HV9.out), hid (by rw [HNX.out]; exact HC9.out), HG9⟩
      case measure => simp [intOf]; omega
    · obtain rfl : j = k := by omega
      have hk1 : ¬ (j : Int) < (j : Int) := by omega
      go_wp2_with fail
      go_ret
      rw [HRV.out]
      exact ⟨A1, j, c1, hs, rfl, HSL.out, by rw [many_len]; exact HSL.out, HO.out, HV.out, HC.out, HG.out⟩
end Go.Proofs.YtaadmgbmaekicaaGreatDoor.Sh
