/-
  The program's own parts and Read of a token, by contract. Written by mk_tkrde.py.
-/
import Derived.Test.YtaadmgbmaekicaaGreatDoorJn48
import Derived.Test.YtaadmgbmaekicaaGreatDoorJn50
set_option linter.unusedVariables false
set_option linter.unusedSimpArgs false
namespace Go.Proofs.YtaadmgbmaekicaaGreatDoor.Sh
open Go Go.RowKit

set_option linter.unusedSimpArgs false
set_option linter.unusedVariables false
set_option maxHeartbeats 16000000 in
set_option maxRecDepth 100000 in
theorem parts12_any {w : World} {lo hi g n c p : Nat} {A : Option Addr} {l : List UInt8} {e : Int} (h : Cu 76 w lo hi g A n c l p e) :
    Calls Tryz.prog 42 #[.pointer (some ⟨g, 0, none⟩)] w fun er w' => ReadTok 76 w w' lo hi g A n c l er (rawT l p e) := by
  obtain ⟨v1, p1, e1, hx1⟩ : ∃ a b d, numStep l p e 1 16 = (a, b, d) := ⟨_, _, _, rfl⟩
  obtain ⟨v2, p2, e2, hx2⟩ : ∃ a b d, numStep l p1 e1 1 1000 = (a, b, d) := ⟨_, _, _, rfl⟩
  obtain ⟨v3, p3, e3, hx3⟩ : ∃ a b d, numStep l p2 e2 1 1099511627776 = (a, b, d) := ⟨_, _, _, rfl⟩
  obtain ⟨s4, p4, e4, hx4⟩ : ∃ a b d, textStep l p3 e3 8 = (a, b, d) := ⟨_, _, _, rfl⟩
  obtain ⟨r5, p5, e5, hx5⟩ : ∃ a b d, rollsStep l p4 e4 = (a, b, d) := ⟨_, _, _, rfl⟩
  obtain ⟨v6, p6, e6, hx6⟩ : ∃ a b d, numStep l p5 e5 0 1099511627776 = (a, b, d) := ⟨_, _, _, rfl⟩
  obtain ⟨m8, p8, e8, hx8⟩ : ∃ a b d, idsStep l p6 e6 = (a, b, d) := ⟨_, _, _, rfl⟩
  obtain ⟨ma, pa, ea, hxa⟩ : ∃ a b d, cavsStep l p8 e8 = (a, b, d) := ⟨_, _, _, rfl⟩
  obtain ⟨sb, pb, eb, hxb⟩ : ∃ a b d, textStep l pa ea 32 = (a, b, d) := ⟨_, _, _, rfl⟩
  have HRAW : Hid (rawT l p e = (⟨v1, v2, v3, ⟨s4.toArray⟩, r5, v6, m8, ma, sb⟩, pb, eb)) := hid (by
    simp only [rawT, hx1, hx2, hx3, hx4, hx5, hx6, hx8, hxa, hxb]; rfl)
  have HLT : Hid (sb.length ≤ 32) := hid (by have := textStep_len l pa ea 32; rw [show ((32 : Nat) : Int) = 32 from rfl, hxb] at this; exact this)
  have HX1 := hid hx1
  have HX2 := hid hx2
  have HX3 := hid hx3
  have HX4 := hid hx4
  have HX5 := hid hx5
  have HX6 := hid hx6
  have HX8 := hid hx8
  have HXA := hid hxa
  have HXB := hid hxb
  have HGL : Hid (g < w.heap.size) := hid h.lt
  have HGL2 : Hid (g < w.heap.size + 2) := hid (by have := h.lt; omega)
  obtain ⟨w1, hw1⟩ : ∃ y, y = (w.alloc (.cells #[.int .i64 0, .int .i64 0, .int .i64 0, .string ⟨#[]⟩, .slice none 0 0, .int .i64 0, .slice none 0 0, .slice none 0 0, .slice none 0 0] 27)).alloc (.cells #[.int .i64 0, .int .i64 0, .int .i64 0, .string ⟨#[]⟩, .slice none 0 0, .int .i64 0, .slice none 0 0, .slice none 0 0, .slice none 0 0] 27) := ⟨_, rfl⟩
  have H1 : Hid (RdT 76 w w1 lo hi g A n c l p e TH.zero) := hid (by
    have b1 : Below w.heap.size w w1 := by rw [hw1]; exact below_alloc2 w _ _
    refine ⟨h.below b1 h.lt, ?_, ?_, gro_below (gro_refl w (some g)) b1, h.lt⟩
    · rw [hw1]
      have q := ThAt.new (w.alloc (.cells #[.int .i64 0, .int .i64 0, .int .i64 0, .string ⟨#[]⟩, .slice none 0 0, .int .i64 0, .slice none 0 0, .slice none 0 0, .slice none 0 0] 27)) TH.zero
      rw [World.size_alloc] at q
      exact q
    · rw [hw1]
      exact (ThAt.new w TH.zero).below ((Below.refl _ _).alloc (Nat.le_refl _) _))
  have HW := hid hw1
  clear h hw1 hx1 hx2 hx3 hx4 hx5 hx6 hx8 hxa hxb
  go_enter Tryz.func42, Tryz.ntmps42
  go_wp2_with fail
  rw [← HW.out]
  clear HW
  refine (cu_number H1.out.cu 1 16).mono ?_
  rw [HX1.out]
  rintro er w1a hs
  obtain ⟨rfl, r, kp⟩ := H1.out.step hs
  clear hs
  have f := r.row.f 0
  obtain ⟨c0, c1, c2, c3, c4, c5, c6, c7, c8⟩ := r.row.all
  obtain ⟨w2, hw⟩ : ∃ y, y = w1a.setCell ⟨w.heap.size + 1, 0, none⟩ (.int .i64 v1) := ⟨_, rfl⟩
  have H2 : Hid (RdT 76 w w2 lo hi g A n c l p1 e1 ⟨v1, 0, 0, E0, none, 0, 0, 0, none, 0, 0, none, 0, 0, none, 0, 0⟩) := hid (by rw [hw]; exact r.set 0 _ (r.row.set0 _))
  have KS : Kp w1a w2 (w.heap.size + 2) := by rw [hw]; exact kp_set w _ _ _
  have KP := kp.trans KS
  have HW := hid hw
  clear r kp hw KP KS 
  go_wp2_with fail
  rw [← HW.out]
  clear HW f c0 c1 c2 c3 c4 c5 c6 c7 c8 H1
  refine (cu_number H2.out.cu 1 1000).mono ?_
  rw [HX2.out]
  rintro er w2a hs
  obtain ⟨rfl, r, kp⟩ := H2.out.step hs
  clear hs
  have f := r.row.f 1
  obtain ⟨c0, c1, c2, c3, c4, c5, c6, c7, c8⟩ := r.row.all
  obtain ⟨w3, hw⟩ : ∃ y, y = w2a.setCell ⟨w.heap.size + 1, 1, none⟩ (.int .i64 v2) := ⟨_, rfl⟩
  have H3 : Hid (RdT 76 w w3 lo hi g A n c l p2 e2 ⟨v1, v2, 0, E0, none, 0, 0, 0, none, 0, 0, none, 0, 0, none, 0, 0⟩) := hid (by rw [hw]; exact r.set 1 _ (r.row.set1 _))
  have KS : Kp w2a w3 (w.heap.size + 2) := by rw [hw]; exact kp_set w _ _ _
  have KP := kp.trans KS
  have HW := hid hw
  clear r kp hw KP KS 
  go_wp2_with fail
  rw [← HW.out]
  clear HW f c0 c1 c2 c3 c4 c5 c6 c7 c8 H2
  refine (cu_number H3.out.cu 1 1099511627776).mono ?_
  rw [HX3.out]
  rintro er w3a hs
  obtain ⟨rfl, r, kp⟩ := H3.out.step hs
  clear hs
  have f := r.row.f 2
  obtain ⟨c0, c1, c2, c3, c4, c5, c6, c7, c8⟩ := r.row.all
  obtain ⟨w4, hw⟩ : ∃ y, y = w3a.setCell ⟨w.heap.size + 1, 2, none⟩ (.int .i64 v3) := ⟨_, rfl⟩
  have H4 : Hid (RdT 76 w w4 lo hi g A n c l p3 e3 ⟨v1, v2, v3, E0, none, 0, 0, 0, none, 0, 0, none, 0, 0, none, 0, 0⟩) := hid (by rw [hw]; exact r.set 2 _ (r.row.set2 _))
  have KS : Kp w3a w4 (w.heap.size + 2) := by rw [hw]; exact kp_set w _ _ _
  have KP := kp.trans KS
  have HW := hid hw
  clear r kp hw KP KS 
  go_wp2_with fail
  rw [← HW.out]
  clear HW f c0 c1 c2 c3 c4 c5 c6 c7 c8 H3
  refine (cu_text H4.out.cu 8).mono ?_
  rw [HX4.out]
  rintro er w4a hs
  obtain ⟨rfl, r, kp⟩ := H4.out.step hs
  clear hs
  have f := r.row.f 3
  obtain ⟨c0, c1, c2, c3, c4, c5, c6, c7, c8⟩ := r.row.all
  obtain ⟨w5, hw⟩ : ∃ y, y = w4a.setCell ⟨w.heap.size + 1, 3, none⟩ (.string ⟨s4.toArray⟩) := ⟨_, rfl⟩
  have H5 : Hid (RdT 76 w w5 lo hi g A n c l p4 e4 ⟨v1, v2, v3, ⟨s4.toArray⟩, none, 0, 0, 0, none, 0, 0, none, 0, 0, none, 0, 0⟩) := hid (by rw [hw]; exact r.set 3 _ (r.row.set3 _))
  have KS : Kp w4a w5 (w.heap.size + 2) := by rw [hw]; exact kp_set w _ _ _
  have KP := kp.trans KS
  have HW := hid hw
  clear r kp hw KP KS 
  go_wp2_with fail
  rw [← HW.out]
  clear HW f c0 c1 c2 c3 c4 c5 c6 c7 c8 H4
  refine (listR_any H5.out.cu).mono ?_
  rw [HX5.out]
  rintro er w5a ⟨rA, rn, rc, rfl, hl5, ho5, hc5, hg5⟩
  have r := H5.out.stepG hc5 hg5
  have kp : Kp w5 w5a (w.heap.size + 2) := .gro hg5 HGL2.out
  have HRa : RowX encR 69 w5a (w.heap.size + 2) rA rn rc r5 := RowX.own ho5 hl5 H5.out.size
  clear hl5 ho5 hc5 hg5
  have f := r.row.f 4
  obtain ⟨c0, c1, c2, c3, c4, c5, c6, c7, c8⟩ := r.row.all
  obtain ⟨w6, hw⟩ : ∃ y, y = w5a.setCell ⟨w.heap.size + 1, 4, none⟩ (.slice rA rn rc) := ⟨_, rfl⟩
  have H6 : Hid (RdT 76 w w6 lo hi g A n c l p5 e5 ⟨v1, v2, v3, ⟨s4.toArray⟩, rA, rn, rc, 0, none, 0, 0, none, 0, 0, none, 0, 0⟩) := hid (by rw [hw]; exact r.set 4 _ (r.row.set4 _ _ _))
  have KS : Kp w5a w6 (w.heap.size + 2) := by rw [hw]; exact kp_set w _ _ _
  have KP := kp.trans KS
  have HW := hid hw
  have HR6 := hid (HRa.keptT KS.r)
  clear HRa
  clear r kp hw KP KS 
  go_wp2_with fail
  rw [← HW.out]
  clear HW f c0 c1 c2 c3 c4 c5 c6 c7 c8 H5
  refine (cu_number H6.out.cu 0 1099511627776).mono ?_
  rw [HX6.out]
  rintro er w6a hs
  obtain ⟨rfl, r, kp⟩ := H6.out.step hs
  clear hs
  have f := r.row.f 5
  obtain ⟨c0, c1, c2, c3, c4, c5, c6, c7, c8⟩ := r.row.all
  obtain ⟨w7, hw⟩ : ∃ y, y = w6a.setCell ⟨w.heap.size + 1, 5, none⟩ (.int .i64 v6) := ⟨_, rfl⟩
  have H7 : Hid (RdT 76 w w7 lo hi g A n c l p6 e6 ⟨v1, v2, v3, ⟨s4.toArray⟩, rA, rn, rc, v6, none, 0, 0, none, 0, 0, none, 0, 0⟩) := hid (by rw [hw]; exact r.set 5 _ (r.row.set5 _))
  have KS : Kp w6a w7 (w.heap.size + 2) := by rw [hw]; exact kp_set w _ _ _
  have KP := kp.trans KS
  have HW := hid hw
  have HR7 := hid (HR6.out.keptT KP.r)
  clear r kp hw KP KS HR6
  go_wp2_with fail
  rw [← HW.out]
  clear HW f c0 c1 c2 c3 c4 c5 c6 c7 c8 H6
  refine (listI_any H7.out.cu).mono ?_
  rw [HX8.out]
  rintro er w7a ⟨sA, sn, sc, rfl, hl5, ho5, hc5, hg5⟩
  have r := H7.out.stepG hc5 hg5
  have kp : Kp w7 w7a (w.heap.size + 2) := .gro hg5 HGL2.out
  have HRa : RowX encI 65 w7a (w.heap.size + 2) sA sn sc m8 := RowX.own ho5 hl5 H7.out.size
  clear hl5 ho5 hc5 hg5
  have f := r.row.f 6
  obtain ⟨c0, c1, c2, c3, c4, c5, c6, c7, c8⟩ := r.row.all
  obtain ⟨w8, hw⟩ : ∃ y, y = w7a.setCell ⟨w.heap.size + 1, 6, none⟩ (.slice sA sn sc) := ⟨_, rfl⟩
  have H8 : Hid (RdT 76 w w8 lo hi g A n c l p8 e8 ⟨v1, v2, v3, ⟨s4.toArray⟩, rA, rn, rc, v6, sA, sn, sc, none, 0, 0, none, 0, 0⟩) := hid (by rw [hw]; exact r.set 6 _ (r.row.set6 _ _ _))
  have KS : Kp w7a w8 (w.heap.size + 2) := by rw [hw]; exact kp_set w _ _ _
  have KP := kp.trans KS
  have HW := hid hw
  have HR8 := hid (HR7.out.keptT KP.r)
  have HS8 := hid (HRa.keptT KS.i)
  clear HRa
  clear r kp hw KP KS HR7
  go_wp2_with fail
  rw [← HW.out]
  clear HW f c0 c1 c2 c3 c4 c5 c6 c7 c8 H7
  refine (listC_any H8.out.cu).mono ?_
  rw [HXA.out]
  rintro er w8a ⟨cA, cn, cc, hs, rfl, hl5, hl6, ho5, hv5, hc5, hg5⟩
  have r := H8.out.stepG hc5 hg5
  have kp : Kp w8 w8a (w.heap.size + 2) := .gro hg5 HGL2.out
  have HRa : RowX encC 51 w8a (w.heap.size + 2) cA cn cc hs := RowX.own ho5 hl5 H8.out.size
  have HVa : CvR w8a (w.heap.size + 2) hs ma := fun i x c hi hc => ⟨(hv5 i x c hi hc).1, (hv5 i x c hi hc).2.lower H8.out.size⟩
  have HLL : Hid (hs.length = ma.length) := hid hl6
  clear hl5 hl6 ho5 hv5 hc5 hg5
  have f := r.row.f 7
  obtain ⟨c0, c1, c2, c3, c4, c5, c6, c7, c8⟩ := r.row.all
  obtain ⟨w9, hw⟩ : ∃ y, y = w8a.setCell ⟨w.heap.size + 1, 7, none⟩ (.slice cA cn cc) := ⟨_, rfl⟩
  have H9 : Hid (RdT 76 w w9 lo hi g A n c l pa ea ⟨v1, v2, v3, ⟨s4.toArray⟩, rA, rn, rc, v6, sA, sn, sc, cA, cn, cc, none, 0, 0⟩) := hid (by rw [hw]; exact r.set 7 _ (r.row.set7 _ _ _))
  have KS : Kp w8a w9 (w.heap.size + 2) := by rw [hw]; exact kp_set w _ _ _
  have KP := kp.trans KS
  have HW := hid hw
  have HR9 := hid (HR8.out.keptT KP.r)
  have HS9 := hid (HS8.out.keptT KP.i)
  have HC9 := hid (HRa.keptT KS.c)
  have HV9 := hid (HVa.keptT KS.r)
  clear HRa HVa
  clear r kp hw KP KS HR8 HS8
  go_wp2_with fail
  rw [← HW.out]
  clear HW f c0 c1 c2 c3 c4 c5 c6 c7 c8 H8
  refine (cu_text H9.out.cu 32).mono ?_
  rw [HXB.out]
  rintro er wa hs2
  obtain ⟨rfl, r, kp⟩ := H9.out.step hs2
  have H2 := hid r
  have HR2 := hid (HR9.out.keptT kp.r)
  have HS2 := hid (HS9.out.keptT kp.i)
  have HC2 := hid (HC9.out.keptT kp.c)
  have HV2 := hid (HV9.out.keptT kp.r)
  have HBS : Hid ((⟨sb.toArray⟩ : ByteArray).size = sb.length) := hid (by show sb.toArray.size = _; exact List.size_toArray)
  clear hs2 r kp H9 HR9 HS9 HC9 HV9
  go_upto_region 11 with (refine wpList_conv rfl (.tmp 30) rfl ⟨sb.toArray⟩ rfl (by rw [HBS.out]; have := HLT.out; omega) ?_
                          intro tc wc hc1 hc2 _ yc bc
                          have H3 := hid (H2.out.below bc)
                          have HR3 := hid (HR2.out.keptT (.below _ _ bc))
                          have HS3 := hid (HS2.out.keptT (.below _ _ bc))
                          have HC3 := hid (HC2.out.keptT (.below _ _ bc))
                          have HV3 := hid (HV2.out.keptT (.below _ _ bc))
                          have HB3 : Hid (BytQ wc (fun b => w.heap.size + 2 ≤ b) (some ⟨wa.heap.size, 0, none⟩) sb) := hid (BytQ.of_byt yc H2.out.size)
                          have f8 := H3.out.row.f 8
                          have c8' := H3.out.row.all.2.2.2.2.2.2.2.2
                          have HCC : Hid (sb.length ≤ tc ∧ tc ≤ 9223372036854775807) := hid (by rw [HBS.out] at hc1; exact ⟨hc1, hc2⟩)
                          simp only at c8'
                          rw [HBS.out]
                          clear hc1 hc2 yc bc)
  obtain ⟨wz, hwz⟩ : ∃ y, y = wc.setCell ⟨w.heap.size + 1, 8, none⟩ (.slice (some ⟨wa.heap.size, 0, none⟩) sb.length tc) := ⟨_, rfl⟩
  have KS : Kp wc wz (w.heap.size + 2) := by rw [hwz]; exact kp_set w wc _ _
  have H5 : Hid (RdT 76 w wz lo hi g A n c l pb eb ⟨v1, v2, v3, ⟨s4.toArray⟩, rA, rn, rc, v6, sA, sn, sc, cA, cn, cc, some ⟨wa.heap.size, 0, none⟩, sb.length, tc⟩) := hid (by rw [hwz]; exact H3.out.set 8 _ (H3.out.row.set8 _ _ _))
  have HQ4 : BytQ wz (fun b => w.heap.size + 2 ≤ b) (some ⟨wa.heap.size, 0, none⟩) sb := by
    rw [hwz]
    exact HB3.out.kept (fun b hb hl => (grown_set wc (w.heap.size + 1) 8 _).block b hl (fun e => by injection e with e; omega)) (grown_set wc (w.heap.size + 1) 8 _).size
  have HT5 : Hid (TokAt wz (fun b => w.heap.size + 2 ≤ b) ⟨v1, v2, v3, ⟨s4.toArray⟩, rA, rn, rc, v6, sA, sn, sc, cA, cn, cc, some ⟨wa.heap.size, 0, none⟩, sb.length, tc⟩ ⟨v1, v2, v3, ⟨s4.toArray⟩, r5, v6, m8, ma, sb⟩) := hid (tok_rows (fun _ h => h) (HR3.out.keptT KS.r) (HS3.out.keptT KS.i) (HC3.out.keptT KS.c) (HV3.out.keptT KS.r) HLL.out rfl HCC.out.1 HCC.out.2 HQ4)
  rw [← hwz]
  clear hwz KS HQ4 HR3 HS3 HC3 HV3 HB3 H3 f8 c8' H2 HR2 HS2 HC2 HV2
  obtain ⟨c0, c1', c2', c3, c4, c5, c6, c7, c8⟩ := H5.out.row.all
  obtain ⟨z0, z1, z2, z3, z4, z5, z6, z7, z8⟩ := H5.out.res.all
  have g0 := H5.out.res.f 0
  have g1 := H5.out.res.f 1
  have g2 := H5.out.res.f 2
  have g3 := H5.out.res.f 3
  have g4 := H5.out.res.f 4
  have g5 := H5.out.res.f 5
  have g6 := H5.out.res.f 6
  have g7 := H5.out.res.f 7
  have g8 := H5.out.res.f 8
  simp only at c0 c1' c2' c3 c4 c5 c6 c7 c8
  try simp only [TH.zero] at z0 z1 z2 z3 z4 z5 z6 z7 z8
  obtain ⟨hput, hgro⟩ := H5.out.res.put ⟨v1, v2, v3, ⟨s4.toArray⟩, rA, rn, rc, v6, sA, sn, sc, cA, cn, cc, some ⟨wa.heap.size, 0, none⟩, sb.length, tc⟩
  try simp only at hput hgro
  have HPUT := hid hput
  have HGRO := hid (H5.out.end_ hgro)
  have HTZ := hid ((HT5.out.kept (fun b hb hl => hgro.block b hl (fun e => by injection e with e; omega)) hgro.size).imp (R := fun b => w.heap.size ≤ b) (fun b hb _ => by omega))
  clear hput hgro
  go_wp2_with fail
  refine bodyPost_ret (results_mid (h := Tryz.results42) _ _ w.heap.size 0 (TH.cells ⟨v1, v2, v3, ⟨s4.toArray⟩, rA, rn, rc, v6, sA, sn, sc, cA, cn, cc, some ⟨wa.heap.size, 0, none⟩, sb.length, tc⟩) _ rfl (range_row HPUT.out) Tryz.underlying27 rfl info_token) rfl ?_
  rw [HRAW.out]
  exact ⟨⟨v1, v2, v3, ⟨s4.toArray⟩, rA, rn, rc, v6, sA, sn, sc, cA, cn, cc, some ⟨wa.heap.size, 0, none⟩, sb.length, tc⟩, rfl, HTZ.out, HGRO.out.1, HGRO.out.2⟩
theorem rawT_few (l : List UInt8) (p : Nat) (e : Int) : FewTok (rawT l p e).1 := by
  obtain ⟨h1, h2, h3, h4⟩ := rawT_lens (l := l) p e
  refine ⟨by omega, by omega, by omega, fun c hc => ?_, by omega⟩
  have := cavs_len (l := l) _ _ _ c (show c ∈ (cavsStep l _ _).1 from hc)
  omega
open Classical in
set_option maxHeartbeats 16000000 in
set_option maxRecDepth 100000 in
theorem pRead12_any {w : World} {lo hi g n c p : Nat} {A : Option Addr} {l : List UInt8} {e : Int} (h : Cu 76 w lo hi g A n c l p e) :
    Calls Tryz.prog 14 #[.pointer (some ⟨g, 0, none⟩)] w fun er w' => ReadTok 76 w w' lo hi g A n c l er (readT l p e) := by
  have HFT := hid (rawT_few l p e)
  obtain ⟨T0, pb, eb, hx⟩ : ∃ a b d, rawT l p e = (a, b, d) := ⟨_, _, _, rfl⟩
  have HRE := hid hx
  rw [hx] at HFT
  simp only at HFT
  have HGL : Hid (g < w.heap.size) := hid h.lt
  obtain ⟨w1, hw1⟩ : ∃ y, y = w.alloc (.cells #[.int .i64 0, .int .i64 0, .int .i64 0, .string ⟨#[]⟩, .slice none 0 0, .int .i64 0, .slice none 0 0, .slice none 0 0, .slice none 0 0] 27) := ⟨_, rfl⟩
  have b1 : Below w.heap.size w w1 := by rw [hw1]; exact (Below.refl _ _).alloc (Nat.le_refl _) _
  have HC1 := hid (h.below b1 h.lt)
  have HZ1 : Hid (ThAt w1 w.heap.size TH.zero) := hid (by rw [hw1]; exact ThAt.new w TH.zero)
  have HG1 := hid (gro_below (gro_refl w (some g)) b1)
  have HW := hid hw1
  clear h hw1 b1 hx
  go_enter Tryz.func14, Tryz.ntmps14
  go_wp2_with fail
  rw [← HW.out]
  clear HW
  refine (parts12_any HC1.out).mono ?_
  rw [HRE.out]
  rintro er w2 ⟨⟨d, ep, m, who, rA, rn, rc, til, sA, sn, sc, cA, cn, cc, tA, tn, tc⟩, rfl, ht2, hc2, hg2⟩
  obtain ⟨gx, hgx⟩ : ∃ y, y = w2.heap.size := ⟨_, rfl⟩
  have HGX : Hid (w.heap.size + 1 ≤ gx) := hid (by rw [hgx]; exact Nat.le_trans HZ1.out.lt hg2.size)
  obtain ⟨w3, hw3⟩ : ∃ y, y = w2.alloc (.cells #[.int .i64 d, .int .i64 ep, .int .i64 m, .string who, .slice rA rn rc, .int .i64 til, .slice sA sn sc, .slice cA cn cc, .slice tA tn tc] 27) := ⟨_, rfl⟩
  have hb3 : Below w2.heap.size w2 w3 := by rw [hw3]; exact (Below.refl _ _).alloc (Nat.le_refl _) _
  have HC3 := hid (hc2.below hb3 hc2.lt)
  have HX3 : Hid (ThAt w3 gx ⟨d, ep, m, who, rA, rn, rc, til, sA, sn, sc, cA, cn, cc, tA, tn, tc⟩) := hid (by rw [hw3, hgx]; exact ThAt.new w2 ⟨d, ep, m, who, rA, rn, rc, til, sA, sn, sc, cA, cn, cc, tA, tn, tc⟩)
  have HZ3 := hid ((HZ1.out.gro hg2 (by have := HGL.out; omega)).below hb3)
  have HG3 := hid (gro_below (gro_trans HG1.out hg2) hb3)
  have HT3 := hid ((ht2.below hb3).imp (R := fun b => w.heap.size + 1 ≤ b) (fun b hb _ => Nat.le_trans HZ1.out.lt hb))
  have HM := hid (pMay12_any HT3.out HFT.out)
  simp only at HM
  have HW := hid hw3
  have HGXX := hid hgx
  clear ht2 hc2 hg2 hb3 hw3 hgx HC1 HZ1 HG1
  unfold TH.cells
  go_upto_region 4 with fail
  rw [← HW.out, ← HGXX.out]
  clear HW HGXX
  obtain ⟨c0, c1', c2', c3, c4, c5, c6, c7, c8⟩ := HX3.out.all
  simp only at c0 c1' c2' c3 c4 c5 c6 c7 c8
  by_cases hok : OkTok T0
  · have HE : readE l p e = eb := by unfold readE; rw [HRE.out]; exact if_pos hok
    rw [decide_eq_true hok] at HM
    go_wp2_with fail
    refine HM.out.mono ?_
    rintro er w5 ⟨rfl, b5⟩
    have HC5 := hid (HC3.out.below b5 HC3.out.lt)
    have HX5 := hid (HX3.out.below b5)
    have HZ5 := hid (HZ3.out.below b5)
    have HG5 := hid (gro_below HG3.out b5)
    have HT5 := hid (HT3.out.below b5)
    clear b5 c0 c1' c2' c3 c4 c5 c6 c7 c8 HM HC3 HX3 HZ3 HG3 HT3
    by_cases he : eb = 0
    · have heb : (eb == 0) = true := by rw [he]; rfl
      have HRD : Hid (readT l p e = (T0, pb, eb)) := hid (by unfold readT; rw [HE, HRE.out, if_pos he])
      go_wp2_with fail
      refine (err_any g A n c pb eb w5 HC5.out.row).mono ?_
      rintro er w9 ⟨rfl, rfl⟩
      obtain ⟨c0, c1', c2', c3, c4, c5, c6, c7, c8⟩ := HX5.out.all
      obtain ⟨z0, z1, z2, z3, z4, z5, z6, z7, z8⟩ := HZ5.out.all
      have g0 := HZ5.out.f 0
      have g1 := HZ5.out.f 1
      have g2 := HZ5.out.f 2
      have g3 := HZ5.out.f 3
      have g4 := HZ5.out.f 4
      have g5 := HZ5.out.f 5
      have g6 := HZ5.out.f 6
      have g7 := HZ5.out.f 7
      have g8 := HZ5.out.f 8
      simp only at c0 c1' c2' c3 c4 c5 c6 c7 c8
      try simp only [TH.zero] at z0 z1 z2 z3 z4 z5 z6 z7 z8
      obtain ⟨hput, hgro⟩ := HZ5.out.put ⟨d, ep, m, who, rA, rn, rc, til, sA, sn, sc, cA, cn, cc, tA, tn, tc⟩
      try simp only at hput hgro
      have HPUT := hid hput
      have HCE := hid (HC5.out.other hgro (by have := HGL.out; omega) (.inr (by have := HC5.out.hi; have := HGL.out; omega)))
      have HGE := hid (gro_new HG5.out hgro (Nat.le_refl _))
      have HTZ := hid ((HT5.out.kept (fun b hb hl => hgro.block b hl (fun e => by injection e with e; omega)) hgro.size).imp (R := fun b => w.heap.size ≤ b) (fun b hb _ => by omega))
      clear hput hgro
      go_wp2_with fail
      refine bodyPost_ret (results_mid (h := Tryz.results14) _ _ w.heap.size 0 (TH.cells ⟨d, ep, m, who, rA, rn, rc, til, sA, sn, sc, cA, cn, cc, tA, tn, tc⟩) _ rfl (range_row HPUT.out) Tryz.underlying27 rfl info_token) rfl ?_
      rw [HRD.out]
      exact ⟨⟨d, ep, m, who, rA, rn, rc, til, sA, sn, sc, cA, cn, cc, tA, tn, tc⟩, rfl, HTZ.out, HCE.out, HGE.out⟩
    · have heb : (eb == 0) = false := beq_eq_false_iff_ne.2 he
      have HRD : Hid (readT l p e = (Tok.zero, pb, eb)) := hid (by unfold readT; rw [HE, HRE.out, if_neg he])
      go_wp2_with fail
      refine (err_any g A n c pb eb w5 HC5.out.row).mono ?_
      rintro er w9 ⟨rfl, rfl⟩
      obtain ⟨c0, c1', c2', c3, c4, c5, c6, c7, c8⟩ := HX5.out.all
      obtain ⟨z0, z1, z2, z3, z4, z5, z6, z7, z8⟩ := HZ5.out.all
      have g0 := HZ5.out.f 0
      have g1 := HZ5.out.f 1
      have g2 := HZ5.out.f 2
      have g3 := HZ5.out.f 3
      have g4 := HZ5.out.f 4
      have g5 := HZ5.out.f 5
      have g6 := HZ5.out.f 6
      have g7 := HZ5.out.f 7
      have g8 := HZ5.out.f 8
      simp only at c0 c1' c2' c3 c4 c5 c6 c7 c8
      try simp only [TH.zero] at z0 z1 z2 z3 z4 z5 z6 z7 z8
      obtain ⟨hput, hgro⟩ := HZ5.out.put ⟨0, 0, 0, ⟨#[]⟩, none, 0, 0, 0, none, 0, 0, none, 0, 0, none, 0, 0⟩
      try simp only at hput hgro
      have HPUT := hid hput
      have HCE := hid (HC5.out.other hgro (by have := HGL.out; omega) (.inr (by have := HC5.out.hi; have := HGL.out; omega)))
      have HGE := hid (gro_new HG5.out hgro (Nat.le_refl _))
      clear hput hgro
      have heb2 : (eb != 0) = true := by simp [bne, heb]
      clear heb he HE
      go_wp2_with fail
      refine bodyPost_ret (results_mid (h := Tryz.results14) _ _ w.heap.size 0 ([.int .i64 0, .int .i64 0, .int .i64 0, .string ⟨#[]⟩, .slice none 0 0, .int .i64 0, .slice none 0 0, .slice none 0 0, .slice none 0 0]) _ rfl (range_row HPUT.out) Tryz.underlying27 rfl info_token) rfl ?_
      rw [HRD.out]
      exact ⟨TH.zero, rfl, TokAt.zero _ _, HCE.out, HGE.out⟩
  · obtain ⟨ef, hef⟩ : ∃ ef : Int, (if eb = 0 then 2 else eb) = ef := ⟨_, rfl⟩
    have HE : readE l p e = ef := by unfold readE; rw [HRE.out, ← hef]; exact if_neg hok
    have he : ¬ ef = 0 := by rw [← hef]; split <;> omega
    have heb : (ef == 0) = false := beq_eq_false_iff_ne.2 he
    have HRD : Hid (readT l p e = (Tok.zero, pb, ef)) := hid (by unfold readT; rw [HE, HRE.out, if_neg he])
    have HEF := hid hef
    clear hef
    rw [decide_eq_false hok] at HM
    go_wp2_with fail
    refine HM.out.mono ?_
    rintro er w5 ⟨rfl, b5⟩
    have HC5 := hid (HC3.out.below b5 HC3.out.lt)
    have HX5 := hid (HX3.out.below b5)
    have HZ5 := hid (HZ3.out.below b5)
    have HG5 := hid (gro_below HG3.out b5)
    have HT5 := hid (HT3.out.below b5)
    clear b5 c0 c1' c2' c3 c4 c5 c6 c7 c8 HM HC3 HX3 HZ3 HG3 HT3
    go_wp2_with fail
    refine (cu_fail HC5.out 2).mono ?_
    rw [HEF.out]
    rintro er w6 ⟨rfl, x6, g6⟩
    have HC6 := hid x6
    have HX6 := hid (HX5.out.gro g6 (by have := HX5.out.lt; have := HZ5.out.lt; have := HGL.out; have := HGX.out; omega))
    have HZ6 := hid (HZ5.out.gro g6 (by have := HGL.out; omega))
    have HG6 := hid (gro_trans HG5.out g6)
    clear x6 g6 HC5 HX5 HZ5 HG5 HT5
    go_wp2_with fail
    refine (err_any g A n c pb ef w6 HC6.out.row).mono ?_
    rintro er w9 ⟨rfl, rfl⟩
    obtain ⟨c0, c1', c2', c3, c4, c5, c6, c7, c8⟩ := HX6.out.all
    obtain ⟨z0, z1, z2, z3, z4, z5, z6, z7, z8⟩ := HZ6.out.all
    have g0 := HZ6.out.f 0
    have g1 := HZ6.out.f 1
    have g2 := HZ6.out.f 2
    have g3 := HZ6.out.f 3
    have g4 := HZ6.out.f 4
    have g5 := HZ6.out.f 5
    have g6 := HZ6.out.f 6
    have g7 := HZ6.out.f 7
    have g8 := HZ6.out.f 8
    simp only at c0 c1' c2' c3 c4 c5 c6 c7 c8
    try simp only [TH.zero] at z0 z1 z2 z3 z4 z5 z6 z7 z8
    obtain ⟨hput, hgro⟩ := HZ6.out.put ⟨0, 0, 0, ⟨#[]⟩, none, 0, 0, 0, none, 0, 0, none, 0, 0, none, 0, 0⟩
    try simp only at hput hgro
    have HPUT := hid hput
    have HCE := hid (HC6.out.other hgro (by have := HGL.out; omega) (.inr (by have := HC6.out.hi; have := HGL.out; omega)))
    have HGE := hid (gro_new HG6.out hgro (Nat.le_refl _))
    clear hput hgro
    have heb2 : (ef != 0) = true := by simp [bne, heb]
    clear heb he HE
    go_wp2_with fail
    refine bodyPost_ret (results_mid (h := Tryz.results14) _ _ w.heap.size 0 ([.int .i64 0, .int .i64 0, .int .i64 0, .string ⟨#[]⟩, .slice none 0 0, .int .i64 0, .slice none 0 0, .slice none 0 0, .slice none 0 0]) _ rfl (range_row HPUT.out) Tryz.underlying27 rfl info_token) rfl ?_
    rw [HRD.out]
    exact ⟨TH.zero, rfl, TokAt.zero _ _, HCE.out, HGE.out⟩
end Go.Proofs.YtaadmgbmaekicaaGreatDoor.Sh
