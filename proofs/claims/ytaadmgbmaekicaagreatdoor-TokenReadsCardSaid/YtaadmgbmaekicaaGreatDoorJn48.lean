/-
  The document's own Read of a token, by contract. Written by mk_tkrdb.py.
-/
import Derived.Test.YtaadmgbmaekicaaGreatDoorJn47
import Derived.Test.YtaadmgbmaekicaaGreatDoorJn28
import Derived.Test.YtaadmgbmaekicaaGreatDoorJn42
set_option linter.unusedVariables false
set_option linter.unusedSimpArgs false
namespace Go.Proofs.YtaadmgbmaekicaaGreatDoor.Sh
open Go Go.RowKit

set_option linter.unusedSimpArgs false
set_option linter.unusedVariables false
/-- What reading a token answers: a token all of whose memory is new, the cursor behind it. -/
def ReadTok (T : TypeId) (w w' : World) (lo hi g : Nat) (A : Option Addr) (n c : Nat) (l : List UInt8) (er : Ending) (x : Tok × Nat × Int) : Prop :=
  ∃ th, er = .returned (.agg th.cells.toArray) ∧ TokAt w' (fun b => w.heap.size ≤ b) th x.1 ∧ Cu T w' lo hi g A n c l x.2.1 x.2.2 ∧ w.grownBy w' (some g)
open Classical in
set_option maxHeartbeats 16000000 in
set_option maxRecDepth 100000 in
theorem refRead12_any {w : World} {lo hi g n c p : Nat} {A : Option Addr} {l : List UInt8} {e : Int} (h : Cu 41 w lo hi g A n c l p e) :
    Calls Tryz.prog 15 #[.pointer (some ⟨g, 0, none⟩)] w fun er w' => ReadTok 41 w w' lo hi g A n c l er (readT l p e) := by
  obtain ⟨v1, p1, e1, hx1⟩ : ∃ a b d, numStep l p e 1 16 = (a, b, d) := ⟨_, _, _, rfl⟩
  obtain ⟨v2, p2, e2, hx2⟩ : ∃ a b d, numStep l p1 e1 1 1000 = (a, b, d) := ⟨_, _, _, rfl⟩
  obtain ⟨v3, p3, e3, hx3⟩ : ∃ a b d, numStep l p2 e2 1 1099511627776 = (a, b, d) := ⟨_, _, _, rfl⟩
  obtain ⟨s4, p4, e4, hx4⟩ : ∃ a b d, textStep l p3 e3 8 = (a, b, d) := ⟨_, _, _, rfl⟩
  obtain ⟨r5, p5, e5, hx5⟩ : ∃ a b d, rollsStep l p4 e4 = (a, b, d) := ⟨_, _, _, rfl⟩
  obtain ⟨v6, p6, e6, hx6⟩ : ∃ a b d, numStep l p5 e5 0 1099511627776 = (a, b, d) := ⟨_, _, _, rfl⟩
  obtain ⟨v7, p7, e7, hx7⟩ : ∃ a b d, numStep l p6 e6 0 64 = (a, b, d) := ⟨_, _, _, rfl⟩
  have hb7 := numStep_bound l p6 e6 0 64 (by omega)
  rw [hx7] at hb7
  obtain ⟨k7, hk7⟩ : ∃ k : Nat, v7 = (k : Int) := ⟨v7.toNat, by simp only at hb7; omega⟩
  subst hk7
  obtain ⟨m8, p8, e8, hx8⟩ : ∃ a b d, many (idStep l) k7 p7 e7 = (a, b, d) := ⟨_, _, _, rfl⟩
  obtain ⟨v9, p9, e9, hx9⟩ : ∃ a b d, numStep l p8 e8 0 6 = (a, b, d) := ⟨_, _, _, rfl⟩
  have hb9 := numStep_bound l p8 e8 0 6 (by omega)
  rw [hx9] at hb9
  obtain ⟨k9, hk9⟩ : ∃ k : Nat, v9 = (k : Int) := ⟨v9.toNat, by simp only at hb9; omega⟩
  subst hk9
  obtain ⟨ma, pa, ea, hxa⟩ : ∃ a b d, many (cavStep l) k9 p9 e9 = (a, b, d) := ⟨_, _, _, rfl⟩
  obtain ⟨sb, pb, eb, hxb⟩ : ∃ a b d, textStep l pa ea 32 = (a, b, d) := ⟨_, _, _, rfl⟩
  have HRAW : Hid (rawT l p e = (⟨v1, v2, v3, ⟨s4.toArray⟩, r5, v6, m8, ma, sb⟩, pb, eb)) := hid (by
    simp only [rawT, idsStep, cavsStep, hx1, hx2, hx3, hx4, hx5, hx6, hx7, Int.toNat_natCast, hx8, hx9, hxa, hxb]; rfl)
  have HLT : Hid (sb.length ≤ 32) := hid (by have := textStep_len l pa ea 32; rw [show ((32 : Nat) : Int) = 32 from rfl, hxb] at this; exact this)
  have HL5 : Hid (r5.length ≤ 4) := hid (by have := rolls_len (l := l) p4 e4; rw [hx5] at this; exact this)
  have hb7 : k7 ≤ 64 := by simp only at hb7; omega
  have hb9 : k9 ≤ 6 := by simp only at hb9; omega
  have HX1 := hid hx1
  have HX2 := hid hx2
  have HX3 := hid hx3
  have HX4 := hid hx4
  have HX5 := hid hx5
  have HX6 := hid hx6
  have HX7 := hid hx7
  have HX8 := hid hx8
  have HX9 := hid hx9
  have HXA := hid hxa
  have HXB := hid hxb
  have HGL : Hid (g < w.heap.size) := hid h.lt
  have HGL2 : Hid (g < w.heap.size + 2) := hid (by have := h.lt; omega)
  obtain ⟨w1, hw1⟩ : ∃ y, y = (w.alloc (.cells #[.int .i64 0, .int .i64 0, .int .i64 0, .string ⟨#[]⟩, .slice none 0 0, .int .i64 0, .slice none 0 0, .slice none 0 0, .slice none 0 0] 27)).alloc (.cells #[.int .i64 0, .int .i64 0, .int .i64 0, .string ⟨#[]⟩, .slice none 0 0, .int .i64 0, .slice none 0 0, .slice none 0 0, .slice none 0 0] 27) := ⟨_, rfl⟩
  have H1 : Hid (RdT 41 w w1 lo hi g A n c l p e TH.zero) := hid (by
    have b1 : Below w.heap.size w w1 := by rw [hw1]; exact below_alloc2 w _ _
    refine ⟨h.below b1 h.lt, ?_, ?_, gro_below (gro_refl w (some g)) b1, h.lt⟩
    · rw [hw1]
      have q := ThAt.new (w.alloc (.cells #[.int .i64 0, .int .i64 0, .int .i64 0, .string ⟨#[]⟩, .slice none 0 0, .int .i64 0, .slice none 0 0, .slice none 0 0, .slice none 0 0] 27)) TH.zero
      rw [World.size_alloc] at q
      exact q
    · rw [hw1]
      exact (ThAt.new w TH.zero).below ((Below.refl _ _).alloc (Nat.le_refl _) _))
  have HW := hid hw1
  clear h hw1 hx1 hx2 hx3 hx4 hx5 hx6 hx7 hx8 hx9 hxa hxb
  go_enter Tryz.func15, Tryz.ntmps15
  go_wp2_with fail
  rw [← HW.out]
  clear HW
  refine (rcu_number H1.out.cu 1 16).mono ?_
  rw [HX1.out]
  rintro er w1a hs
  obtain ⟨rfl, r, kp⟩ := H1.out.step hs
  clear hs
  have f := r.row.f 0
  obtain ⟨c0, c1, c2, c3, c4, c5, c6, c7, c8⟩ := r.row.all
  obtain ⟨w2, hw⟩ : ∃ y, y = w1a.setCell ⟨w.heap.size + 1, 0, none⟩ (.int .i64 v1) := ⟨_, rfl⟩
  have H2 : Hid (RdT 41 w w2 lo hi g A n c l p1 e1 ⟨v1, 0, 0, E0, none, 0, 0, 0, none, 0, 0, none, 0, 0, none, 0, 0⟩) := hid (by rw [hw]; exact r.set 0 _ (r.row.set0 _))
  have KP : Hid (Kp w1 w2 (w.heap.size + 2)) := hid (by rw [hw]; exact kp.trans (kp_set w _ _ _))
  have HW := hid hw
  clear r kp hw KP 
  go_wp2_with fail
  rw [← HW.out]
  clear HW f c0 c1 c2 c3 c4 c5 c6 c7 c8 H1
  refine (rcu_number H2.out.cu 1 1000).mono ?_
  rw [HX2.out]
  rintro er w2a hs
  obtain ⟨rfl, r, kp⟩ := H2.out.step hs
  clear hs
  have f := r.row.f 1
  obtain ⟨c0, c1, c2, c3, c4, c5, c6, c7, c8⟩ := r.row.all
  obtain ⟨w3, hw⟩ : ∃ y, y = w2a.setCell ⟨w.heap.size + 1, 1, none⟩ (.int .i64 v2) := ⟨_, rfl⟩
  have H3 : Hid (RdT 41 w w3 lo hi g A n c l p2 e2 ⟨v1, v2, 0, E0, none, 0, 0, 0, none, 0, 0, none, 0, 0, none, 0, 0⟩) := hid (by rw [hw]; exact r.set 1 _ (r.row.set1 _))
  have KP : Hid (Kp w2 w3 (w.heap.size + 2)) := hid (by rw [hw]; exact kp.trans (kp_set w _ _ _))
  have HW := hid hw
  clear r kp hw KP 
  go_wp2_with fail
  rw [← HW.out]
  clear HW f c0 c1 c2 c3 c4 c5 c6 c7 c8 H2
  refine (rcu_number H3.out.cu 1 1099511627776).mono ?_
  rw [HX3.out]
  rintro er w3a hs
  obtain ⟨rfl, r, kp⟩ := H3.out.step hs
  clear hs
  have f := r.row.f 2
  obtain ⟨c0, c1, c2, c3, c4, c5, c6, c7, c8⟩ := r.row.all
  obtain ⟨w4, hw⟩ : ∃ y, y = w3a.setCell ⟨w.heap.size + 1, 2, none⟩ (.int .i64 v3) := ⟨_, rfl⟩
  have H4 : Hid (RdT 41 w w4 lo hi g A n c l p3 e3 ⟨v1, v2, v3, E0, none, 0, 0, 0, none, 0, 0, none, 0, 0, none, 0, 0⟩) := hid (by rw [hw]; exact r.set 2 _ (r.row.set2 _))
  have KP : Hid (Kp w3 w4 (w.heap.size + 2)) := hid (by rw [hw]; exact kp.trans (kp_set w _ _ _))
  have HW := hid hw
  clear r kp hw KP 
  go_wp2_with fail
  rw [← HW.out]
  clear HW f c0 c1 c2 c3 c4 c5 c6 c7 c8 H3
  refine (rcu_text H4.out.cu 8).mono ?_
  rw [HX4.out]
  rintro er w4a hs
  obtain ⟨rfl, r, kp⟩ := H4.out.step hs
  clear hs
  have f := r.row.f 3
  obtain ⟨c0, c1, c2, c3, c4, c5, c6, c7, c8⟩ := r.row.all
  obtain ⟨w5, hw⟩ : ∃ y, y = w4a.setCell ⟨w.heap.size + 1, 3, none⟩ (.string ⟨s4.toArray⟩) := ⟨_, rfl⟩
  have H5 : Hid (RdT 41 w w5 lo hi g A n c l p4 e4 ⟨v1, v2, v3, ⟨s4.toArray⟩, none, 0, 0, 0, none, 0, 0, none, 0, 0, none, 0, 0⟩) := hid (by rw [hw]; exact r.set 3 _ (r.row.set3 _))
  have KP : Hid (Kp w4 w5 (w.heap.size + 2)) := hid (by rw [hw]; exact kp.trans (kp_set w _ _ _))
  have HW := hid hw
  clear r kp hw KP 
  go_wp2_with fail
  rw [← HW.out]
  clear HW f c0 c1 c2 c3 c4 c5 c6 c7 c8 H4
  refine (refReadRoles_any H5.out.cu).mono ?_
  rw [HX5.out]
  rintro er w5a ⟨rA, rn, rc, rfl, hl5, ho5, hc5, hg5⟩
  have r := H5.out.stepG hc5 hg5
  have kp : Kp w5 w5a (w.heap.size + 2) := .gro hg5 (by have := HGL.out; omega)
  have HRa : Hid (RowX encR 69 w5a (w.heap.size + 2) rA rn rc r5) := hid (RowX.own ho5 hl5 H5.out.size)
  have KR : Hid (∀ (u : Value), Kp w5a (w5a.setCell ⟨w.heap.size + 1, 4, none⟩ u) (w.heap.size + 2)) := hid (fun u => kp_set w _ _ _)
  clear hl5 ho5 hc5 hg5
  have f := r.row.f 4
  obtain ⟨c0, c1, c2, c3, c4, c5, c6, c7, c8⟩ := r.row.all
  obtain ⟨w6, hw⟩ : ∃ y, y = w5a.setCell ⟨w.heap.size + 1, 4, none⟩ (.slice rA rn rc) := ⟨_, rfl⟩
  have H6 : Hid (RdT 41 w w6 lo hi g A n c l p5 e5 ⟨v1, v2, v3, ⟨s4.toArray⟩, rA, rn, rc, 0, none, 0, 0, none, 0, 0, none, 0, 0⟩) := hid (by rw [hw]; exact r.set 4 _ (r.row.set4 _ _ _))
  have KP : Hid (Kp w5 w6 (w.heap.size + 2)) := hid (by rw [hw]; exact kp.trans (kp_set w _ _ _))
  have HW := hid hw
  clear r kp hw KP 
  have HR6 : Hid (RowX encR 69 w6 (w.heap.size + 2) rA rn rc r5) := hid (by rw [HW.out]; exact HRa.out.keptT (KR.out _).r)
  clear HRa KR
  go_wp2_with fail
  rw [← HW.out]
  clear HW f c0 c1 c2 c3 c4 c5 c6 c7 c8 H5
  refine (rcu_number H6.out.cu 0 1099511627776).mono ?_
  rw [HX6.out]
  rintro er w6a hs
  obtain ⟨rfl, r, kp⟩ := H6.out.step hs
  clear hs
  have f := r.row.f 5
  obtain ⟨c0, c1, c2, c3, c4, c5, c6, c7, c8⟩ := r.row.all
  obtain ⟨w7, hw⟩ : ∃ y, y = w6a.setCell ⟨w.heap.size + 1, 5, none⟩ (.int .i64 v6) := ⟨_, rfl⟩
  have H7 : Hid (RdT 41 w w7 lo hi g A n c l p6 e6 ⟨v1, v2, v3, ⟨s4.toArray⟩, rA, rn, rc, v6, none, 0, 0, none, 0, 0, none, 0, 0⟩) := hid (by rw [hw]; exact r.set 5 _ (r.row.set5 _))
  have KP : Hid (Kp w6 w7 (w.heap.size + 2)) := hid (by rw [hw]; exact kp.trans (kp_set w _ _ _))
  have HW := hid hw
  have HR7 := hid (HR6.out.keptT KP.out.r)
  clear r kp hw KP HR6
  go_wp2_with fail
  rw [← HW.out]
  clear HW f c0 c1 c2 c3 c4 c5 c6 c7 c8 H6
  refine (rcu_number H7.out.cu 0 64).mono ?_
  rw [HX7.out]
  rintro er w8 hs
  obtain ⟨rfl, r, kp⟩ := H7.out.step hs
  have H8 := hid r
  have HR8 := hid (HR7.out.keptT kp.r)
  clear hs r kp H7 HR7
  go_wp2_with fail
  go_loopw [5] (fun i wr => ∃ (A1 : Option Addr) (c1 j : Nat), i = .int .i64 (j : Int) ∧ j ≤ k7 ∧ Hid (RdT 41 w wr lo hi g A n c l (many (idStep l) j p7 e7).2.1 (many (idStep l) j p7 e7).2.2 ⟨v1, v2, v3, ⟨s4.toArray⟩, rA, rn, rc, v6, A1, j, c1, none, 0, 0, none, 0, 0⟩) ∧ Hid (Own (E := encI) wr (w.heap.size + 2) 65 (.slice A1 j c1) (many (idStep l) j p7 e7).1) ∧ Hid (RowX encR 69 wr (w.heap.size + 2) rA rn rc r5)) (fun i _ => k7 - (intOf i).toNat)
  case atStart => exact ⟨none, 0, 0, rfl, Nat.zero_le _, H8, hid (Own.nil _ _ _), HR8⟩
  case round =>
    clear H8 HR8
    obtain ⟨wj, hwj⟩ : ∃ x, x = wr := ⟨_, rfl⟩
    subst hwj
    obtain ⟨A1, c1, j, rfl, hj, H, HO, HR⟩ := hrel
    have hj0 : (0 : Int) ≤ (j : Int) := Int.natCast_nonneg _
    by_cases hlt : j < k7
    · have hj1 : (j : Int) < (k7 : Int) := by omega
      have hml := many_len (idStep l) j p7 e7
      have hmx : many (idStep l) (j + 1) p7 e7 = ((many (idStep l) j p7 e7).1 ++ [(idStep l (many (idStep l) j p7 e7).2.1 (many (idStep l) j p7 e7).2.2).1], (idStep l (many (idStep l) j p7 e7).2.1 (many (idStep l) j p7 e7).2.2).2) := rfl
      generalize many (idStep l) j p7 e7 = M at H HO hml hmx
      obtain ⟨L, pj, ej⟩ := M
      simp only at H HO hml hmx
      obtain ⟨V, q2, d2, hx⟩ : ∃ a b d, numStep l pj ej 1 16 = (a, b, d) := ⟨_, _, _, rfl⟩
      obtain ⟨S, q3, d3, hy⟩ : ∃ a b d, numStep l q2 d2 1 4000 = (a, b, d) := ⟨_, _, _, rfl⟩
      have HNX : Hid (many (idStep l) (j + 1) p7 e7 = (L ++ [(V, S)], q3, d3)) := hid (by rw [hmx]; simp only [idStep, hx, hy])
      have hfl : L.length ≤ 1000000000000 := by omega
      have HUL : Hid (L.length = j) := hid hml
      have HA := hid hx
      have HB := hid hy
      clear hmx hml hx hy
      go_wp2_with fail
      refine (rcu_number H.out.cu 1 16).mono ?_
      rw [HA.out]
      rintro er w2 hs
      obtain ⟨rfl, r, kp⟩ := H.out.step hs
      have H2 := hid r
      have HO2 := hid (HO.out.cuT hs.2.2 (by have := HGL.out; omega))
      have HR2 := hid (HR.out.keptT kp.r)
      clear hs r kp H HO HR HA
      obtain ⟨c0, c1', c2, c3, c4, c5, c6, c7, c8⟩ := H2.out.row.all
      have f6 := H2.out.row.f 6
      simp only at c0 c1' c2 c3 c4 c5 c6 c7 c8
      go_upto_region 13 with fail
      have HD := hid (H2.out.below (Below.refl _ _).drew)
      have HOD := hid (HO2.out.drew)
      have HRD := hid (HR2.out.keptT (KeptT.below (w' := w2.drew) _ _ (Below.refl _ _).drew))
      have HN := hid (rcu_number HD.out.cu 1 4000)
      rw [HB.out] at HN
      go_region_law
        ((first
        | (refine step_callG (by rfl) (f := 44) (by rfl) _ (by simp [Act.eval, Act.put]) HN.out (enters_of Tryz.func44 (by kernel_rfl) rfl) ?_; rintro er w3 hs; (obtain ⟨rfl, r, kp⟩ := HD.out.step hs); have H3 := hid r; have HO3 := hid (HOD.out.cuT hs.2.2 HGL2.out); have HR3 := hid (HRD.out.keptT kp.r); clear hs r kp; have BA : Below w3.heap.size w3 (w3.alloc (.cells #[.int .i64 V, .int .i64 S] 65)) := (Below.refl _ _).alloc (Nat.le_refl _) _; have HA4 := hid (H3.out.below BA); have HOA := hid (HO3.out.alloc (.cells #[.int .i64 V, .int .i64 S] 65)); have HRA := hid (HR3.out.keptT (KeptT.below _ _ BA)); clear BA; have HRN := hid (reads_new w3 #[.int .i64 V, .int .i64 S] 65 (0, 0)); have m6 := H3.out.row.all.2.2.2.2.2.2.1; have n6 := H3.out.row.f 6; have i6 := HA4.out.row.all.2.2.2.2.2.2.1; have o6 := HA4.out.row.f 6; simp only at m6 i6; refine ⟨_, rfl, ?_⟩)
        | (refine step_app1 (E := encI) (by rfl) slkI (.tmp 38) (.tmp 43) (by rfl) (B := w.heap.size + 2) (v := .slice A1 j c1) (l := L) HOA.out (by rfl) (ad := ⟨w3.heap.size, 0, none⟩) (c := 1) (V, S) (by rfl) HRN.out hfl (by omega) HA4.out.size ?_; intro A9 c9 w9 ho9 hg9 he9; have HO9 := hid ho9; have H9 := hid (HA4.out.own hg9 (fun b hb => (HOA.out.lt b hb).1)); have HR9 := hid (HRA.out.keptT (KeptT.own _ HOA.out hg9 (by decide))); have f9 := H9.out.row.f 6; have c9' := H9.out.row.all.2.2.2.2.2.2.1; simp only at c9'; clear ho9 hg9 he9)))
      all_goals
        rw [HUL.out] at HO9 ⊢
        have KS := hid (kp_set w w9 6 (.slice A9 (j + 1) c9))
        have HOZ : Hid (Own (E := encI) (w9.setCell ⟨w.heap.size + 1, 6, none⟩ (.slice A9 (j + 1) c9)) (w.heap.size + 2) 65 (.slice A9 (j + 1) c9) (L ++ [(V, S)])) := hid (HO9.out.cuT (grown_set _ _ _ _) (by omega))
        have HZ := hid (H9.out.set 6 (.slice A9 (j + 1) c9) (H9.out.row.set6 _ _ _))
        have HRZ := hid (HR9.out.keptT KS.out.r)
        go_wp2_with fail
        go_roundw
        case rel => exact ⟨A9, c9, j + 1, by go_num, by omega, hid (by rw [HNX.out]; exact HZ.out), hid (by rw [HNX.out]; exact HOZ.out), HRZ⟩
        case measure => simp [intOf]; omega
    · obtain rfl : j = k7 := by omega
      have hk1 : ¬ (j : Int) < (j : Int) := by omega
      rw [HX8.out] at H HO
      simp only at H HO
      have hl8 : m8.length = j := by have := many_len (idStep l) j p7 e7; rw [HX8.out] at this; exact this
      have HS := hid (RowX.own HO.out hl8 (Nat.le_refl _))
      clear HO hl8
      go_wp2_with fail
      refine (rcu_number H.out.cu 0 6).mono ?_
      rw [HX9.out]
      rintro er wa hs
      obtain ⟨rfl, r, kp⟩ := H.out.step hs
      have H0 := hid r
      have HR0 := hid (HR.out.keptT kp.r)
      have HS0 := hid (HS.out.keptT kp.i)
      clear hs r kp H HR HS hk1
      go_wp2_with fail
      go_loopw [7] (fun i wr => ∃ (A2 : Option Addr) (c2 q : Nat) (hs : List CH), i = .int .i64 (q : Int) ∧ q ≤ k9 ∧ Hid (hs.length = q) ∧ Hid (RdT 41 w wr lo hi g A n c l (many (cavStep l) q p9 e9).2.1 (many (cavStep l) q p9 e9).2.2 ⟨v1, v2, v3, ⟨s4.toArray⟩, rA, rn, rc, v6, A1, j, c1, A2, q, c2, none, 0, 0⟩) ∧ Hid (Own (E := encC) wr (w.heap.size + 2) 51 (.slice A2 q c2) hs) ∧ Hid (CvR wr (w.heap.size + 2) hs (many (cavStep l) q p9 e9).1) ∧ Hid (RowX encR 69 wr (w.heap.size + 2) rA rn rc r5) ∧ Hid (RowX encI 65 wr (w.heap.size + 2) A1 j c1 m8)) (fun i _ => k9 - (intOf i).toNat)
      case atStart => exact ⟨none, 0, 0, [], rfl, Nat.zero_le _, hid rfl, H0, hid (Own.nil _ _ _), hid (CvR.nil _ _), HR0, HS0⟩
      case round =>
        clear H0 HR0 HS0 hlt hj0
        obtain ⟨wj2, hwj2⟩ : ∃ x, x = wr := ⟨_, rfl⟩
        subst hwj2
        obtain ⟨A2, c2, q, hs, rfl, hq, HSL, H, HO, HV, HR, HS⟩ := hrel
        have hq0 : (0 : Int) ≤ (q : Int) := Int.natCast_nonneg _
        by_cases hlt : q < k9
        · have hj1 : (q : Int) < (k9 : Int) := by omega
          have hml := many_len (cavStep l) q p9 e9
          have hmx : many (cavStep l) (q + 1) p9 e9 = ((many (cavStep l) q p9 e9).1 ++ [(cavStep l (many (cavStep l) q p9 e9).2.1 (many (cavStep l) q p9 e9).2.2).1], (cavStep l (many (cavStep l) q p9 e9).2.1 (many (cavStep l) q p9 e9).2.2).2) := rfl
          generalize many (cavStep l) q p9 e9 = M at H HV hml hmx
          obtain ⟨L, pj, ej⟩ := M
          simp only at H HV hml hmx
          obtain ⟨V, q2, d2, hx⟩ : ∃ a b d, numStep l pj ej 1 3 = (a, b, d) := ⟨_, _, _, rfl⟩
          have HNX : Hid (many (cavStep l) (q + 1) p9 e9 = (L ++ [(cavTail l V q2 d2).1], (cavTail l V q2 d2).2)) := hid (by rw [hmx]; simp only [cavStep, hx])
          have hfl : hs.length ≤ 1000000000000 := by have := HSL.out; omega
          have HLL : Hid (hs.length = L.length) := hid (by have := HSL.out; omega)
          have HA := hid hx
          obtain ⟨u1, hu1⟩ : ∃ y, y = wj2.alloc (.cells #[.int .i64 0, .slice none 0 0, .int .i64 0, .string ⟨#[]⟩] 51) := ⟨_, rfl⟩
          have hbu1 : Below wj2.heap.size wj2 u1 := by rw [hu1]; exact (Below.refl _ _).alloc (Nat.le_refl _) _
          have HC1 : Hid (ChAt u1 wj2.heap.size ⟨0, none, 0, 0, 0, E0⟩) := hid (by rw [hu1]; exact ChAt.new wj2 ⟨0, none, 0, 0, 0, E0⟩)
          have HGX : Hid (w.heap.size + 2 ≤ wj2.heap.size) := hid H.out.size
          have HNE : Hid (∀ b, (Value.slice A2 q c2).ownBlock = some b → b ≠ wj2.heap.size) := hid (fun b hb => Nat.ne_of_lt (HO.out.lt b hb).2)
          obtain ⟨gx, hgx⟩ : ∃ y, y = wj2.heap.size := ⟨_, rfl⟩
          have HGXX := hid hgx
          rw [← hgx] at HC1 HGX HNE
          have H1 := hid (H.out.below hbu1)
          have HO1 : Hid (Own (E := encC) u1 (w.heap.size + 2) 51 (.slice A2 q c2) hs) := hid (by rw [hu1]; exact HO.out.alloc _)
          have HV1 := hid (HV.out.keptT (.below _ _ hbu1))
          have HR1 := hid (HR.out.keptT (.below _ _ hbu1))
          have HS1 := hid (HS.out.keptT (.below _ _ hbu1))
          have HU1 := hid hu1
          clear hmx hml hx hu1 hbu1 H HO HV HR HS hgx
          go_wp2_with fail
          rw [← HU1.out, ← HGXX.out]
          refine (rcu_number H1.out.cu 1 3).mono ?_
          rw [HA.out]
          rintro er u2 hs2
          obtain ⟨rfl, r, kp⟩ := H1.out.step hs2
          have H2 := hid r
          have HC2 := hid (HC1.out.gro hs2.2.2 (by have := HGX.out; have := HGL.out; omega))
          have HO2 := hid (HO1.out.cuT hs2.2.2 HGL2.out)
          have HV2 := hid (HV1.out.keptT kp.r)
          have HR2 := hid (HR1.out.keptT kp.r)
          have HS2 := hid (HS1.out.keptT kp.i)
          clear hs2 r kp H1 HC1 HO1 HV1 HR1 HS1 HU1 HA
          have x0 := HC2.out.all
          have x4 := HC2.out.f 0
          obtain ⟨x0, x1, x2, x3⟩ := x0
          simp only at x0 x1 x2 x3
          obtain ⟨u3, hu⟩ : ∃ y, y = u2.setCell ⟨gx, 0, none⟩ (.int .i64 V) := ⟨_, rfl⟩
          have hgu : u2.grownBy u3 (some gx) := by rw [hu]; exact grown_set _ _ _ _
          have H3 := hid (H2.out.far hgu HGX.out)
          have HC3 : Hid (ChAt u3 gx ⟨V, none, 0, 0, 0, E0⟩) := hid (by rw [hu]; exact HC2.out.set0 _)
          have HO3 := hid (HO2.out.kept (fun b hb => hgu.block b (HO2.out.lt b hb).2 (fun e => by injection e with e; exact HNE.out b hb e)))
          have HV3 := hid (HV2.out.keptT (KeptT.row _ HC2.out hgu (by decide)))
          have HR3 := hid (HR2.out.keptT (KeptT.row _ HC2.out hgu (by decide)))
          have HS3 := hid (HS2.out.keptT (KeptT.row _ HC2.out hgu (by decide)))
          have HU := hid hu
          clear hu hgu
          clear H2 HO2 HV2 HR2 HS2
          by_cases k1 : V = 1
          · subst k1

            obtain ⟨y0, y1, y2, y3⟩ := HC3.out.all
            simp only at y0 y1 y2 y3
            go_wp2_with fail
            rw [← HU.out]
            clear HU x0 x1 x2 x3 x4 y0 y1 y2 y3
            obtain ⟨cr, q3, d3, hy⟩ : ∃ a b d, rollsStep l q2 d2 = (a, b, d) := ⟨_, _, _, rfl⟩
            have HCT : Hid (cavTail l 1 q2 d2 = (⟨1, cr, 0, E0⟩, q3, d3)) := hid (by unfold cavTail; rw [if_pos rfl, hy])
            have HB := hid hy
            clear hy
            refine (refReadRoles_any H3.out.cu).mono ?_
            rw [HB.out]
            rintro er u4 ⟨xA, xn, xc, rfl, hl5, ho5, hc5, hg5⟩
            have H4 := hid (H3.out.stepG hc5 hg5)
            have kp : Kp u3 u4 (w.heap.size + 2) := .gro hg5 HGL2.out
            have HXR4 := hid (RowX.own (B := w.heap.size + 2) ho5 hl5 H3.out.size)
            have HC4 := hid (HC3.out.gro hg5 (by have := HGX.out; have := HGL.out; omega))
            have HO4 := hid (HO3.out.cuT hg5 HGL2.out)
            have HV4 := hid (HV3.out.keptT kp.r)
            have HR4 := hid (HR3.out.keptT kp.r)
            have HS4 := hid (HS3.out.keptT kp.i)
            clear hl5 ho5 hc5 hg5 kp H3 HC3 HO3 HV3 HR3 HS3 HB
            have x0 := HC4.out.all
            have x4 := HC4.out.f 1
            obtain ⟨x0, x1, x2, x3⟩ := x0
            simp only at x0 x1 x2 x3
            obtain ⟨u5, hu⟩ : ∃ y, y = u4.setCell ⟨gx, 1, none⟩ (.slice xA xn xc) := ⟨_, rfl⟩
            have hgu : u4.grownBy u5 (some gx) := by rw [hu]; exact grown_set _ _ _ _
            have H5 := hid (H4.out.far hgu HGX.out)
            have HC5 : Hid (ChAt u5 gx ⟨1, xA, xn, xc, 0, E0⟩) := hid (by rw [hu]; exact HC4.out.set1 _ _ _)
            have HO5 := hid (HO4.out.kept (fun b hb => hgu.block b (HO4.out.lt b hb).2 (fun e => by injection e with e; exact HNE.out b hb e)))
            have HV5 := hid (HV4.out.keptT (KeptT.row _ HC4.out hgu (by decide)))
            have HR5 := hid (HR4.out.keptT (KeptT.row _ HC4.out hgu (by decide)))
            have HS5 := hid (HS4.out.keptT (KeptT.row _ HC4.out hgu (by decide)))
            have HU := hid hu
            clear hu hgu
            have HXR : Hid (RowX encR 69 u5 (w.heap.size + 2) xA xn xc cr) := hid (by rw [HU.out]; exact HXR4.out.keptT (KeptT.row _ HC4.out (grown_set _ _ _ _) (by decide)))
            clear H4 HO4 HV4 HR4 HS4 HXR4 HC4
            obtain ⟨y0, y1, y2, y3⟩ := HC5.out.all
            simp only at y0 y1 y2 y3
            go_upto_region 26 with fail
            rw [← HU.out]
            clear HU x0 x1 x2 x3 x4 y0 y1 y2 y3
            obtain ⟨c0, c1', c2', c3, c4, c5, c6, c7, c8⟩ := H5.out.row.all
            have f7 := H5.out.row.f 7
            obtain ⟨x0, x1, x2, x3⟩ := HC5.out.all
            simp only at c0 c1' c2' c3 c4 c5 c6 c7 c8 x0 x1 x2 x3
            have BA : Below u5.heap.size u5 (u5.alloc (.cells #[.int .i64 1, .slice xA xn xc, .int .i64 0, .string E0] 51)) := (Below.refl _ _).alloc (Nat.le_refl _) _
            have HA4 := hid (H5.out.below BA)
            have HOA := hid (HO5.out.alloc (.cells #[.int .i64 1, .slice xA xn xc, .int .i64 0, .string E0] 51))
            have HVA := hid (HV5.out.keptT (.below _ _ BA))
            have HRA := hid (HR5.out.keptT (.below _ _ BA))
            have HSA := hid (HS5.out.keptT (.below _ _ BA))
            have HXA2 := hid (HXR.out.keptT (.below _ _ BA))
            have HRN := hid (reads_new u5 #[.int .i64 1, .slice xA xn xc, .int .i64 0, .string E0] 51 (0, 0))
            clear BA
            go_wp2_with (first | (at_builtin; refine wpList_app1 (E := encC) rfl slkC (.tmp 75) (.tmp 77) rfl (B := w.heap.size + 2) (v := .slice A2 q c2) (l := hs) HOA.out rfl (ad := ⟨u5.heap.size, 0, none⟩) (c := 1) ⟨1, xA, xn, xc, 0, E0⟩ rfl HRN.out hfl (by omega) HA4.out.size ?_; intro A9 c9 w9 ho9 hg9 he9; have HO9 := hid ho9; have H9 := hid (HA4.out.own hg9 (fun b hb => (HOA.out.lt b hb).1)); have HV9 := hid (HVA.out.keptT (KeptT.own _ HOA.out hg9 (by decide))); have HR9 := hid (HRA.out.keptT (KeptT.own _ HOA.out hg9 (by decide))); have HS9 := hid (HSA.out.keptT (KeptT.own _ HOA.out hg9 (by decide))); have HX9' := hid (HXA2.out.keptT (KeptT.own _ HOA.out hg9 (by decide))); have f9 := H9.out.row.f 7; have c9' := H9.out.row.all.2.2.2.2.2.2.2.1; simp only at c9'; clear ho9 hg9 he9) | go_in)
            rw [HSL.out] at HO9 ⊢
            have KS := hid (kp_set w w9 7 (.slice A9 (q + 1) c9))
            have HOZ : Hid (Own (E := encC) (w9.setCell ⟨w.heap.size + 1, 7, none⟩ (.slice A9 (q + 1) c9)) (w.heap.size + 2) 51 (.slice A9 (q + 1) c9) (hs ++ [⟨1, xA, xn, xc, 0, E0⟩])) := hid (HO9.out.cuT (grown_set _ _ _ _) (by omega))
            have HZ := hid (H9.out.set 7 (.slice A9 (q + 1) c9) (H9.out.row.set7 _ _ _))
            have HRZ := hid (HR9.out.keptT KS.out.r)
            have HSZ := hid (HS9.out.keptT KS.out.i)
            have HVZ : Hid (CvR (w9.setCell ⟨w.heap.size + 1, 7, none⟩ (.slice A9 (q + 1) c9)) (w.heap.size + 2) (hs ++ [⟨1, xA, xn, xc, 0, E0⟩]) (L ++ [⟨1, cr, 0, E0⟩])) := hid ((HV9.out.keptT KS.out.r).snoc HLL.out ⟨rfl, rfl, rfl⟩ (HX9'.out.keptT KS.out.r))
            have HQL : Hid ((hs ++ [(⟨1, xA, xn, xc, 0, E0⟩ : CH)]).length = q + 1) := hid (by rw [List.length_append, HSL.out]; rfl)
            go_roundw
            case rel => exact ⟨A9, c9, q + 1, _, by go_num, by omega, HQL, hid (by rw [HNX.out, HCT.out]; exact HZ.out), HOZ, hid (by rw [HNX.out, HCT.out]; exact HVZ.out), HRZ, HSZ⟩
            case measure => simp [intOf]; omega
          by_cases k2 : V = 2
          · subst k2
            obtain ⟨y0, y1, y2, y3⟩ := HC3.out.all
            simp only at y0 y1 y2 y3
            go_wp2_with fail
            rw [← HU.out]
            clear HU x0 x1 x2 x3 x4 y0 y1 y2 y3
            obtain ⟨S, q3, d3, hy⟩ : ∃ a b d, numStep l q2 d2 0 1099511627776 = (a, b, d) := ⟨_, _, _, rfl⟩
            have HCT : Hid (cavTail l 2 q2 d2 = (⟨2, [], S, E0⟩, q3, d3)) := hid (by unfold cavTail; rw [if_neg (by omega), if_pos rfl, hy])
            have HB := hid hy
            clear hy
            refine (rcu_number H3.out.cu 0 1099511627776).mono ?_
            rw [HB.out]
            rintro er u4 hs2
            obtain ⟨rfl, r, kp⟩ := H3.out.step hs2
            have H4 := hid r
            have HC4 := hid (HC3.out.gro hs2.2.2 (by have := HGX.out; have := HGL.out; omega))
            have HO4 := hid (HO3.out.cuT hs2.2.2 HGL2.out)
            have HV4 := hid (HV3.out.keptT kp.r)
            have HR4 := hid (HR3.out.keptT kp.r)
            have HS4 := hid (HS3.out.keptT kp.i)
            clear hs2 r kp H3 HC3 HO3 HV3 HR3 HS3 HB
            have x0 := HC4.out.all
            have x4 := HC4.out.f 2
            obtain ⟨x0, x1, x2, x3⟩ := x0
            simp only at x0 x1 x2 x3
            obtain ⟨u5, hu⟩ : ∃ y, y = u4.setCell ⟨gx, 2, none⟩ (.int .i64 S) := ⟨_, rfl⟩
            have hgu : u4.grownBy u5 (some gx) := by rw [hu]; exact grown_set _ _ _ _
            have H5 := hid (H4.out.far hgu HGX.out)
            have HC5 : Hid (ChAt u5 gx ⟨2, none, 0, 0, S, E0⟩) := hid (by rw [hu]; exact HC4.out.set2 _)
            have HO5 := hid (HO4.out.kept (fun b hb => hgu.block b (HO4.out.lt b hb).2 (fun e => by injection e with e; exact HNE.out b hb e)))
            have HV5 := hid (HV4.out.keptT (KeptT.row _ HC4.out hgu (by decide)))
            have HR5 := hid (HR4.out.keptT (KeptT.row _ HC4.out hgu (by decide)))
            have HS5 := hid (HS4.out.keptT (KeptT.row _ HC4.out hgu (by decide)))
            have HU := hid hu
            clear hu hgu
            have HXR : Hid (RowX encR 69 u5 (w.heap.size + 2) none 0 0 ([] : List Ro)) := hid RowX.nil
            clear H4 HO4 HV4 HR4 HS4 HC4
            obtain ⟨y0, y1, y2, y3⟩ := HC5.out.all
            simp only at y0 y1 y2 y3
            go_upto_region 26 with fail
            rw [← HU.out]
            clear HU x0 x1 x2 x3 x4 y0 y1 y2 y3
            obtain ⟨c0, c1', c2', c3, c4, c5, c6, c7, c8⟩ := H5.out.row.all
            have f7 := H5.out.row.f 7
            obtain ⟨x0, x1, x2, x3⟩ := HC5.out.all
            simp only at c0 c1' c2' c3 c4 c5 c6 c7 c8 x0 x1 x2 x3
            have BA : Below u5.heap.size u5 (u5.alloc (.cells #[.int .i64 2, .slice none 0 0, .int .i64 S, .string E0] 51)) := (Below.refl _ _).alloc (Nat.le_refl _) _
            have HA4 := hid (H5.out.below BA)
            have HOA := hid (HO5.out.alloc (.cells #[.int .i64 2, .slice none 0 0, .int .i64 S, .string E0] 51))
            have HVA := hid (HV5.out.keptT (.below _ _ BA))
            have HRA := hid (HR5.out.keptT (.below _ _ BA))
            have HSA := hid (HS5.out.keptT (.below _ _ BA))
            have HXA2 := hid (HXR.out.keptT (.below _ _ BA))
            have HRN := hid (reads_new u5 #[.int .i64 2, .slice none 0 0, .int .i64 S, .string E0] 51 (0, 0))
            clear BA
            go_wp2_with (first | (at_builtin; refine wpList_app1 (E := encC) rfl slkC (.tmp 75) (.tmp 77) rfl (B := w.heap.size + 2) (v := .slice A2 q c2) (l := hs) HOA.out rfl (ad := ⟨u5.heap.size, 0, none⟩) (c := 1) ⟨2, none, 0, 0, S, E0⟩ rfl HRN.out hfl (by omega) HA4.out.size ?_; intro A9 c9 w9 ho9 hg9 he9; have HO9 := hid ho9; have H9 := hid (HA4.out.own hg9 (fun b hb => (HOA.out.lt b hb).1)); have HV9 := hid (HVA.out.keptT (KeptT.own _ HOA.out hg9 (by decide))); have HR9 := hid (HRA.out.keptT (KeptT.own _ HOA.out hg9 (by decide))); have HS9 := hid (HSA.out.keptT (KeptT.own _ HOA.out hg9 (by decide))); have HX9' := hid (HXA2.out.keptT (KeptT.own _ HOA.out hg9 (by decide))); have f9 := H9.out.row.f 7; have c9' := H9.out.row.all.2.2.2.2.2.2.2.1; simp only at c9'; clear ho9 hg9 he9) | go_in)
            rw [HSL.out] at HO9 ⊢
            have KS := hid (kp_set w w9 7 (.slice A9 (q + 1) c9))
            have HOZ : Hid (Own (E := encC) (w9.setCell ⟨w.heap.size + 1, 7, none⟩ (.slice A9 (q + 1) c9)) (w.heap.size + 2) 51 (.slice A9 (q + 1) c9) (hs ++ [⟨2, none, 0, 0, S, E0⟩])) := hid (HO9.out.cuT (grown_set _ _ _ _) (by omega))
            have HZ := hid (H9.out.set 7 (.slice A9 (q + 1) c9) (H9.out.row.set7 _ _ _))
            have HRZ := hid (HR9.out.keptT KS.out.r)
            have HSZ := hid (HS9.out.keptT KS.out.i)
            have HVZ : Hid (CvR (w9.setCell ⟨w.heap.size + 1, 7, none⟩ (.slice A9 (q + 1) c9)) (w.heap.size + 2) (hs ++ [⟨2, none, 0, 0, S, E0⟩]) (L ++ [⟨2, [], S, E0⟩])) := hid ((HV9.out.keptT KS.out.r).snoc HLL.out ⟨rfl, rfl, rfl⟩ (HX9'.out.keptT KS.out.r))
            have HQL : Hid ((hs ++ [(⟨2, none, 0, 0, S, E0⟩ : CH)]).length = q + 1) := hid (by rw [List.length_append, HSL.out]; rfl)
            go_roundw
            case rel => exact ⟨A9, c9, q + 1, _, by go_num, by omega, HQL, hid (by rw [HNX.out, HCT.out]; exact HZ.out), HOZ, hid (by rw [HNX.out, HCT.out]; exact HVZ.out), HRZ, HSZ⟩
            case measure => simp [intOf]; omega
          by_cases k3 : V = 3
          · subst k3
            obtain ⟨y0, y1, y2, y3⟩ := HC3.out.all
            simp only at y0 y1 y2 y3
            go_wp2_with fail
            rw [← HU.out]
            clear HU x0 x1 x2 x3 x4 y0 y1 y2 y3
            obtain ⟨S, q3, d3, hy⟩ : ∃ a b d, textStep l q2 d2 8 = (a, b, d) := ⟨_, _, _, rfl⟩
            have HCT : Hid (cavTail l 3 q2 d2 = (⟨3, [], 0, ⟨S.toArray⟩⟩, q3, d3)) := hid (by unfold cavTail; rw [if_neg (by omega), if_neg (by omega), if_pos rfl, hy]; rfl)
            have HB := hid hy
            clear hy
            refine (rcu_text H3.out.cu 8).mono ?_
            rw [HB.out]
            rintro er u4 hs2
            obtain ⟨rfl, r, kp⟩ := H3.out.step hs2
            have H4 := hid r
            have HC4 := hid (HC3.out.gro hs2.2.2 (by have := HGX.out; have := HGL.out; omega))
            have HO4 := hid (HO3.out.cuT hs2.2.2 HGL2.out)
            have HV4 := hid (HV3.out.keptT kp.r)
            have HR4 := hid (HR3.out.keptT kp.r)
            have HS4 := hid (HS3.out.keptT kp.i)
            clear hs2 r kp H3 HC3 HO3 HV3 HR3 HS3 HB
            have x0 := HC4.out.all
            have x4 := HC4.out.f 3
            obtain ⟨x0, x1, x2, x3⟩ := x0
            simp only at x0 x1 x2 x3
            obtain ⟨u5, hu⟩ : ∃ y, y = u4.setCell ⟨gx, 3, none⟩ (.string ⟨S.toArray⟩) := ⟨_, rfl⟩
            have hgu : u4.grownBy u5 (some gx) := by rw [hu]; exact grown_set _ _ _ _
            have H5 := hid (H4.out.far hgu HGX.out)
            have HC5 : Hid (ChAt u5 gx ⟨3, none, 0, 0, 0, ⟨S.toArray⟩⟩) := hid (by rw [hu]; exact HC4.out.set3 _)
            have HO5 := hid (HO4.out.kept (fun b hb => hgu.block b (HO4.out.lt b hb).2 (fun e => by injection e with e; exact HNE.out b hb e)))
            have HV5 := hid (HV4.out.keptT (KeptT.row _ HC4.out hgu (by decide)))
            have HR5 := hid (HR4.out.keptT (KeptT.row _ HC4.out hgu (by decide)))
            have HS5 := hid (HS4.out.keptT (KeptT.row _ HC4.out hgu (by decide)))
            have HU := hid hu
            clear hu hgu
            have HXR : Hid (RowX encR 69 u5 (w.heap.size + 2) none 0 0 ([] : List Ro)) := hid RowX.nil
            clear H4 HO4 HV4 HR4 HS4 HC4
            obtain ⟨y0, y1, y2, y3⟩ := HC5.out.all
            simp only at y0 y1 y2 y3
            go_upto_region 26 with fail
            rw [← HU.out]
            clear HU x0 x1 x2 x3 x4 y0 y1 y2 y3
            obtain ⟨c0, c1', c2', c3, c4, c5, c6, c7, c8⟩ := H5.out.row.all
            have f7 := H5.out.row.f 7
            obtain ⟨x0, x1, x2, x3⟩ := HC5.out.all
            simp only at c0 c1' c2' c3 c4 c5 c6 c7 c8 x0 x1 x2 x3
            have BA : Below u5.heap.size u5 (u5.alloc (.cells #[.int .i64 3, .slice none 0 0, .int .i64 0, .string ⟨S.toArray⟩] 51)) := (Below.refl _ _).alloc (Nat.le_refl _) _
            have HA4 := hid (H5.out.below BA)
            have HOA := hid (HO5.out.alloc (.cells #[.int .i64 3, .slice none 0 0, .int .i64 0, .string ⟨S.toArray⟩] 51))
            have HVA := hid (HV5.out.keptT (.below _ _ BA))
            have HRA := hid (HR5.out.keptT (.below _ _ BA))
            have HSA := hid (HS5.out.keptT (.below _ _ BA))
            have HXA2 := hid (HXR.out.keptT (.below _ _ BA))
            have HRN := hid (reads_new u5 #[.int .i64 3, .slice none 0 0, .int .i64 0, .string ⟨S.toArray⟩] 51 (0, 0))
            clear BA
            go_wp2_with (first | (at_builtin; refine wpList_app1 (E := encC) rfl slkC (.tmp 75) (.tmp 77) rfl (B := w.heap.size + 2) (v := .slice A2 q c2) (l := hs) HOA.out rfl (ad := ⟨u5.heap.size, 0, none⟩) (c := 1) ⟨3, none, 0, 0, 0, ⟨S.toArray⟩⟩ rfl HRN.out hfl (by omega) HA4.out.size ?_; intro A9 c9 w9 ho9 hg9 he9; have HO9 := hid ho9; have H9 := hid (HA4.out.own hg9 (fun b hb => (HOA.out.lt b hb).1)); have HV9 := hid (HVA.out.keptT (KeptT.own _ HOA.out hg9 (by decide))); have HR9 := hid (HRA.out.keptT (KeptT.own _ HOA.out hg9 (by decide))); have HS9 := hid (HSA.out.keptT (KeptT.own _ HOA.out hg9 (by decide))); have HX9' := hid (HXA2.out.keptT (KeptT.own _ HOA.out hg9 (by decide))); have f9 := H9.out.row.f 7; have c9' := H9.out.row.all.2.2.2.2.2.2.2.1; simp only at c9'; clear ho9 hg9 he9) | go_in)
            rw [HSL.out] at HO9 ⊢
            have KS := hid (kp_set w w9 7 (.slice A9 (q + 1) c9))
            have HOZ : Hid (Own (E := encC) (w9.setCell ⟨w.heap.size + 1, 7, none⟩ (.slice A9 (q + 1) c9)) (w.heap.size + 2) 51 (.slice A9 (q + 1) c9) (hs ++ [⟨3, none, 0, 0, 0, ⟨S.toArray⟩⟩])) := hid (HO9.out.cuT (grown_set _ _ _ _) (by omega))
            have HZ := hid (H9.out.set 7 (.slice A9 (q + 1) c9) (H9.out.row.set7 _ _ _))
            have HRZ := hid (HR9.out.keptT KS.out.r)
            have HSZ := hid (HS9.out.keptT KS.out.i)
            have HVZ : Hid (CvR (w9.setCell ⟨w.heap.size + 1, 7, none⟩ (.slice A9 (q + 1) c9)) (w.heap.size + 2) (hs ++ [⟨3, none, 0, 0, 0, ⟨S.toArray⟩⟩]) (L ++ [⟨3, [], 0, ⟨S.toArray⟩⟩])) := hid ((HV9.out.keptT KS.out.r).snoc HLL.out ⟨rfl, rfl, rfl⟩ (HX9'.out.keptT KS.out.r))
            have HQL : Hid ((hs ++ [(⟨3, none, 0, 0, 0, ⟨S.toArray⟩⟩ : CH)]).length = q + 1) := hid (by rw [List.length_append, HSL.out]; rfl)
            go_roundw
            case rel => exact ⟨A9, c9, q + 1, _, by go_num, by omega, HQL, hid (by rw [HNX.out, HCT.out]; exact HZ.out), HOZ, hid (by rw [HNX.out, HCT.out]; exact HVZ.out), HRZ, HSZ⟩
            case measure => simp [intOf]; omega
          skip
          have kb1 : (V == 1) = false := beq_eq_false_iff_ne.2 k1
          have kb2 : (V == 2) = false := beq_eq_false_iff_ne.2 k2
          have kb3 : (V == 3) = false := beq_eq_false_iff_ne.2 k3
          have HXR : Hid (RowX encR 69 u3 (w.heap.size + 2) none 0 0 ([] : List Ro)) := hid RowX.nil
          have HCT : Hid (cavTail l V q2 d2 = (⟨V, [], 0, E0⟩, q2, d2)) := hid (by unfold cavTail; rw [if_neg k1, if_neg k2, if_neg k3])
          obtain ⟨y0, y1, y2, y3⟩ := HC3.out.all
          simp only at y0 y1 y2 y3
          go_upto_region 26 with fail
          rw [← HU.out]
          clear HU x0 x1 x2 x3 x4 y0 y1 y2 y3
          obtain ⟨c0, c1', c2', c3, c4, c5, c6, c7, c8⟩ := H3.out.row.all
          have f7 := H3.out.row.f 7
          obtain ⟨x0, x1, x2, x3⟩ := HC3.out.all
          simp only at c0 c1' c2' c3 c4 c5 c6 c7 c8 x0 x1 x2 x3
          have BA : Below u3.heap.size u3 (u3.alloc (.cells #[.int .i64 V, .slice none 0 0, .int .i64 0, .string E0] 51)) := (Below.refl _ _).alloc (Nat.le_refl _) _
          have HA4 := hid (H3.out.below BA)
          have HOA := hid (HO3.out.alloc (.cells #[.int .i64 V, .slice none 0 0, .int .i64 0, .string E0] 51))
          have HVA := hid (HV3.out.keptT (.below _ _ BA))
          have HRA := hid (HR3.out.keptT (.below _ _ BA))
          have HSA := hid (HS3.out.keptT (.below _ _ BA))
          have HXA2 := hid (HXR.out.keptT (.below _ _ BA))
          have HRN := hid (reads_new u3 #[.int .i64 V, .slice none 0 0, .int .i64 0, .string E0] 51 (0, 0))
          clear BA
          go_wp2_with (first | (at_builtin; refine wpList_app1 (E := encC) rfl slkC (.tmp 75) (.tmp 77) rfl (B := w.heap.size + 2) (v := .slice A2 q c2) (l := hs) HOA.out rfl (ad := ⟨u3.heap.size, 0, none⟩) (c := 1) ⟨V, none, 0, 0, 0, E0⟩ rfl HRN.out hfl (by omega) HA4.out.size ?_; intro A9 c9 w9 ho9 hg9 he9; have HO9 := hid ho9; have H9 := hid (HA4.out.own hg9 (fun b hb => (HOA.out.lt b hb).1)); have HV9 := hid (HVA.out.keptT (KeptT.own _ HOA.out hg9 (by decide))); have HR9 := hid (HRA.out.keptT (KeptT.own _ HOA.out hg9 (by decide))); have HS9 := hid (HSA.out.keptT (KeptT.own _ HOA.out hg9 (by decide))); have HX9' := hid (HXA2.out.keptT (KeptT.own _ HOA.out hg9 (by decide))); have f9 := H9.out.row.f 7; have c9' := H9.out.row.all.2.2.2.2.2.2.2.1; simp only at c9'; clear ho9 hg9 he9) | go_in)
          rw [HSL.out] at HO9 ⊢
          have KS := hid (kp_set w w9 7 (.slice A9 (q + 1) c9))
          have HOZ : Hid (Own (E := encC) (w9.setCell ⟨w.heap.size + 1, 7, none⟩ (.slice A9 (q + 1) c9)) (w.heap.size + 2) 51 (.slice A9 (q + 1) c9) (hs ++ [⟨V, none, 0, 0, 0, E0⟩])) := hid (HO9.out.cuT (grown_set _ _ _ _) (by omega))
          have HZ := hid (H9.out.set 7 (.slice A9 (q + 1) c9) (H9.out.row.set7 _ _ _))
          have HRZ := hid (HR9.out.keptT KS.out.r)
          have HSZ := hid (HS9.out.keptT KS.out.i)
          have HVZ : Hid (CvR (w9.setCell ⟨w.heap.size + 1, 7, none⟩ (.slice A9 (q + 1) c9)) (w.heap.size + 2) (hs ++ [⟨V, none, 0, 0, 0, E0⟩]) (L ++ [⟨V, [], 0, E0⟩])) := hid ((HV9.out.keptT KS.out.r).snoc HLL.out ⟨rfl, rfl, rfl⟩ (HX9'.out.keptT KS.out.r))
          have HQL : Hid ((hs ++ [(⟨V, none, 0, 0, 0, E0⟩ : CH)]).length = q + 1) := hid (by rw [List.length_append, HSL.out]; rfl)
          go_roundw
          case rel => exact ⟨A9, c9, q + 1, _, by go_num, by omega, HQL, hid (by rw [HNX.out, HCT.out]; exact HZ.out), HOZ, hid (by rw [HNX.out, HCT.out]; exact HVZ.out), HRZ, HSZ⟩
          case measure => simp [intOf]; omega
        · obtain rfl : q = k9 := by omega
          have hk1 : ¬ (q : Int) < (q : Int) := by omega
          have hcl := cavs_len (l := l) q p9 e9
          rw [HXA.out] at H HV hcl
          simp only at H HV hcl
          have hla : ma.length = q := by have := many_len (cavStep l) q p9 e9; rw [HXA.out] at this; exact this
          have HCL := hid hcl
          have HCW := hid (RowX.own HO.out HSL.out (Nat.le_refl _))
          have HLL : Hid (hs.length = ma.length) := hid (by have := HSL.out; omega)
          clear HO hla hcl
          go_wp2_with fail
          refine (rcu_text H.out.cu 32).mono ?_
          rw [HXB.out]
          rintro er wa hs2
          obtain ⟨rfl, r, kp⟩ := H.out.step hs2
          have H2 := hid r
          have HR2 := hid (HR.out.keptT kp.r)
          have HS2 := hid (HS.out.keptT kp.i)
          have HC2 := hid (HCW.out.keptT kp.c)
          have HV2 := hid (HV.out.keptT kp.r)
          have HBS : Hid ((⟨sb.toArray⟩ : ByteArray).size = sb.length) := hid (by show sb.toArray.size = _; exact List.size_toArray)
          clear hs2 r kp H HR HS HCW HV hk1
          go_upto_region 28 with (refine wpList_conv rfl (.tmp 81) rfl ⟨sb.toArray⟩ rfl (by rw [HBS.out]; have := HLT.out; omega) ?_
                                  intro cc wc hc1 hc2 _ yc bc
                                  have H3 := hid (H2.out.below bc)
                                  have HR3 := hid (HR2.out.keptT (.below _ _ bc))
                                  have HS3 := hid (HS2.out.keptT (.below _ _ bc))
                                  have HC3 := hid (HC2.out.keptT (.below _ _ bc))
                                  have HV3 := hid (HV2.out.keptT (.below _ _ bc))
                                  have HB3 : Hid (BytQ wc (fun b => w.heap.size + 2 ≤ b) (some ⟨wa.heap.size, 0, none⟩) sb) := hid (BytQ.of_byt yc H2.out.size)
                                  have f8 := H3.out.row.f 8
                                  have c8' := H3.out.row.all.2.2.2.2.2.2.2.2
                                  have HCC : Hid (sb.length ≤ cc ∧ cc ≤ 9223372036854775807) := hid (by rw [HBS.out] at hc1; exact ⟨hc1, hc2⟩)
                                  simp only at c8'
                                  rw [HBS.out]
                                  clear hc1 hc2 yc bc)
          obtain ⟨wz, hwz⟩ : ∃ y, y = wc.setCell ⟨w.heap.size + 1, 8, none⟩ (.slice (some ⟨wa.heap.size, 0, none⟩) sb.length cc) := ⟨_, rfl⟩
          have KS : Kp wc wz (w.heap.size + 2) := by rw [hwz]; exact kp_set w wc _ _
          have H4 : Hid (RdT 41 w wz lo hi g A n c l pb eb ⟨v1, v2, v3, ⟨s4.toArray⟩, rA, rn, rc, v6, A1, j, c1, A2, q, c2, some ⟨wa.heap.size, 0, none⟩, sb.length, cc⟩) := hid (by rw [hwz]; exact H3.out.set 8 _ (H3.out.row.set8 _ _ _))
          have HQ4 : BytQ wz (fun b => w.heap.size + 2 ≤ b) (some ⟨wa.heap.size, 0, none⟩) sb := by
            rw [hwz]
            exact HB3.out.kept (fun b hb hl => (grown_set wc (w.heap.size + 1) 8 _).block b hl (fun e => by injection e with e; omega)) (grown_set wc (w.heap.size + 1) 8 _).size
          have HT4 : Hid (TokAt wz (fun b => w.heap.size + 2 ≤ b) ⟨v1, v2, v3, ⟨s4.toArray⟩, rA, rn, rc, v6, A1, j, c1, A2, q, c2, some ⟨wa.heap.size, 0, none⟩, sb.length, cc⟩ ⟨v1, v2, v3, ⟨s4.toArray⟩, r5, v6, m8, ma, sb⟩) := hid (tok_rows (fun _ h => h) (HR3.out.keptT KS.r) (HS3.out.keptT KS.i) (HC3.out.keptT KS.c) (HV3.out.keptT KS.r) HLL.out rfl HCC.out.1 HCC.out.2 HQ4)
          have HRN : Hid (rn ≤ 4) := hid (by have := HR3.out.lens.1; have := HL5.out; omega)
          have HM := hid (refMay12_any HT4.out (by show rn ≤ _; have := HRN.out; omega) (fun c hc => by have := HCL.out c hc; omega))
          simp only at HM
          rw [← hwz]
          clear hwz KS HQ4 HR3 HS3 HC3 HV3 HB3 H3 f8 c8' H2 HR2 HS2 HC2 HV2
          obtain ⟨c0, c1', c2', c3, c4, c5, c6, c7, c8⟩ := H4.out.row.all
          simp only at c0 c1' c2' c3 c4 c5 c6 c7 c8
          have HRE : Hid (rawT l p e = (⟨v1, v2, v3, ⟨s4.toArray⟩, r5, v6, m8, ma, sb⟩, pb, eb)) := HRAW
          obtain ⟨T0, hT0⟩ : ∃ T0 : Tok, T0 = ⟨v1, v2, v3, ⟨s4.toArray⟩, r5, v6, m8, ma, sb⟩ := ⟨_, rfl⟩
          rw [← hT0] at HT4 HM HRE
          clear hT0
          by_cases hok : OkTok T0
          · have HE : readE l p e = eb := by unfold readE; rw [HRE.out]; exact if_pos hok
            rw [decide_eq_true hok] at HM
            go_wp2_with fail
            refine HM.out.mono ?_
            rintro er w5 ⟨rfl, b5⟩
            have H5 := hid (H4.out.below b5)
            have HT5 := hid (HT4.out.below b5)
            clear b5 c0 c1' c2' c3 c4 c5 c6 c7 c8 HM H4 HT4
            have ec := H5.out.cu.row.c2
            by_cases he : eb = 0
            · have heb : (eb == 0) = true := by rw [he]; rfl
              have HRD : Hid (readT l p e = (T0, pb, eb)) := hid (by unfold readT; rw [HE, HRE.out, if_pos he])
              obtain ⟨c0, c1', c2', c3, c4, c5, c6, c7, c8⟩ := H5.out.row.all
              obtain ⟨z0, z1, z2, z3, z4, z5, z6, z7, z8⟩ := H5.out.res.all
              have g0 := H5.out.res.f 0
              have g1 := H5.out.res.f 1
              have g2 := H5.out.res.f 2
              have g3 := H5.out.res.f 3
              have g4 := H5.out.res.f 4
              have g5 := H5.out.res.f 5
              have g6 := H5.out.res.f 6
              have g7 := H5.out.res.f 7
              have g8 := H5.out.res.f 8
              simp only at c0 c1' c2' c3 c4 c5 c6 c7 c8
              try simp only [TH.zero] at z0 z1 z2 z3 z4 z5 z6 z7 z8
              obtain ⟨hput, hgro⟩ := H5.out.res.put ⟨v1, v2, v3, ⟨s4.toArray⟩, rA, rn, rc, v6, A1, j, c1, A2, q, c2, some ⟨wa.heap.size, 0, none⟩, sb.length, cc⟩
              try simp only at hput hgro
              have HPUT := hid hput
              have HGRO := hid (H5.out.end_ hgro)
              have HTZ := hid ((HT5.out.kept (fun b hb hl => hgro.block b hl (fun e => by injection e with e; omega)) hgro.size).imp (R := fun b => w.heap.size ≤ b) (fun b hb _ => by omega))
              clear hput hgro
              go_wp2_with fail
              refine bodyPost_ret (results_mid (h := Tryz.results15) _ _ w.heap.size 0 (TH.cells ⟨v1, v2, v3, ⟨s4.toArray⟩, rA, rn, rc, v6, A1, j, c1, A2, q, c2, some ⟨wa.heap.size, 0, none⟩, sb.length, cc⟩) _ rfl (range_row HPUT.out) Tryz.underlying27 rfl info_token) rfl ?_
              rw [HRD.out]
              exact ⟨⟨v1, v2, v3, ⟨s4.toArray⟩, rA, rn, rc, v6, A1, j, c1, A2, q, c2, some ⟨wa.heap.size, 0, none⟩, sb.length, cc⟩, rfl, HTZ.out, HGRO.out.1, HGRO.out.2⟩
            · have heb : (eb == 0) = false := beq_eq_false_iff_ne.2 he
              have HRD : Hid (readT l p e = (Tok.zero, pb, eb)) := hid (by unfold readT; rw [HE, HRE.out, if_neg he])
              obtain ⟨c0, c1', c2', c3, c4, c5, c6, c7, c8⟩ := H5.out.row.all
              obtain ⟨z0, z1, z2, z3, z4, z5, z6, z7, z8⟩ := H5.out.res.all
              have g0 := H5.out.res.f 0
              have g1 := H5.out.res.f 1
              have g2 := H5.out.res.f 2
              have g3 := H5.out.res.f 3
              have g4 := H5.out.res.f 4
              have g5 := H5.out.res.f 5
              have g6 := H5.out.res.f 6
              have g7 := H5.out.res.f 7
              have g8 := H5.out.res.f 8
              simp only at c0 c1' c2' c3 c4 c5 c6 c7 c8
              try simp only [TH.zero] at z0 z1 z2 z3 z4 z5 z6 z7 z8
              obtain ⟨hput, hgro⟩ := H5.out.res.put ⟨0, 0, 0, ⟨#[]⟩, none, 0, 0, 0, none, 0, 0, none, 0, 0, none, 0, 0⟩
              try simp only at hput hgro
              have HPUT := hid hput
              have HGRO := hid (H5.out.end_ hgro)
              clear hput hgro
              have heb2 : (eb != 0) = true := by simp [bne, heb]
              clear heb he HE
              go_wp2_with fail
              refine bodyPost_ret (results_mid (h := Tryz.results15) _ _ w.heap.size 0 ([.int .i64 0, .int .i64 0, .int .i64 0, .string ⟨#[]⟩, .slice none 0 0, .int .i64 0, .slice none 0 0, .slice none 0 0, .slice none 0 0]) _ rfl (range_row HPUT.out) Tryz.underlying27 rfl info_token) rfl ?_
              rw [HRD.out]
              exact ⟨TH.zero, rfl, TokAt.zero _ _, HGRO.out.1, HGRO.out.2⟩
          · obtain ⟨ef, hef⟩ : ∃ ef : Int, (if eb = 0 then 2 else eb) = ef := ⟨_, rfl⟩
            have HE : readE l p e = ef := by unfold readE; rw [HRE.out, ← hef]; exact if_neg hok
            have he : ¬ ef = 0 := by rw [← hef]; split <;> omega
            have heb : (ef == 0) = false := beq_eq_false_iff_ne.2 he
            have HRD : Hid (readT l p e = (Tok.zero, pb, ef)) := hid (by unfold readT; rw [HE, HRE.out, if_neg he])
            have HEF := hid hef
            clear hef
            rw [decide_eq_false hok] at HM
            go_wp2_with fail
            refine HM.out.mono ?_
            rintro er w5 ⟨rfl, b5⟩
            have H5 := hid (H4.out.below b5)
            have HT5 := hid (HT4.out.below b5)
            clear b5 c0 c1' c2' c3 c4 c5 c6 c7 c8 HM H4 HT4
            go_wp2_with fail
            refine (rcu_fail H5.out.cu 2).mono ?_
            rw [HEF.out]
            rintro er w6 hs2
            obtain ⟨rfl, r, kp⟩ := H5.out.step hs2
            have H6 := hid r
            clear hs2 r kp H5 HT5
            have ec := H6.out.cu.row.c2
            obtain ⟨c0, c1', c2', c3, c4, c5, c6, c7, c8⟩ := H6.out.row.all
            obtain ⟨z0, z1, z2, z3, z4, z5, z6, z7, z8⟩ := H6.out.res.all
            have g0 := H6.out.res.f 0
            have g1 := H6.out.res.f 1
            have g2 := H6.out.res.f 2
            have g3 := H6.out.res.f 3
            have g4 := H6.out.res.f 4
            have g5 := H6.out.res.f 5
            have g6 := H6.out.res.f 6
            have g7 := H6.out.res.f 7
            have g8 := H6.out.res.f 8
            simp only at c0 c1' c2' c3 c4 c5 c6 c7 c8
            try simp only [TH.zero] at z0 z1 z2 z3 z4 z5 z6 z7 z8
            obtain ⟨hput, hgro⟩ := H6.out.res.put ⟨0, 0, 0, ⟨#[]⟩, none, 0, 0, 0, none, 0, 0, none, 0, 0, none, 0, 0⟩
            try simp only at hput hgro
            have HPUT := hid hput
            have HGRO := hid (H6.out.end_ hgro)
            clear hput hgro
            have heb2 : (ef != 0) = true := by simp [bne, heb]
            clear heb he HE
            go_wp2_with fail
            refine bodyPost_ret (results_mid (h := Tryz.results15) _ _ w.heap.size 0 ([.int .i64 0, .int .i64 0, .int .i64 0, .string ⟨#[]⟩, .slice none 0 0, .int .i64 0, .slice none 0 0, .slice none 0 0, .slice none 0 0]) _ rfl (range_row HPUT.out) Tryz.underlying27 rfl info_token) rfl ?_
            rw [HRD.out]
            exact ⟨TH.zero, rfl, TokAt.zero _ _, HGRO.out.1, HGRO.out.2⟩
end Go.Proofs.YtaadmgbmaekicaaGreatDoor.Sh
