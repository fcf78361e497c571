/-
  The document's own Few of a token, by contract. Written by mk_tkfew.py.
-/
import Derived.Test.YtaadmgbmaekicaaGreatDoorJn28
set_option linter.unusedVariables false
set_option linter.unusedSimpArgs false
namespace Go.Proofs.YtaadmgbmaekicaaGreatDoor.Sh
open Go Go.RowKit

set_option linter.unusedSimpArgs false
set_option linter.unusedVariables false
theorem slC : SlN Tryz.prog 25 51 4 56 := by
  obtain ⟨i0, hi0, hz0, hz1, hz2⟩ := info_parts (P := Tryz.prog) (e := 51) (z := .agg #[.int .i64 0, .slice none 0 0, .int .i64 0, .string ⟨#[]⟩]) (size := 4) (bytes := 56) (by kernel_rfl)
  exact ⟨Tryz.underlying25, ⟨i0, _, hi0, hz0, hz1, hz2, rfl⟩, by omega⟩
theorem own_lowT {α : Type} {E : Enc α} {w : World} {B B' : Nat} {T : TypeId} {v : Value} {l : List α} (h : Own (E := E) w B T v l) (hb : B' ≤ B) : Own (E := E) w B' T v l :=
  ⟨h.1, h.2.imp id (fun ⟨g, cap, cur, e, h1, h2⟩ => ⟨g, cap, cur, e, Nat.le_trans hb h1, h2⟩)⟩
def fewH (h : CH) : CH := { h with rn := min h.rn 6 }
/-- What the walk comes to. -/
theorem few_post {w wr W : World} {Q : Nat → Prop} {th : TH} {t : Tok} (a : TokAt w Q th t) {hds : List CH} (hl : hds.length = t.cavs.length) (hr : ∀ (i : Nat) (h : CH) (c : Cav), hds[i]? = some h → t.cavs[i]? = some c → CavAt w Q h c)
    {A1 : Option Addr} {c1 j : Nat} (hj : j = min 8 t.cavs.length) (ho : Own (E := encC) W w.heap.size 51 (.slice A1 j c1) ((hds.take j).map fewH)) (hW : Below w.heap.size w W) :
    TokAt W (fun b => Q b ∨ w.heap.size ≤ b) { th with rn := min th.rn 6, sn := min th.sn 70, cA := A1, cn := j, cc := c1, tn := min th.tn 40 } (fewT t) := by
  have hjl : ((hds.take j).map fewH).length = j := by rw [List.length_map, List.length_take]; omega
  obtain ⟨A', c', e', q1, q2, q3⟩ := ho.els
  simp only [Value.slice.injEq] at e'
  obtain ⟨rfl, _, rfl⟩ := e'
  rw [hjl] at q1
  have b := a.below hW
  refine ⟨a.d, a.e, a.n, a.who, a.til, ?_, ?_, a.rm, (b.re.imp (fun _ h _ => .inl h)).head 6, ?_, ?_, a.sm, (b.se.imp (fun _ h _ => .inl h)).head 70, ?_, q1, q2, ⟨(hds.take j).map fewH, ?_, ElsQ.of_own ho (fun b hb => .inr hb), fun i h c hh hc => ?_⟩, ?_, ?_, a.tm, (b.te.imp (fun _ h _ => .inl h)).head 40⟩
  · show (t.roles.take 6).length = min th.rn 6; rw [List.length_take, a.rl, Nat.min_comm]
  · show min th.rn 6 ≤ th.rc; have := a.rc; omega
  · show (t.sup.take 70).length = min th.sn 70; rw [List.length_take, a.sl, Nat.min_comm]
  · show min th.sn 70 ≤ th.sc; have := a.sc; omega
  · show ((t.cavs.take 8).map fewC).length = j; rw [List.length_map, List.length_take]; omega
  · show ((hds.take j).map fewH).length = ((t.cavs.take 8).map fewC).length; rw [hjl, List.length_map, List.length_take]; omega
  · have hc' : ((t.cavs.take 8).map fewC)[i]? = some c := hc
    rw [List.getElem?_map, List.getElem?_take] at hh hc'
    split at hh
    · split at hc'
      · obtain ⟨h0, e0, rfl⟩ := Option.map_eq_some_iff.1 hh
        obtain ⟨c0, f0, rfl⟩ := Option.map_eq_some_iff.1 hc'
        have g := hr i h0 c0 e0 f0
        have g' := (g.kept (w' := W) (fun b _ hb => hW.block b hb) hW.size).imp (R := fun b => Q b ∨ w.heap.size ≤ b) (fun _ h _ => .inl h)
        exact ⟨g.kind, g.til, g.aud, by show (c0.roles.take 6).length = min h0.rn 6; rw [List.length_take, g.rl, Nat.min_comm], by show min h0.rn 6 ≤ h0.rc; have := g.rc; omega, g.rm, g'.re.head 6⟩
      · cases hc'
    · cases hh
  · show (t.tag.take 40).length = min th.tn 40; rw [List.length_take, a.tl, Nat.min_comm]
  · show min th.tn 40 ≤ th.tc; have := a.tc; omega
theorem ThAt.setRoles {w : World} {g : Nat} {h : TH} (a : ThAt w g h) (A : Option Addr) (n c : Nat) : ThAt (w.setCell ⟨g, 4, none⟩ (.slice A n c)) g { h with rA := A, rn := n, rc := c } := heap_setCell_same w g 4 _ _ _ a
theorem ThAt.setSup {w : World} {g : Nat} {h : TH} (a : ThAt w g h) (A : Option Addr) (n c : Nat) : ThAt (w.setCell ⟨g, 6, none⟩ (.slice A n c)) g { h with sA := A, sn := n, sc := c } := heap_setCell_same w g 6 _ _ _ a
theorem ChAt.setRoles {w : World} {g : Nat} {h : CH} (a : ChAt w g h) (A : Option Addr) (n c : Nat) : ChAt (w.setCell ⟨g, 1, none⟩ (.slice A n c)) g { h with rA := A, rn := n, rc := c } := heap_setCell_same w g 1 _ _ _ a
set_option maxHeartbeats 64000000 in
set_option maxRecDepth 100000 in
theorem refFew12_any {w : World} {Q : Nat → Prop} {th : TH} {t : Tok} (a : TokAt w Q th t) :
    Calls Tryz.prog 6 #[.agg #[.int .i64 th.d, .int .i64 th.e, .int .i64 th.n, .string th.who, .slice th.rA th.rn th.rc, .int .i64 th.til, .slice th.sA th.sn th.sc, .slice th.cA th.cn th.cc, .slice th.tA th.tn th.tc]] w fun e w' => ∃ th', e = .returned (.agg th'.cells.toArray) ∧ TokAt w' (fun b => Q b ∨ w.heap.size ≤ b) th' (fewT t) ∧ Below w.heap.size w w' := by
  obtain ⟨hds, hl, he, hr⟩ := a.ce
  have HHL := hid hl
  have HPOST := hid (fun (W : World) (A1 : Option Addr) (c1 j : Nat) (hj : j = min 8 t.cavs.length) ho hW => few_post (wr := w) (W := W) a hl hr (A1 := A1) (c1 := c1) hj ho hW)
  have HHE := hid (fun W (hW : Below w.heap.size w W) => he.els.below hW)
  have HHR : Hid (∀ (i : Nat) (h : CH), hds[i]? = some h → h.rn ≤ h.rc ∧ h.rc ≤ 9223372036854775807) := hid (fun i h hh => by
    obtain ⟨c, hc⟩ : ∃ c, t.cavs[i]? = some c := ⟨_, List.getElem?_eq_getElem (by rw [← hl]; exact (List.getElem?_eq_some_iff.1 hh).1)⟩
    have := hr i h c hh hc
    exact ⟨this.rc, this.rm⟩)
  have hcl := a.cl
  have hrc := a.rc
  have hrm := a.rm
  have hsc := a.sc
  have hsm := a.sm
  have hcc := a.cc
  have hcm := a.cm
  have htc := a.tc
  have htm := a.tm
  obtain ⟨d, e, m, who, rA, rn, rc, til, sA, sn, sc, cA, cn, cc, tA, tn, tc⟩ := th
  simp only at HPOST HHE hcl hrc hrm hsc hsm hcc hcm htc htm ⊢
  obtain ⟨w1, hw1⟩ : ∃ y, y = (w.alloc (.cells #[.int .i64 d, .int .i64 e, .int .i64 m, .string who, .slice rA rn rc, .int .i64 til, .slice sA sn sc, .slice cA cn cc, .slice tA tn tc] 27)).alloc (.cells #[.int .i64 0, .int .i64 0, .int .i64 0, .string ⟨#[]⟩, .slice none 0 0, .int .i64 0, .slice none 0 0, .slice none 0 0, .slice none 0 0] 27) := ⟨_, rfl⟩
  have HB1 : Hid (Below w.heap.size w w1) := hid (by rw [hw1]; exact ((Below.refl _ _).alloc (Nat.le_refl _) _).alloc (by simp) _)
  have HX1 : Hid (ThAt w1 w.heap.size ⟨d, e, m, who, rA, rn, rc, til, sA, sn, sc, cA, cn, cc, tA, tn, tc⟩) := hid (by
    rw [hw1]
    exact (ThAt.new w ⟨d, e, m, who, rA, rn, rc, til, sA, sn, sc, cA, cn, cc, tA, tn, tc⟩).below ((Below.refl _ _).alloc (Nat.le_refl _) _))
  have HZ1 : Hid (ThAt w1 (w.heap.size + 1) TH.zero) := hid (by
    rw [hw1]
    have q := ThAt.new (w.alloc (.cells #[.int .i64 d, .int .i64 e, .int .i64 m, .string who, .slice rA rn rc, .int .i64 til, .slice sA sn sc, .slice cA cn cc, .slice tA tn tc] 27)) TH.zero
    rw [World.size_alloc] at q
    exact q)
  have HS1 : Hid (w1.heap.size = w.heap.size + 2) := hid (by rw [hw1]; simp)
  have HW1 := hid hw1
  have HCL := hid hcl
  obtain ⟨c0, c1, c2, c3, c4, c5, c6, c7, c8⟩ := HX1.out.all
  have f4 := HX1.out.f 4
  have f6 := HX1.out.f 6
  simp only at c0 c1 c2 c3 c4 c5 c6 c7 c8
  clear a hl he hr hw1 hcl
  by_cases hr : 6 < rn
  · by_cases hs : 70 < sn
    · have hr1 : (6 : Int) < (rn : Int) := by omega
      have hr2 : (6 : Int) ≤ (rc : Int) := by omega
      have hmr : min rn 6 = 6 := by omega
      have hs1 : (70 : Int) < (sn : Int) := by omega
      have hs2 : (70 : Int) ≤ (sc : Int) := by omega
      have hms : min sn 70 = 70 := by omega
      go_enter Tryz.func6, Tryz.ntmps6
      go_upto_region 1 with fail
      rw [← HW1.out]
      obtain ⟨w2, hw2⟩ : ∃ y, y = w1.setCell ⟨w.heap.size, 4, none⟩ (.slice rA 6 rc) := ⟨_, rfl⟩
      have HX2 : Hid (ThAt w2 w.heap.size ⟨d, e, m, who, rA, 6, rc, til, sA, sn, sc, cA, cn, cc, tA, tn, tc⟩) := hid (by rw [hw2]; exact HX1.out.setRoles rA 6 rc)
      have HZ2 : Hid (ThAt w2 (w.heap.size + 1) TH.zero) := hid (by rw [hw2]; exact HZ1.out.other (gro_set1 _ _ _ _) (by omega))
      have HB2 : Hid (Below w.heap.size w w2) := hid (by rw [hw2]; exact HB1.out.setCell (p := ⟨w.heap.size, 4, none⟩) (Nat.le_refl _) _)
      have hs2 : w2.heap.size = w.heap.size + 2 := by rw [hw2, ← HS1.out]; simp
      have HW2 := hid hw2
      clear hw2
      go_upto_region 3 with fail
      rw [← HW2.out]
      clear c0 c1 c2 c3 c4 c5 c6 c7 c8 f4 f6
      obtain ⟨c0, c1, c2, c3, c4, c5, c6, c7, c8⟩ := HX2.out.all
      have f6 := HX2.out.f 6
      simp only at c0 c1 c2 c3 c4 c5 c6 c7 c8
      obtain ⟨w3, hw3⟩ : ∃ y, y = w2.setCell ⟨w.heap.size, 6, none⟩ (.slice sA 70 sc) := ⟨_, rfl⟩
      have HX3 : Hid (ThAt w3 w.heap.size ⟨d, e, m, who, rA, 6, rc, til, sA, 70, sc, cA, cn, cc, tA, tn, tc⟩) := hid (by rw [hw3]; exact HX2.out.setSup sA 70 sc)
      have HZ3 : Hid (ThAt w3 (w.heap.size + 1) TH.zero) := hid (by rw [hw3]; exact HZ2.out.other (gro_set1 _ _ _ _) (by omega))
      have HB3 : Hid (Below w.heap.size w w3) := hid (by rw [hw3]; exact HB2.out.setCell (p := ⟨w.heap.size, 6, none⟩) (Nat.le_refl _) _)
      have hs3 : w3.heap.size = w.heap.size + 2 := by rw [hw3, ← hs2]; simp
      have HW3 := hid hw3
      clear hw3
      go_upto_region 5 with fail
      rw [← HW3.out]
      clear c0 c1 c2 c3 c4 c5 c6 c7 c8 f6 HX1 HZ1 HB1 HS1 HW1 HX2 HZ2 HB2 HW2 HW3
      obtain ⟨c0, c1, c2, c3, c4, c5, c6, c7, c8⟩ := HX3.out.all
      simp only at c0 c1 c2 c3 c4 c5 c6 c7 c8
      go_wp2_with fail
      go_loopw [3, 4] (fun v i wr => ∃ (A1 : Option Addr) (c1 j : Nat), v = .slice A1 j c1 ∧ i = .int .i64 (j : Int) ∧ j ≤ cn ∧ j ≤ 8 ∧ Hid (Own (E := encC) wr w3.heap.size 51 (.slice A1 j c1) ((hds.take j).map fewH)) ∧ Hid (Below w3.heap.size w3 wr)) (fun _ i _ => 8 - (intOf i).toNat)
      case atStart => exact ⟨none, 0, 0, rfl, rfl, Nat.zero_le _, Nat.zero_le _, hid (by simpa using Own.nil _ _ _), hid (Below.refl _ _)⟩
      case round =>
        clear c0 c1 c2 c3 c4 c5 c6 c7 c8
        obtain ⟨wj, hwj⟩ : ∃ x, x = wr := ⟨_, rfl⟩
        subst hwj
        obtain ⟨A1, c1, j, rfl, rfl, hjn, hj8, HO, HBJ⟩ := hrel
        have hj0 : (0 : Int) ≤ (j : Int) := Int.natCast_nonneg _
        have HXJ := hid (HX3.out.below HBJ.out)
        have HZJ := hid (HZ3.out.below HBJ.out)
        have f7 := HXJ.out.f 7
        have HB2J := hid (HB3.out.trans (HBJ.out.mono HB3.out.size))
        obtain ⟨c0, c1', c2, c3, c4, c5, c6, c7, c8⟩ := HXJ.out.all
        simp only at c0 c1' c2 c3 c4 c5 c6 c7 c8
        by_cases hlt : j < cn ∧ j < 8
        · have hk1 : (j : Int) < (cn : Int) := by omega
          have hk2 : (j : Int) < 8 := by omega
          obtain ⟨h0, hx⟩ : ∃ r, hds[j]? = some r := ⟨_, List.getElem?_eq_getElem (by rw [HHL.out, HCL.out]; exact hlt.1)⟩
          obtain ⟨ad, aj, hA, hab, haj, hbj, x0, xs⟩ := (HHE.out wj HB2J.out).get hx
          have x0 := x0 _ rfl
          have x1 := xs 1 _ (by omega) rfl
          have x2 := xs 2 _ (by omega) rfl
          have x3 := xs 3 _ (by omega) rfl
          have hqr := HHR.out j h0 hx
          subst hA
          have HTK : Hid ((hds.take (j + 1)).map fewH = (hds.take j).map fewH ++ [fewH h0]) := hid (by rw [take_snoc_of hx, List.map_append]; rfl)
          have HLJ : Hid (((hds.take j).map fewH).length = j) := hid (by rw [List.length_map, List.length_take, HHL.out, HCL.out]; omega)
          obtain ⟨L, hL⟩ : ∃ L, (hds.take j).map fewH = L := ⟨_, rfl⟩
          rw [hL] at HO HTK HLJ
          obtain ⟨kd, qA, qn, qc, tl, au⟩ := h0
          have x0 : wj.cell? aj = some (.int .i64 kd) := x0
          have x1 : wj.cell? ⟨aj.block, aj.off + 1, none⟩ = some (.slice qA qn qc) := x1
          have x2 : wj.cell? ⟨aj.block, aj.off + 2, none⟩ = some (.int .i64 tl) := x2
          have x3 : wj.cell? ⟨aj.block, aj.off + 3, none⟩ = some (.string au) := x3
          simp only at hqr
          have haj2 : ad.add (j * 4) = aj := haj
          obtain ⟨u1, hu1⟩ : ∃ y, y = wj.alloc (.cells #[.int .i64 kd, .slice qA qn qc, .int .i64 tl, .string au] 51) := ⟨_, rfl⟩
          have hbu1 : Below wj.heap.size wj u1 := by rw [hu1]; exact (Below.refl _ _).alloc (Nat.le_refl _) _
          have HC1 : Hid (ChAt u1 wj.heap.size ⟨kd, qA, qn, qc, tl, au⟩) := hid (by rw [hu1]; exact ChAt.new wj ⟨kd, qA, qn, qc, tl, au⟩)
          have HBU1 := hid hbu1
          have HU1 := hid hu1
          have hz1 : u1.heap.size = wj.heap.size + 1 := by rw [hu1]; simp
          clear hx hab hbj haj xs hu1 hbu1 hL
          go_upto_region 10 with fail
          rw [← HU1.out]
          clear c0 c1' c2 c3 c4 c5 c6 c7 c8 x0 x1 x2 x3 f7
          obtain ⟨v0, v1, v2, v3⟩ := HC1.out.all
          have g1 := HC1.out.f 1
          simp only at v0 v1 v2 v3
          by_cases hq6 : 6 < qn
          · have hq7 : (6 : Int) < (qn : Int) := by omega
            have hq8 : (6 : Int) ≤ (qc : Int) := by omega
            obtain ⟨u2, hu2⟩ : ∃ y, y = u1.setCell ⟨wj.heap.size, 1, none⟩ (.slice qA 6 qc) := ⟨_, rfl⟩
            have HC2 : Hid (ChAt u2 wj.heap.size ⟨kd, qA, 6, qc, tl, au⟩) := hid (by rw [hu2]; exact HC1.out.setRoles qA 6 qc)
            have HBU2 : Hid (Below wj.heap.size wj u2) := hid (by rw [hu2]; exact HBU1.out.setCell (p := ⟨wj.heap.size, 1, none⟩) (Nat.le_refl _) _)
            have HFH : Hid (fewH ⟨kd, qA, qn, qc, tl, au⟩ = ⟨kd, qA, 6, qc, tl, au⟩) := hid (by unfold fewH; simp only [CH.mk.injEq, true_and, and_true]; omega)
            have HU2 := hid hu2
            clear hu2
            go_upto_region 12 with fail
            rw [← HU2.out]
            clear v0 v1 v2 v3 g1
            obtain ⟨v0, v1, v2, v3⟩ := HC2.out.all
            simp only at v0 v1 v2 v3
            have HOA := hid ((HO.out.below HBU2.out).alloc (.cells #[.int .i64 kd, .slice qA 6 qc, .int .i64 tl, .string au] 51))
            have HRD := hid (reads_new u2 #[.int .i64 kd, .slice qA 6 qc, .int .i64 tl, .string au] 51 (0, 0))
            have HBA := hid ((HBJ.out.trans (HBU2.out.mono HBJ.out.size)).alloc (by have h1 := HBJ.out.size; have h2 := HBU2.out.size; omega) (.cells #[.int .i64 kd, .slice qA 6 qc, .int .i64 tl, .string au] 51))
            have hbs : w3.heap.size ≤ (u2.alloc (.cells #[.int .i64 kd, .slice qA 6 qc, .int .i64 tl, .string au] 51)).heap.size := HBA.out.size
            have hfl : L.length ≤ 1000000000000 := by rw [HLJ.out]; omega
            go_wp2_with (at_builtin; refine wpList_app1 (E := encC) rfl slC (.tmp 46) (.tmp 48) rfl (B := w3.heap.size) (v := .slice A1 j c1) (l := L) HOA.out rfl (ad := ⟨u2.heap.size, 0, none⟩) (c := 1) ⟨kd, qA, 6, qc, tl, au⟩ rfl HRD.out hfl (by omega) hbs ?_; intro A9 c9 w9 ho9 hg9 he9; have HO9 := hid ho9; have HB9 := hid (HBA.out.grown hg9 hbs (fun g e => (World.ownsRow.lt HOA.out g e).1)); clear ho9 hg9 he9)
            rw [HLJ.out] at HO9 ⊢
            go_roundw
            case rel => exact ⟨A9, c9, j + 1, rfl, by go_num, by omega, by omega, hid (by rw [HTK.out, HFH.out]; exact HO9.out), HB9⟩
            case measure => simp [intOf]; omega
          · have hq7 : ¬ (6 : Int) < (qn : Int) := by omega
            obtain ⟨u2, hu2⟩ : ∃ y, y = u1 := ⟨_, rfl⟩
            have HC2 : Hid (ChAt u2 wj.heap.size ⟨kd, qA, qn, qc, tl, au⟩) := hid (by rw [hu2]; exact HC1.out)
            have HBU2 : Hid (Below wj.heap.size wj u2) := hid (by rw [hu2]; exact HBU1.out)
            have HFH : Hid (fewH ⟨kd, qA, qn, qc, tl, au⟩ = ⟨kd, qA, qn, qc, tl, au⟩) := hid (by unfold fewH; simp only [CH.mk.injEq, true_and, and_true]; omega)
            have HU2 := hid hu2
            clear hu2
            go_upto_region 12 with fail
            rw [← HU2.out]
            clear v0 v1 v2 v3 g1
            obtain ⟨v0, v1, v2, v3⟩ := HC2.out.all
            simp only at v0 v1 v2 v3
            have HOA := hid ((HO.out.below HBU2.out).alloc (.cells #[.int .i64 kd, .slice qA qn qc, .int .i64 tl, .string au] 51))
            have HRD := hid (reads_new u2 #[.int .i64 kd, .slice qA qn qc, .int .i64 tl, .string au] 51 (0, 0))
            have HBA := hid ((HBJ.out.trans (HBU2.out.mono HBJ.out.size)).alloc (by have h1 := HBJ.out.size; have h2 := HBU2.out.size; omega) (.cells #[.int .i64 kd, .slice qA qn qc, .int .i64 tl, .string au] 51))
            have hbs : w3.heap.size ≤ (u2.alloc (.cells #[.int .i64 kd, .slice qA qn qc, .int .i64 tl, .string au] 51)).heap.size := HBA.out.size
            have hfl : L.length ≤ 1000000000000 := by rw [HLJ.out]; omega
            go_wp2_with (at_builtin; refine wpList_app1 (E := encC) rfl slC (.tmp 46) (.tmp 48) rfl (B := w3.heap.size) (v := .slice A1 j c1) (l := L) HOA.out rfl (ad := ⟨u2.heap.size, 0, none⟩) (c := 1) ⟨kd, qA, qn, qc, tl, au⟩ rfl HRD.out hfl (by omega) hbs ?_; intro A9 c9 w9 ho9 hg9 he9; have HO9 := hid ho9; have HB9 := hid (HBA.out.grown hg9 hbs (fun g e => (World.ownsRow.lt HOA.out g e).1)); clear ho9 hg9 he9)
            rw [HLJ.out] at HO9 ⊢
            go_roundw
            case rel => exact ⟨A9, c9, j + 1, rfl, by go_num, by omega, by omega, hid (by rw [HTK.out, HFH.out]; exact HO9.out), HB9⟩
            case measure => simp [intOf]; omega
        · have HJ8 : Hid (j = min 8 t.cavs.length) := hid (by rw [HCL.out]; omega)
          have HOJ : Hid (Own (E := encC) wj w.heap.size 51 (.slice A1 j c1) ((hds.take j).map fewH)) := hid (own_lowT HO.out HB3.out.size)
          have HOJF : Hid (∀ g, (Value.slice A1 j c1).ownBlock = some g → g ≠ w.heap.size ∧ g ≠ w.heap.size + 1) := hid (fun g e => by have := (HO.out.lt g e).1; omega)
          by_cases hk1 : (j : Int) < (cn : Int)
          · have hk2 : ¬ (j : Int) < 8 := by omega
            by_cases ht : 40 < tn
            · have ht1 : (40 : Int) < (tn : Int) := by omega
              have ht2 : (40 : Int) ≤ (tc : Int) := by omega
              have hmt : min tn 40 = 40 := by omega
              have HCV : Hid (ThAt (wj.setCell ⟨w.heap.size, 7, none⟩ (.slice A1 j c1)) w.heap.size ⟨d, e, m, who, rA, 6, rc, til, sA, 70, sc, A1, j, c1, tA, tn, tc⟩) := hid (HXJ.out.cavs A1 j c1)
              obtain ⟨x1, hx1⟩ : ∃ y, y = wj.setCell ⟨w.heap.size, 7, none⟩ (.slice A1 j c1) := ⟨_, rfl⟩
              have HGX1 : Hid (wj.grownBy x1 (some w.heap.size)) := hid (by rw [hx1]; exact gro_set1 _ _ _ _)
              rw [← hx1] at HCV
              have HZX1 := hid (HZJ.out.other HGX1.out (by omega))
              have HWX1 := hid hx1
              clear hx1
              go_upto_region 14 with fail
              rw [← HWX1.out]
              clear c0 c1' c2 c3 c4 c5 c6 c7 c8 f7
              obtain ⟨c0, c1', c2, c3, c4, c5, c6, c7, c8⟩ := HCV.out.all
              have f8 := HCV.out.f 8
              simp only at c0 c1' c2 c3 c4 c5 c6 c7 c8
              obtain ⟨x2, hx2⟩ : ∃ y, y = x1.setCell ⟨w.heap.size, 8, none⟩ (.slice tA 40 tc) := ⟨_, rfl⟩
              have HX2 : Hid (ThAt x2 w.heap.size ⟨d, e, m, who, rA, 6, rc, til, sA, 70, sc, A1, j, c1, tA, 40, tc⟩) := hid (by rw [hx2]; exact HCV.out.tag tA 40 tc)
              have HGX2 : Hid (x1.grownBy x2 (some w.heap.size)) := hid (by rw [hx2]; exact gro_set1 _ _ _ _)
              have HZX2 := hid (HZX1.out.other HGX2.out (by omega))
              have HGT := hid (HGX1.out.trans HGX2.out)
              have HWX2 := hid hx2
              clear hx2
              go_upto_region 16 with fail
              rw [← HWX2.out]
              clear c0 c1' c2 c3 c4 c5 c6 c7 c8 f8
              obtain ⟨c0, c1', c2, c3, c4, c5, c6, c7, c8⟩ := HX2.out.all
              simp only at c0 c1' c2 c3 c4 c5 c6 c7 c8
              obtain ⟨z0, z1, z2, z3, z4, z5, z6, z7, z8⟩ := HZX2.out.all
              try simp only [TH.zero] at z0 z1 z2 z3 z4 z5 z6 z7 z8
              have g0 := HZX2.out.f 0
              have g1 := HZX2.out.f 1
              have g2 := HZX2.out.f 2
              have g3 := HZX2.out.f 3
              have g4 := HZX2.out.f 4
              have g5 := HZX2.out.f 5
              have g6 := HZX2.out.f 6
              have g7 := HZX2.out.f 7
              have g8 := HZX2.out.f 8
              obtain ⟨hput, hgro⟩ := HZX2.out.put ⟨d, e, m, who, rA, 6, rc, til, sA, 70, sc, A1, j, c1, tA, 40, tc⟩
              try simp only at hput hgro
              have HPUT := hid hput
              have HGRO := hid hgro
              clear hput hgro
              go_wp2_with fail
              refine bodyPost_ret (results_mid (h := Tryz.results6) _ _ (w.heap.size + 1) 0 [.int .i64 d, .int .i64 e, .int .i64 m, .string who, .slice rA 6 rc, .int .i64 til, .slice sA 70 sc, .slice A1 j c1, .slice tA 40 tc] _ rfl (range_row HPUT.out) Tryz.underlying27 rfl info_token) rfl ?_
              have HBZ := (HB2J.out.grown HGT.out HB2J.out.size (fun b e => by injection e with e; omega)).grown HGRO.out (by have h1 := HGT.out.size; have h2 := HB2J.out.size; omega) (fun b e => by injection e with e; omega)
              refine ⟨⟨d, e, m, who, rA, 6, rc, til, sA, 70, sc, A1, j, c1, tA, 40, tc⟩, rfl, ?_, HBZ⟩
              have q := HPOST.out _ A1 c1 j HJ8.out (HOJ.out.kept fun g e => by
                have h0 := HOJF.out g e
                have h1 := HGT.out.size
                have hl := (HOJ.out.lt g e).2
                exact (HGRO.out.block g (by omega) (fun e2 => h0.2 (by injection e2))).trans (HGT.out.block g hl (fun e2 => h0.1 (by injection e2)))) HBZ
              simpa only [hmr, hms, hmt] using q
            · have ht1 : ¬ (40 : Int) < (tn : Int) := by omega
              have hmt : min tn 40 = tn := by omega
              have HCV : Hid (ThAt (wj.setCell ⟨w.heap.size, 7, none⟩ (.slice A1 j c1)) w.heap.size ⟨d, e, m, who, rA, 6, rc, til, sA, 70, sc, A1, j, c1, tA, tn, tc⟩) := hid (HXJ.out.cavs A1 j c1)
              obtain ⟨x1, hx1⟩ : ∃ y, y = wj.setCell ⟨w.heap.size, 7, none⟩ (.slice A1 j c1) := ⟨_, rfl⟩
              have HGX1 : Hid (wj.grownBy x1 (some w.heap.size)) := hid (by rw [hx1]; exact gro_set1 _ _ _ _)
              rw [← hx1] at HCV
              have HZX1 := hid (HZJ.out.other HGX1.out (by omega))
              have HWX1 := hid hx1
              clear hx1
              go_upto_region 14 with fail
              rw [← HWX1.out]
              clear c0 c1' c2 c3 c4 c5 c6 c7 c8 f7
              obtain ⟨c0, c1', c2, c3, c4, c5, c6, c7, c8⟩ := HCV.out.all
              have f8 := HCV.out.f 8
              simp only at c0 c1' c2 c3 c4 c5 c6 c7 c8
              have HGT := HGX1
              obtain ⟨z0, z1, z2, z3, z4, z5, z6, z7, z8⟩ := HZX1.out.all
              try simp only [TH.zero] at z0 z1 z2 z3 z4 z5 z6 z7 z8
              have g0 := HZX1.out.f 0
              have g1 := HZX1.out.f 1
              have g2 := HZX1.out.f 2
              have g3 := HZX1.out.f 3
              have g4 := HZX1.out.f 4
              have g5 := HZX1.out.f 5
              have g6 := HZX1.out.f 6
              have g7 := HZX1.out.f 7
              have g8 := HZX1.out.f 8
              obtain ⟨hput, hgro⟩ := HZX1.out.put ⟨d, e, m, who, rA, 6, rc, til, sA, 70, sc, A1, j, c1, tA, tn, tc⟩
              try simp only at hput hgro
              have HPUT := hid hput
              have HGRO := hid hgro
              clear hput hgro
              go_wp2_with fail
              refine bodyPost_ret (results_mid (h := Tryz.results6) _ _ (w.heap.size + 1) 0 [.int .i64 d, .int .i64 e, .int .i64 m, .string who, .slice rA 6 rc, .int .i64 til, .slice sA 70 sc, .slice A1 j c1, .slice tA tn tc] _ rfl (range_row HPUT.out) Tryz.underlying27 rfl info_token) rfl ?_
              have HBZ := (HB2J.out.grown HGT.out HB2J.out.size (fun b e => by injection e with e; omega)).grown HGRO.out (by have h1 := HGT.out.size; have h2 := HB2J.out.size; omega) (fun b e => by injection e with e; omega)
              refine ⟨⟨d, e, m, who, rA, 6, rc, til, sA, 70, sc, A1, j, c1, tA, tn, tc⟩, rfl, ?_, HBZ⟩
              have q := HPOST.out _ A1 c1 j HJ8.out (HOJ.out.kept fun g e => by
                have h0 := HOJF.out g e
                have h1 := HGT.out.size
                have hl := (HOJ.out.lt g e).2
                exact (HGRO.out.block g (by omega) (fun e2 => h0.2 (by injection e2))).trans (HGT.out.block g hl (fun e2 => h0.1 (by injection e2)))) HBZ
              simpa only [hmr, hms, hmt] using q
          · by_cases ht : 40 < tn
            · have ht1 : (40 : Int) < (tn : Int) := by omega
              have ht2 : (40 : Int) ≤ (tc : Int) := by omega
              have hmt : min tn 40 = 40 := by omega
              have HCV : Hid (ThAt (wj.setCell ⟨w.heap.size, 7, none⟩ (.slice A1 j c1)) w.heap.size ⟨d, e, m, who, rA, 6, rc, til, sA, 70, sc, A1, j, c1, tA, tn, tc⟩) := hid (HXJ.out.cavs A1 j c1)
              obtain ⟨x1, hx1⟩ : ∃ y, y = wj.setCell ⟨w.heap.size, 7, none⟩ (.slice A1 j c1) := ⟨_, rfl⟩
              have HGX1 : Hid (wj.grownBy x1 (some w.heap.size)) := hid (by rw [hx1]; exact gro_set1 _ _ _ _)
              rw [← hx1] at HCV
              have HZX1 := hid (HZJ.out.other HGX1.out (by omega))
              have HWX1 := hid hx1
              clear hx1
              go_upto_region 14 with fail
              rw [← HWX1.out]
              clear c0 c1' c2 c3 c4 c5 c6 c7 c8 f7
              obtain ⟨c0, c1', c2, c3, c4, c5, c6, c7, c8⟩ := HCV.out.all
              have f8 := HCV.out.f 8
              simp only at c0 c1' c2 c3 c4 c5 c6 c7 c8
              obtain ⟨x2, hx2⟩ : ∃ y, y = x1.setCell ⟨w.heap.size, 8, none⟩ (.slice tA 40 tc) := ⟨_, rfl⟩
              have HX2 : Hid (ThAt x2 w.heap.size ⟨d, e, m, who, rA, 6, rc, til, sA, 70, sc, A1, j, c1, tA, 40, tc⟩) := hid (by rw [hx2]; exact HCV.out.tag tA 40 tc)
              have HGX2 : Hid (x1.grownBy x2 (some w.heap.size)) := hid (by rw [hx2]; exact gro_set1 _ _ _ _)
              have HZX2 := hid (HZX1.out.other HGX2.out (by omega))
              have HGT := hid (HGX1.out.trans HGX2.out)
              have HWX2 := hid hx2
              clear hx2
              go_upto_region 16 with fail
              rw [← HWX2.out]
              clear c0 c1' c2 c3 c4 c5 c6 c7 c8 f8
              obtain ⟨c0, c1', c2, c3, c4, c5, c6, c7, c8⟩ := HX2.out.all
              simp only at c0 c1' c2 c3 c4 c5 c6 c7 c8
              obtain ⟨z0, z1, z2, z3, z4, z5, z6, z7, z8⟩ := HZX2.out.all
              try simp only [TH.zero] at z0 z1 z2 z3 z4 z5 z6 z7 z8
              have g0 := HZX2.out.f 0
              have g1 := HZX2.out.f 1
              have g2 := HZX2.out.f 2
              have g3 := HZX2.out.f 3
              have g4 := HZX2.out.f 4
              have g5 := HZX2.out.f 5
              have g6 := HZX2.out.f 6
              have g7 := HZX2.out.f 7
              have g8 := HZX2.out.f 8
              obtain ⟨hput, hgro⟩ := HZX2.out.put ⟨d, e, m, who, rA, 6, rc, til, sA, 70, sc, A1, j, c1, tA, 40, tc⟩
              try simp only at hput hgro
              have HPUT := hid hput
              have HGRO := hid hgro
              clear hput hgro
              go_wp2_with fail
              refine bodyPost_ret (results_mid (h := Tryz.results6) _ _ (w.heap.size + 1) 0 [.int .i64 d, .int .i64 e, .int .i64 m, .string who, .slice rA 6 rc, .int .i64 til, .slice sA 70 sc, .slice A1 j c1, .slice tA 40 tc] _ rfl (range_row HPUT.out) Tryz.underlying27 rfl info_token) rfl ?_
              have HBZ := (HB2J.out.grown HGT.out HB2J.out.size (fun b e => by injection e with e; omega)).grown HGRO.out (by have h1 := HGT.out.size; have h2 := HB2J.out.size; omega) (fun b e => by injection e with e; omega)
              refine ⟨⟨d, e, m, who, rA, 6, rc, til, sA, 70, sc, A1, j, c1, tA, 40, tc⟩, rfl, ?_, HBZ⟩
              have q := HPOST.out _ A1 c1 j HJ8.out (HOJ.out.kept fun g e => by
                have h0 := HOJF.out g e
                have h1 := HGT.out.size
                have hl := (HOJ.out.lt g e).2
                exact (HGRO.out.block g (by omega) (fun e2 => h0.2 (by injection e2))).trans (HGT.out.block g hl (fun e2 => h0.1 (by injection e2)))) HBZ
              simpa only [hmr, hms, hmt] using q
            · have ht1 : ¬ (40 : Int) < (tn : Int) := by omega
              have hmt : min tn 40 = tn := by omega
              have HCV : Hid (ThAt (wj.setCell ⟨w.heap.size, 7, none⟩ (.slice A1 j c1)) w.heap.size ⟨d, e, m, who, rA, 6, rc, til, sA, 70, sc, A1, j, c1, tA, tn, tc⟩) := hid (HXJ.out.cavs A1 j c1)
              obtain ⟨x1, hx1⟩ : ∃ y, y = wj.setCell ⟨w.heap.size, 7, none⟩ (.slice A1 j c1) := ⟨_, rfl⟩
              have HGX1 : Hid (wj.grownBy x1 (some w.heap.size)) := hid (by rw [hx1]; exact gro_set1 _ _ _ _)
              rw [← hx1] at HCV
              have HZX1 := hid (HZJ.out.other HGX1.out (by omega))
              have HWX1 := hid hx1
              clear hx1
              go_upto_region 14 with fail
              rw [← HWX1.out]
              clear c0 c1' c2 c3 c4 c5 c6 c7 c8 f7
              obtain ⟨c0, c1', c2, c3, c4, c5, c6, c7, c8⟩ := HCV.out.all
              have f8 := HCV.out.f 8
              simp only at c0 c1' c2 c3 c4 c5 c6 c7 c8
              have HGT := HGX1
              obtain ⟨z0, z1, z2, z3, z4, z5, z6, z7, z8⟩ := HZX1.out.all
              try simp only [TH.zero] at z0 z1 z2 z3 z4 z5 z6 z7 z8
              have g0 := HZX1.out.f 0
              have g1 := HZX1.out.f 1
              have g2 := HZX1.out.f 2
              have g3 := HZX1.out.f 3
              have g4 := HZX1.out.f 4
              have g5 := HZX1.out.f 5
              have g6 := HZX1.out.f 6
              have g7 := HZX1.out.f 7
              have g8 := HZX1.out.f 8
              obtain ⟨hput, hgro⟩ := HZX1.out.put ⟨d, e, m, who, rA, 6, rc, til, sA, 70, sc, A1, j, c1, tA, tn, tc⟩
              try simp only at hput hgro
              have HPUT := hid hput
              have HGRO := hid hgro
              clear hput hgro
              go_wp2_with fail
              refine bodyPost_ret (results_mid (h := Tryz.results6) _ _ (w.heap.size + 1) 0 [.int .i64 d, .int .i64 e, .int .i64 m, .string who, .slice rA 6 rc, .int .i64 til, .slice sA 70 sc, .slice A1 j c1, .slice tA tn tc] _ rfl (range_row HPUT.out) Tryz.underlying27 rfl info_token) rfl ?_
              have HBZ := (HB2J.out.grown HGT.out HB2J.out.size (fun b e => by injection e with e; omega)).grown HGRO.out (by have h1 := HGT.out.size; have h2 := HB2J.out.size; omega) (fun b e => by injection e with e; omega)
              refine ⟨⟨d, e, m, who, rA, 6, rc, til, sA, 70, sc, A1, j, c1, tA, tn, tc⟩, rfl, ?_, HBZ⟩
              have q := HPOST.out _ A1 c1 j HJ8.out (HOJ.out.kept fun g e => by
                have h0 := HOJF.out g e
                have h1 := HGT.out.size
                have hl := (HOJ.out.lt g e).2
                exact (HGRO.out.block g (by omega) (fun e2 => h0.2 (by injection e2))).trans (HGT.out.block g hl (fun e2 => h0.1 (by injection e2)))) HBZ
              simpa only [hmr, hms, hmt] using q
    · have hr1 : (6 : Int) < (rn : Int) := by omega
      have hr2 : (6 : Int) ≤ (rc : Int) := by omega
      have hmr : min rn 6 = 6 := by omega
      have hs1 : ¬ (70 : Int) < (sn : Int) := by omega
      have hms : min sn 70 = sn := by omega
      go_enter Tryz.func6, Tryz.ntmps6
      go_upto_region 1 with fail
      rw [← HW1.out]
      obtain ⟨w2, hw2⟩ : ∃ y, y = w1.setCell ⟨w.heap.size, 4, none⟩ (.slice rA 6 rc) := ⟨_, rfl⟩
      have HX2 : Hid (ThAt w2 w.heap.size ⟨d, e, m, who, rA, 6, rc, til, sA, sn, sc, cA, cn, cc, tA, tn, tc⟩) := hid (by rw [hw2]; exact HX1.out.setRoles rA 6 rc)
      have HZ2 : Hid (ThAt w2 (w.heap.size + 1) TH.zero) := hid (by rw [hw2]; exact HZ1.out.other (gro_set1 _ _ _ _) (by omega))
      have HB2 : Hid (Below w.heap.size w w2) := hid (by rw [hw2]; exact HB1.out.setCell (p := ⟨w.heap.size, 4, none⟩) (Nat.le_refl _) _)
      have hs2 : w2.heap.size = w.heap.size + 2 := by rw [hw2, ← HS1.out]; simp
      have HW2 := hid hw2
      clear hw2
      go_upto_region 3 with fail
      rw [← HW2.out]
      clear c0 c1 c2 c3 c4 c5 c6 c7 c8 f4 f6
      obtain ⟨c0, c1, c2, c3, c4, c5, c6, c7, c8⟩ := HX2.out.all
      have f6 := HX2.out.f 6
      simp only at c0 c1 c2 c3 c4 c5 c6 c7 c8
      obtain ⟨w3, hw3⟩ : ∃ y, y = w2 := ⟨_, rfl⟩
      have HX3 : Hid (ThAt w3 w.heap.size ⟨d, e, m, who, rA, 6, rc, til, sA, sn, sc, cA, cn, cc, tA, tn, tc⟩) := hid (by rw [hw3]; exact HX2.out)
      have HZ3 : Hid (ThAt w3 (w.heap.size + 1) TH.zero) := hid (by rw [hw3]; exact HZ2.out)
      have HB3 : Hid (Below w.heap.size w w3) := hid (by rw [hw3]; exact HB2.out)
      have hs3 : w3.heap.size = w.heap.size + 2 := by rw [hw3]; exact hs2
      have HW3 := hid hw3
      clear hw3
      go_upto_region 5 with fail
      rw [← HW3.out]
      clear c0 c1 c2 c3 c4 c5 c6 c7 c8 f6 HX1 HZ1 HB1 HS1 HW1 HX2 HZ2 HB2 HW2 HW3
      obtain ⟨c0, c1, c2, c3, c4, c5, c6, c7, c8⟩ := HX3.out.all
      simp only at c0 c1 c2 c3 c4 c5 c6 c7 c8
      go_wp2_with fail
      go_loopw [3, 4] (fun v i wr => ∃ (A1 : Option Addr) (c1 j : Nat), v = .slice A1 j c1 ∧ i = .int .i64 (j : Int) ∧ j ≤ cn ∧ j ≤ 8 ∧ Hid (Own (E := encC) wr w3.heap.size 51 (.slice A1 j c1) ((hds.take j).map fewH)) ∧ Hid (Below w3.heap.size w3 wr)) (fun _ i _ => 8 - (intOf i).toNat)
      case atStart => exact ⟨none, 0, 0, rfl, rfl, Nat.zero_le _, Nat.zero_le _, hid (by simpa using Own.nil _ _ _), hid (Below.refl _ _)⟩
      case round =>
        clear c0 c1 c2 c3 c4 c5 c6 c7 c8
        obtain ⟨wj, hwj⟩ : ∃ x, x = wr := ⟨_, rfl⟩
        subst hwj
        obtain ⟨A1, c1, j, rfl, rfl, hjn, hj8, HO, HBJ⟩ := hrel
        have hj0 : (0 : Int) ≤ (j : Int) := Int.natCast_nonneg _
        have HXJ := hid (HX3.out.below HBJ.out)
        have HZJ := hid (HZ3.out.below HBJ.out)
        have f7 := HXJ.out.f 7
        have HB2J := hid (HB3.out.trans (HBJ.out.mono HB3.out.size))
        obtain ⟨c0, c1', c2, c3, c4, c5, c6, c7, c8⟩ := HXJ.out.all
        simp only at c0 c1' c2 c3 c4 c5 c6 c7 c8
        by_cases hlt : j < cn ∧ j < 8
        · have hk1 : (j : Int) < (cn : Int) := by omega
          have hk2 : (j : Int) < 8 := by omega
          obtain ⟨h0, hx⟩ : ∃ r, hds[j]? = some r := ⟨_, List.getElem?_eq_getElem (by rw [HHL.out, HCL.out]; exact hlt.1)⟩
          obtain ⟨ad, aj, hA, hab, haj, hbj, x0, xs⟩ := (HHE.out wj HB2J.out).get hx
          have x0 := x0 _ rfl
          have x1 := xs 1 _ (by omega) rfl
          have x2 := xs 2 _ (by omega) rfl
          have x3 := xs 3 _ (by omega) rfl
          have hqr := HHR.out j h0 hx
          subst hA
          have HTK : Hid ((hds.take (j + 1)).map fewH = (hds.take j).map fewH ++ [fewH h0]) := hid (by rw [take_snoc_of hx, List.map_append]; rfl)
          have HLJ : Hid (((hds.take j).map fewH).length = j) := hid (by rw [List.length_map, List.length_take, HHL.out, HCL.out]; omega)
          obtain ⟨L, hL⟩ : ∃ L, (hds.take j).map fewH = L := ⟨_, rfl⟩
          rw [hL] at HO HTK HLJ
          obtain ⟨kd, qA, qn, qc, tl, au⟩ := h0
          have x0 : wj.cell? aj = some (.int .i64 kd) := x0
          have x1 : wj.cell? ⟨aj.block, aj.off + 1, none⟩ = some (.slice qA qn qc) := x1
          have x2 : wj.cell? ⟨aj.block, aj.off + 2, none⟩ = some (.int .i64 tl) := x2
          have x3 : wj.cell? ⟨aj.block, aj.off + 3, none⟩ = some (.string au) := x3
          simp only at hqr
          have haj2 : ad.add (j * 4) = aj := haj
          obtain ⟨u1, hu1⟩ : ∃ y, y = wj.alloc (.cells #[.int .i64 kd, .slice qA qn qc, .int .i64 tl, .string au] 51) := ⟨_, rfl⟩
          have hbu1 : Below wj.heap.size wj u1 := by rw [hu1]; exact (Below.refl _ _).alloc (Nat.le_refl _) _
          have HC1 : Hid (ChAt u1 wj.heap.size ⟨kd, qA, qn, qc, tl, au⟩) := hid (by rw [hu1]; exact ChAt.new wj ⟨kd, qA, qn, qc, tl, au⟩)
          have HBU1 := hid hbu1
          have HU1 := hid hu1
          have hz1 : u1.heap.size = wj.heap.size + 1 := by rw [hu1]; simp
          clear hx hab hbj haj xs hu1 hbu1 hL
          go_upto_region 10 with fail
          rw [← HU1.out]
          clear c0 c1' c2 c3 c4 c5 c6 c7 c8 x0 x1 x2 x3 f7
          obtain ⟨v0, v1, v2, v3⟩ := HC1.out.all
          have g1 := HC1.out.f 1
          simp only at v0 v1 v2 v3
          by_cases hq6 : 6 < qn
          · have hq7 : (6 : Int) < (qn : Int) := by omega
            have hq8 : (6 : Int) ≤ (qc : Int) := by omega
            obtain ⟨u2, hu2⟩ : ∃ y, y = u1.setCell ⟨wj.heap.size, 1, none⟩ (.slice qA 6 qc) := ⟨_, rfl⟩
            have HC2 : Hid (ChAt u2 wj.heap.size ⟨kd, qA, 6, qc, tl, au⟩) := hid (by rw [hu2]; exact HC1.out.setRoles qA 6 qc)
            have HBU2 : Hid (Below wj.heap.size wj u2) := hid (by rw [hu2]; exact HBU1.out.setCell (p := ⟨wj.heap.size, 1, none⟩) (Nat.le_refl _) _)
            have HFH : Hid (fewH ⟨kd, qA, qn, qc, tl, au⟩ = ⟨kd, qA, 6, qc, tl, au⟩) := hid (by unfold fewH; simp only [CH.mk.injEq, true_and, and_true]; omega)
            have HU2 := hid hu2
            clear hu2
            go_upto_region 12 with fail
            rw [← HU2.out]
            clear v0 v1 v2 v3 g1
            obtain ⟨v0, v1, v2, v3⟩ := HC2.out.all
            simp only at v0 v1 v2 v3
            have HOA := hid ((HO.out.below HBU2.out).alloc (.cells #[.int .i64 kd, .slice qA 6 qc, .int .i64 tl, .string au] 51))
            have HRD := hid (reads_new u2 #[.int .i64 kd, .slice qA 6 qc, .int .i64 tl, .string au] 51 (0, 0))
            have HBA := hid ((HBJ.out.trans (HBU2.out.mono HBJ.out.size)).alloc (by have h1 := HBJ.out.size; have h2 := HBU2.out.size; omega) (.cells #[.int .i64 kd, .slice qA 6 qc, .int .i64 tl, .string au] 51))
            have hbs : w3.heap.size ≤ (u2.alloc (.cells #[.int .i64 kd, .slice qA 6 qc, .int .i64 tl, .string au] 51)).heap.size := HBA.out.size
            have hfl : L.length ≤ 1000000000000 := by rw [HLJ.out]; omega
            go_wp2_with (at_builtin; refine wpList_app1 (E := encC) rfl slC (.tmp 46) (.tmp 48) rfl (B := w3.heap.size) (v := .slice A1 j c1) (l := L) HOA.out rfl (ad := ⟨u2.heap.size, 0, none⟩) (c := 1) ⟨kd, qA, 6, qc, tl, au⟩ rfl HRD.out hfl (by omega) hbs ?_; intro A9 c9 w9 ho9 hg9 he9; have HO9 := hid ho9; have HB9 := hid (HBA.out.grown hg9 hbs (fun g e => (World.ownsRow.lt HOA.out g e).1)); clear ho9 hg9 he9)
            rw [HLJ.out] at HO9 ⊢
            go_roundw
            case rel => exact ⟨A9, c9, j + 1, rfl, by go_num, by omega, by omega, hid (by rw [HTK.out, HFH.out]; exact HO9.out), HB9⟩
            case measure => simp [intOf]; omega
          · have hq7 : ¬ (6 : Int) < (qn : Int) := by omega
            obtain ⟨u2, hu2⟩ : ∃ y, y = u1 := ⟨_, rfl⟩
            have HC2 : Hid (ChAt u2 wj.heap.size ⟨kd, qA, qn, qc, tl, au⟩) := hid (by rw [hu2]; exact HC1.out)
            have HBU2 : Hid (Below wj.heap.size wj u2) := hid (by rw [hu2]; exact HBU1.out)
            have HFH : Hid (fewH ⟨kd, qA, qn, qc, tl, au⟩ = ⟨kd, qA, qn, qc, tl, au⟩) := hid (by unfold fewH; simp only [CH.mk.injEq, true_and, and_true]; omega)
            have HU2 := hid hu2
            clear hu2
            go_upto_region 12 with fail
            rw [← HU2.out]
            clear v0 v1 v2 v3 g1
            obtain ⟨v0, v1, v2, v3⟩ := HC2.out.all
            simp only at v0 v1 v2 v3
            have HOA := hid ((HO.out.below HBU2.out).alloc (.cells #[.int .i64 kd, .slice qA qn qc, .int .i64 tl, .string au] 51))
            have HRD := hid (reads_new u2 #[.int .i64 kd, .slice qA qn qc, .int .i64 tl, .string au] 51 (0, 0))
            have HBA := hid ((HBJ.out.trans (HBU2.out.mono HBJ.out.size)).alloc (by have h1 := HBJ.out.size; have h2 := HBU2.out.size; omega) (.cells #[.int .i64 kd, .slice qA qn qc, .int .i64 tl, .string au] 51))
            have hbs : w3.heap.size ≤ (u2.alloc (.cells #[.int .i64 kd, .slice qA qn qc, .int .i64 tl, .string au] 51)).heap.size := HBA.out.size
            have hfl : L.length ≤ 1000000000000 := by rw [HLJ.out]; omega
            go_wp2_with (at_builtin; refine wpList_app1 (E := encC) rfl slC (.tmp 46) (.tmp 48) rfl (B := w3.heap.size) (v := .slice A1 j c1) (l := L) HOA.out rfl (ad := ⟨u2.heap.size, 0, none⟩) (c := 1) ⟨kd, qA, qn, qc, tl, au⟩ rfl HRD.out hfl (by omega) hbs ?_; intro A9 c9 w9 ho9 hg9 he9; have HO9 := hid ho9; have HB9 := hid (HBA.out.grown hg9 hbs (fun g e => (World.ownsRow.lt HOA.out g e).1)); clear ho9 hg9 he9)
            rw [HLJ.out] at HO9 ⊢
            go_roundw
            case rel => exact ⟨A9, c9, j + 1, rfl, by go_num, by omega, by omega, hid (by rw [HTK.out, HFH.out]; exact HO9.out), HB9⟩
            case measure => simp [intOf]; omega
        · have HJ8 : Hid (j = min 8 t.cavs.length) := hid (by rw [HCL.out]; omega)
          have HOJ : Hid (Own (E := encC) wj w.heap.size 51 (.slice A1 j c1) ((hds.take j).map fewH)) := hid (own_lowT HO.out HB3.out.size)
          have HOJF : Hid (∀ g, (Value.slice A1 j c1).ownBlock = some g → g ≠ w.heap.size ∧ g ≠ w.heap.size + 1) := hid (fun g e => by have := (HO.out.lt g e).1; omega)
          by_cases hk1 : (j : Int) < (cn : Int)
          · have hk2 : ¬ (j : Int) < 8 := by omega
            by_cases ht : 40 < tn
            · have ht1 : (40 : Int) < (tn : Int) := by omega
              have ht2 : (40 : Int) ≤ (tc : Int) := by omega
              have hmt : min tn 40 = 40 := by omega
              have HCV : Hid (ThAt (wj.setCell ⟨w.heap.size, 7, none⟩ (.slice A1 j c1)) w.heap.size ⟨d, e, m, who, rA, 6, rc, til, sA, sn, sc, A1, j, c1, tA, tn, tc⟩) := hid (HXJ.out.cavs A1 j c1)
              obtain ⟨x1, hx1⟩ : ∃ y, y = wj.setCell ⟨w.heap.size, 7, none⟩ (.slice A1 j c1) := ⟨_, rfl⟩
              have HGX1 : Hid (wj.grownBy x1 (some w.heap.size)) := hid (by rw [hx1]; exact gro_set1 _ _ _ _)
              rw [← hx1] at HCV
              have HZX1 := hid (HZJ.out.other HGX1.out (by omega))
              have HWX1 := hid hx1
              clear hx1
              go_upto_region 14 with fail
              rw [← HWX1.out]
              clear c0 c1' c2 c3 c4 c5 c6 c7 c8 f7
              obtain ⟨c0, c1', c2, c3, c4, c5, c6, c7, c8⟩ := HCV.out.all
              have f8 := HCV.out.f 8
              simp only at c0 c1' c2 c3 c4 c5 c6 c7 c8
              obtain ⟨x2, hx2⟩ : ∃ y, y = x1.setCell ⟨w.heap.size, 8, none⟩ (.slice tA 40 tc) := ⟨_, rfl⟩
              have HX2 : Hid (ThAt x2 w.heap.size ⟨d, e, m, who, rA, 6, rc, til, sA, sn, sc, A1, j, c1, tA, 40, tc⟩) := hid (by rw [hx2]; exact HCV.out.tag tA 40 tc)
              have HGX2 : Hid (x1.grownBy x2 (some w.heap.size)) := hid (by rw [hx2]; exact gro_set1 _ _ _ _)
              have HZX2 := hid (HZX1.out.other HGX2.out (by omega))
              have HGT := hid (HGX1.out.trans HGX2.out)
              have HWX2 := hid hx2
              clear hx2
              go_upto_region 16 with fail
              rw [← HWX2.out]
              clear c0 c1' c2 c3 c4 c5 c6 c7 c8 f8
              obtain ⟨c0, c1', c2, c3, c4, c5, c6, c7, c8⟩ := HX2.out.all
              simp only at c0 c1' c2 c3 c4 c5 c6 c7 c8
              obtain ⟨z0, z1, z2, z3, z4, z5, z6, z7, z8⟩ := HZX2.out.all
              try simp only [TH.zero] at z0 z1 z2 z3 z4 z5 z6 z7 z8
              have g0 := HZX2.out.f 0
              have g1 := HZX2.out.f 1
              have g2 := HZX2.out.f 2
              have g3 := HZX2.out.f 3
              have g4 := HZX2.out.f 4
              have g5 := HZX2.out.f 5
              have g6 := HZX2.out.f 6
              have g7 := HZX2.out.f 7
              have g8 := HZX2.out.f 8
              obtain ⟨hput, hgro⟩ := HZX2.out.put ⟨d, e, m, who, rA, 6, rc, til, sA, sn, sc, A1, j, c1, tA, 40, tc⟩
              try simp only at hput hgro
              have HPUT := hid hput
              have HGRO := hid hgro
              clear hput hgro
              go_wp2_with fail
              refine bodyPost_ret (results_mid (h := Tryz.results6) _ _ (w.heap.size + 1) 0 [.int .i64 d, .int .i64 e, .int .i64 m, .string who, .slice rA 6 rc, .int .i64 til, .slice sA sn sc, .slice A1 j c1, .slice tA 40 tc] _ rfl (range_row HPUT.out) Tryz.underlying27 rfl info_token) rfl ?_
              have HBZ := (HB2J.out.grown HGT.out HB2J.out.size (fun b e => by injection e with e; omega)).grown HGRO.out (by have h1 := HGT.out.size; have h2 := HB2J.out.size; omega) (fun b e => by injection e with e; omega)
              refine ⟨⟨d, e, m, who, rA, 6, rc, til, sA, sn, sc, A1, j, c1, tA, 40, tc⟩, rfl, ?_, HBZ⟩
              have q := HPOST.out _ A1 c1 j HJ8.out (HOJ.out.kept fun g e => by
                have h0 := HOJF.out g e
                have h1 := HGT.out.size
                have hl := (HOJ.out.lt g e).2
                exact (HGRO.out.block g (by omega) (fun e2 => h0.2 (by injection e2))).trans (HGT.out.block g hl (fun e2 => h0.1 (by injection e2)))) HBZ
              simpa only [hmr, hms, hmt] using q
            · have ht1 : ¬ (40 : Int) < (tn : Int) := by omega
              have hmt : min tn 40 = tn := by omega
              have HCV : Hid (ThAt (wj.setCell ⟨w.heap.size, 7, none⟩ (.slice A1 j c1)) w.heap.size ⟨d, e, m, who, rA, 6, rc, til, sA, sn, sc, A1, j, c1, tA, tn, tc⟩) := hid (HXJ.out.cavs A1 j c1)
              obtain ⟨x1, hx1⟩ : ∃ y, y = wj.setCell ⟨w.heap.size, 7, none⟩ (.slice A1 j c1) := ⟨_, rfl⟩
              have HGX1 : Hid (wj.grownBy x1 (some w.heap.size)) := hid (by rw [hx1]; exact gro_set1 _ _ _ _)
              rw [← hx1] at HCV
              have HZX1 := hid (HZJ.out.other HGX1.out (by omega))
              have HWX1 := hid hx1
              clear hx1
              go_upto_region 14 with fail
              rw [← HWX1.out]
              clear c0 c1' c2 c3 c4 c5 c6 c7 c8 f7
              obtain ⟨c0, c1', c2, c3, c4, c5, c6, c7, c8⟩ := HCV.out.all
              have f8 := HCV.out.f 8
              simp only at c0 c1' c2 c3 c4 c5 c6 c7 c8
              have HGT := HGX1
              obtain ⟨z0, z1, z2, z3, z4, z5, z6, z7, z8⟩ := HZX1.out.all
              try simp only [TH.zero] at z0 z1 z2 z3 z4 z5 z6 z7 z8
              have g0 := HZX1.out.f 0
              have g1 := HZX1.out.f 1
              have g2 := HZX1.out.f 2
              have g3 := HZX1.out.f 3
              have g4 := HZX1.out.f 4
              have g5 := HZX1.out.f 5
              have g6 := HZX1.out.f 6
              have g7 := HZX1.out.f 7
              have g8 := HZX1.out.f 8
              obtain ⟨hput, hgro⟩ := HZX1.out.put ⟨d, e, m, who, rA, 6, rc, til, sA, sn, sc, A1, j, c1, tA, tn, tc⟩
              try simp only at hput hgro
              have HPUT := hid hput
              have HGRO := hid hgro
              clear hput hgro
              go_wp2_with fail
              refine bodyPost_ret (results_mid (h := Tryz.results6) _ _ (w.heap.size + 1) 0 [.int .i64 d, .int .i64 e, .int .i64 m, .string who, .slice rA 6 rc, .int .i64 til, .slice sA sn sc, .slice A1 j c1, .slice tA tn tc] _ rfl (range_row HPUT.out) Tryz.underlying27 rfl info_token) rfl ?_
              have HBZ := (HB2J.out.grown HGT.out HB2J.out.size (fun b e => by injection e with e; omega)).grown HGRO.out (by have h1 := HGT.out.size; have h2 := HB2J.out.size; omega) (fun b e => by injection e with e; omega)
              refine ⟨⟨d, e, m, who, rA, 6, rc, til, sA, sn, sc, A1, j, c1, tA, tn, tc⟩, rfl, ?_, HBZ⟩
              have q := HPOST.out _ A1 c1 j HJ8.out (HOJ.out.kept fun g e => by
                have h0 := HOJF.out g e
                have h1 := HGT.out.size
                have hl := (HOJ.out.lt g e).2
                exact (HGRO.out.block g (by omega) (fun e2 => h0.2 (by injection e2))).trans (HGT.out.block g hl (fun e2 => h0.1 (by injection e2)))) HBZ
              simpa only [hmr, hms, hmt] using q
          · by_cases ht : 40 < tn
            · have ht1 : (40 : Int) < (tn : Int) := by omega
              have ht2 : (40 : Int) ≤ (tc : Int) := by omega
              have hmt : min tn 40 = 40 := by omega
              have HCV : Hid (ThAt (wj.setCell ⟨w.heap.size, 7, none⟩ (.slice A1 j c1)) w.heap.size ⟨d, e, m, who, rA, 6, rc, til, sA, sn, sc, A1, j, c1, tA, tn, tc⟩) := hid (HXJ.out.cavs A1 j c1)
              obtain ⟨x1, hx1⟩ : ∃ y, y = wj.setCell ⟨w.heap.size, 7, none⟩ (.slice A1 j c1) := ⟨_, rfl⟩
              have HGX1 : Hid (wj.grownBy x1 (some w.heap.size)) := hid (by rw [hx1]; exact gro_set1 _ _ _ _)
              rw [← hx1] at HCV
              have HZX1 := hid (HZJ.out.other HGX1.out (by omega))
              have HWX1 := hid hx1
              clear hx1
              go_upto_region 14 with fail
              rw [← HWX1.out]
              clear c0 c1' c2 c3 c4 c5 c6 c7 c8 f7
              obtain ⟨c0, c1', c2, c3, c4, c5, c6, c7, c8⟩ := HCV.out.all
              have f8 := HCV.out.f 8
              simp only at c0 c1' c2 c3 c4 c5 c6 c7 c8
              obtain ⟨x2, hx2⟩ : ∃ y, y = x1.setCell ⟨w.heap.size, 8, none⟩ (.slice tA 40 tc) := ⟨_, rfl⟩
              have HX2 : Hid (ThAt x2 w.heap.size ⟨d, e, m, who, rA, 6, rc, til, sA, sn, sc, A1, j, c1, tA, 40, tc⟩) := hid (by rw [hx2]; exact HCV.out.tag tA 40 tc)
              have HGX2 : Hid (x1.grownBy x2 (some w.heap.size)) := hid (by rw [hx2]; exact gro_set1 _ _ _ _)
              have HZX2 := hid (HZX1.out.other HGX2.out (by omega))
              have HGT := hid (HGX1.out.trans HGX2.out)
              have HWX2 := hid hx2
              clear hx2
              go_upto_region 16 with fail
              rw [← HWX2.out]
              clear c0 c1' c2 c3 c4 c5 c6 c7 c8 f8
              obtain ⟨c0, c1', c2, c3, c4, c5, c6, c7, c8⟩ := HX2.out.all
              simp only at c0 c1' c2 c3 c4 c5 c6 c7 c8
              obtain ⟨z0, z1, z2, z3, z4, z5, z6, z7, z8⟩ := HZX2.out.all
              try simp only [TH.zero] at z0 z1 z2 z3 z4 z5 z6 z7 z8
              have g0 := HZX2.out.f 0
              have g1 := HZX2.out.f 1
              have g2 := HZX2.out.f 2
              have g3 := HZX2.out.f 3
              have g4 := HZX2.out.f 4
              have g5 := HZX2.out.f 5
              have g6 := HZX2.out.f 6
              have g7 := HZX2.out.f 7
              have g8 := HZX2.out.f 8
              obtain ⟨hput, hgro⟩ := HZX2.out.put ⟨d, e, m, who, rA, 6, rc, til, sA, sn, sc, A1, j, c1, tA, 40, tc⟩
              try simp only at hput hgro
              have HPUT := hid hput
              have HGRO := hid hgro
              clear hput hgro
              go_wp2_with fail
              refine bodyPost_ret (results_mid (h := Tryz.results6) _ _ (w.heap.size + 1) 0 [.int .i64 d, .int .i64 e, .int .i64 m, .string who, .slice rA 6 rc, .int .i64 til, .slice sA sn sc, .slice A1 j c1, .slice tA 40 tc] _ rfl (range_row HPUT.out) Tryz.underlying27 rfl info_token) rfl ?_
              have HBZ := (HB2J.out.grown HGT.out HB2J.out.size (fun b e => by injection e with e; omega)).grown HGRO.out (by have h1 := HGT.out.size; have h2 := HB2J.out.size; omega) (fun b e => by injection e with e; omega)
              refine ⟨⟨d, e, m, who, rA, 6, rc, til, sA, sn, sc, A1, j, c1, tA, 40, tc⟩, rfl, ?_, HBZ⟩
              have q := HPOST.out _ A1 c1 j HJ8.out (HOJ.out.kept fun g e => by
                have h0 := HOJF.out g e
                have h1 := HGT.out.size
                have hl := (HOJ.out.lt g e).2
                exact (HGRO.out.block g (by omega) (fun e2 => h0.2 (by injection e2))).trans (HGT.out.block g hl (fun e2 => h0.1 (by injection e2)))) HBZ
              simpa only [hmr, hms, hmt] using q
            · have ht1 : ¬ (40 : Int) < (tn : Int) := by omega
              have hmt : min tn 40 = tn := by omega
              have HCV : Hid (ThAt (wj.setCell ⟨w.heap.size, 7, none⟩ (.slice A1 j c1)) w.heap.size ⟨d, e, m, who, rA, 6, rc, til, sA, sn, sc, A1, j, c1, tA, tn, tc⟩) := hid (HXJ.out.cavs A1 j c1)
              obtain ⟨x1, hx1⟩ : ∃ y, y = wj.setCell ⟨w.heap.size, 7, none⟩ (.slice A1 j c1) := ⟨_, rfl⟩
              have HGX1 : Hid (wj.grownBy x1 (some w.heap.size)) := hid (by rw [hx1]; exact gro_set1 _ _ _ _)
              rw [← hx1] at HCV
              have HZX1 := hid (HZJ.out.other HGX1.out (by omega))
              have HWX1 := hid hx1
              clear hx1
              go_upto_region 14 with fail
              rw [← HWX1.out]
              clear c0 c1' c2 c3 c4 c5 c6 c7 c8 f7
              obtain ⟨c0, c1', c2, c3, c4, c5, c6, c7, c8⟩ := HCV.out.all
              have f8 := HCV.out.f 8
              simp only at c0 c1' c2 c3 c4 c5 c6 c7 c8
              have HGT := HGX1
              obtain ⟨z0, z1, z2, z3, z4, z5, z6, z7, z8⟩ := HZX1.out.all
              try simp only [TH.zero] at z0 z1 z2 z3 z4 z5 z6 z7 z8
              have g0 := HZX1.out.f 0
              have g1 := HZX1.out.f 1
              have g2 := HZX1.out.f 2
              have g3 := HZX1.out.f 3
              have g4 := HZX1.out.f 4
              have g5 := HZX1.out.f 5
              have g6 := HZX1.out.f 6
              have g7 := HZX1.out.f 7
              have g8 := HZX1.out.f 8
              obtain ⟨hput, hgro⟩ := HZX1.out.put ⟨d, e, m, who, rA, 6, rc, til, sA, sn, sc, A1, j, c1, tA, tn, tc⟩
              try simp only at hput hgro
              have HPUT := hid hput
              have HGRO := hid hgro
              clear hput hgro
              go_wp2_with fail
              refine bodyPost_ret (results_mid (h := Tryz.results6) _ _ (w.heap.size + 1) 0 [.int .i64 d, .int .i64 e, .int .i64 m, .string who, .slice rA 6 rc, .int .i64 til, .slice sA sn sc, .slice A1 j c1, .slice tA tn tc] _ rfl (range_row HPUT.out) Tryz.underlying27 rfl info_token) rfl ?_
              have HBZ := (HB2J.out.grown HGT.out HB2J.out.size (fun b e => by injection e with e; omega)).grown HGRO.out (by have h1 := HGT.out.size; have h2 := HB2J.out.size; omega) (fun b e => by injection e with e; omega)
              refine ⟨⟨d, e, m, who, rA, 6, rc, til, sA, sn, sc, A1, j, c1, tA, tn, tc⟩, rfl, ?_, HBZ⟩
              have q := HPOST.out _ A1 c1 j HJ8.out (HOJ.out.kept fun g e => by
                have h0 := HOJF.out g e
                have h1 := HGT.out.size
                have hl := (HOJ.out.lt g e).2
                exact (HGRO.out.block g (by omega) (fun e2 => h0.2 (by injection e2))).trans (HGT.out.block g hl (fun e2 => h0.1 (by injection e2)))) HBZ
              simpa only [hmr, hms, hmt] using q
  · by_cases hs : 70 < sn
    · have hr1 : ¬ (6 : Int) < (rn : Int) := by omega
      have hmr : min rn 6 = rn := by omega
      have hs1 : (70 : Int) < (sn : Int) := by omega
      have hs2 : (70 : Int) ≤ (sc : Int) := by omega
      have hms : min sn 70 = 70 := by omega
      go_enter Tryz.func6, Tryz.ntmps6
      go_upto_region 1 with fail
      rw [← HW1.out]
      obtain ⟨w2, hw2⟩ : ∃ y, y = w1 := ⟨_, rfl⟩
      have HX2 : Hid (ThAt w2 w.heap.size ⟨d, e, m, who, rA, rn, rc, til, sA, sn, sc, cA, cn, cc, tA, tn, tc⟩) := hid (by rw [hw2]; exact HX1.out)
      have HZ2 : Hid (ThAt w2 (w.heap.size + 1) TH.zero) := hid (by rw [hw2]; exact HZ1.out)
      have HB2 : Hid (Below w.heap.size w w2) := hid (by rw [hw2]; exact HB1.out)
      have hs2 : w2.heap.size = w.heap.size + 2 := by rw [hw2]; exact HS1.out
      have HW2 := hid hw2
      clear hw2
      go_upto_region 3 with fail
      rw [← HW2.out]
      clear c0 c1 c2 c3 c4 c5 c6 c7 c8 f4 f6
      obtain ⟨c0, c1, c2, c3, c4, c5, c6, c7, c8⟩ := HX2.out.all
      have f6 := HX2.out.f 6
      simp only at c0 c1 c2 c3 c4 c5 c6 c7 c8
      obtain ⟨w3, hw3⟩ : ∃ y, y = w2.setCell ⟨w.heap.size, 6, none⟩ (.slice sA 70 sc) := ⟨_, rfl⟩
      have HX3 : Hid (ThAt w3 w.heap.size ⟨d, e, m, who, rA, rn, rc, til, sA, 70, sc, cA, cn, cc, tA, tn, tc⟩) := hid (by rw [hw3]; exact HX2.out.setSup sA 70 sc)
      have HZ3 : Hid (ThAt w3 (w.heap.size + 1) TH.zero) := hid (by rw [hw3]; exact HZ2.out.other (gro_set1 _ _ _ _) (by omega))
      have HB3 : Hid (Below w.heap.size w w3) := hid (by rw [hw3]; exact HB2.out.setCell (p := ⟨w.heap.size, 6, none⟩) (Nat.le_refl _) _)
      have hs3 : w3.heap.size = w.heap.size + 2 := by rw [hw3, ← hs2]; simp
      have HW3 := hid hw3
      clear hw3
      go_upto_region 5 with fail
      rw [← HW3.out]
      clear c0 c1 c2 c3 c4 c5 c6 c7 c8 f6 HX1 HZ1 HB1 HS1 HW1 HX2 HZ2 HB2 HW2 HW3
      obtain ⟨c0, c1, c2, c3, c4, c5, c6, c7, c8⟩ := HX3.out.all
      simp only at c0 c1 c2 c3 c4 c5 c6 c7 c8
      go_wp2_with fail
      go_loopw [3, 4] (fun v i wr => ∃ (A1 : Option Addr) (c1 j : Nat), v = .slice A1 j c1 ∧ i = .int .i64 (j : Int) ∧ j ≤ cn ∧ j ≤ 8 ∧ Hid (Own (E := encC) wr w3.heap.size 51 (.slice A1 j c1) ((hds.take j).map fewH)) ∧ Hid (Below w3.heap.size w3 wr)) (fun _ i _ => 8 - (intOf i).toNat)
      case atStart => exact ⟨none, 0, 0, rfl, rfl, Nat.zero_le _, Nat.zero_le _, hid (by simpa using Own.nil _ _ _), hid (Below.refl _ _)⟩
      case round =>
        clear c0 c1 c2 c3 c4 c5 c6 c7 c8
        obtain ⟨wj, hwj⟩ : ∃ x, x = wr := ⟨_, rfl⟩
        subst hwj
        obtain ⟨A1, c1, j, rfl, rfl, hjn, hj8, HO, HBJ⟩ := hrel
        have hj0 : (0 : Int) ≤ (j : Int) := Int.natCast_nonneg _
        have HXJ := hid (HX3.out.below HBJ.out)
        have HZJ := hid (HZ3.out.below HBJ.out)
        have f7 := HXJ.out.f 7
        have HB2J := hid (HB3.out.trans (HBJ.out.mono HB3.out.size))
        obtain ⟨c0, c1', c2, c3, c4, c5, c6, c7, c8⟩ := HXJ.out.all
        simp only at c0 c1' c2 c3 c4 c5 c6 c7 c8
        by_cases hlt : j < cn ∧ j < 8
        · have hk1 : (j : Int) < (cn : Int) := by omega
          have hk2 : (j : Int) < 8 := by omega
          obtain ⟨h0, hx⟩ : ∃ r, hds[j]? = some r := ⟨_, List.getElem?_eq_getElem (by rw [HHL.out, HCL.out]; exact hlt.1)⟩
          obtain ⟨ad, aj, hA, hab, haj, hbj, x0, xs⟩ := (HHE.out wj HB2J.out).get hx
          have x0 := x0 _ rfl
          have x1 := xs 1 _ (by omega) rfl
          have x2 := xs 2 _ (by omega) rfl
          have x3 := xs 3 _ (by omega) rfl
          have hqr := HHR.out j h0 hx
          subst hA
          have HTK : Hid ((hds.take (j + 1)).map fewH = (hds.take j).map fewH ++ [fewH h0]) := hid (by rw [take_snoc_of hx, List.map_append]; rfl)
          have HLJ : Hid (((hds.take j).map fewH).length = j) := hid (by rw [List.length_map, List.length_take, HHL.out, HCL.out]; omega)
          obtain ⟨L, hL⟩ : ∃ L, (hds.take j).map fewH = L := ⟨_, rfl⟩
          rw [hL] at HO HTK HLJ
          obtain ⟨kd, qA, qn, qc, tl, au⟩ := h0
          have x0 : wj.cell? aj = some (.int .i64 kd) := x0
          have x1 : wj.cell? ⟨aj.block, aj.off + 1, none⟩ = some (.slice qA qn qc) := x1
          have x2 : wj.cell? ⟨aj.block, aj.off + 2, none⟩ = some (.int .i64 tl) := x2
          have x3 : wj.cell? ⟨aj.block, aj.off + 3, none⟩ = some (.string au) := x3
          simp only at hqr
          have haj2 : ad.add (j * 4) = aj := haj
          obtain ⟨u1, hu1⟩ : ∃ y, y = wj.alloc (.cells #[.int .i64 kd, .slice qA qn qc, .int .i64 tl, .string au] 51) := ⟨_, rfl⟩
          have hbu1 : Below wj.heap.size wj u1 := by rw [hu1]; exact (Below.refl _ _).alloc (Nat.le_refl _) _
          have HC1 : Hid (ChAt u1 wj.heap.size ⟨kd, qA, qn, qc, tl, au⟩) := hid (by rw [hu1]; exact ChAt.new wj ⟨kd, qA, qn, qc, tl, au⟩)
          have HBU1 := hid hbu1
          have HU1 := hid hu1
          have hz1 : u1.heap.size = wj.heap.size + 1 := by rw [hu1]; simp
          clear hx hab hbj haj xs hu1 hbu1 hL
          go_upto_region 10 with fail
          rw [← HU1.out]
          clear c0 c1' c2 c3 c4 c5 c6 c7 c8 x0 x1 x2 x3 f7
          obtain ⟨v0, v1, v2, v3⟩ := HC1.out.all
          have g1 := HC1.out.f 1
          simp only at v0 v1 v2 v3
          by_cases hq6 : 6 < qn
          · have hq7 : (6 : Int) < (qn : Int) := by omega
            have hq8 : (6 : Int) ≤ (qc : Int) := by omega
            obtain ⟨u2, hu2⟩ : ∃ y, y = u1.setCell ⟨wj.heap.size, 1, none⟩ (.slice qA 6 qc) := ⟨_, rfl⟩
            have HC2 : Hid (ChAt u2 wj.heap.size ⟨kd, qA, 6, qc, tl, au⟩) := hid (by rw [hu2]; exact HC1.out.setRoles qA 6 qc)
            have HBU2 : Hid (Below wj.heap.size wj u2) := hid (by rw [hu2]; exact HBU1.out.setCell (p := ⟨wj.heap.size, 1, none⟩) (Nat.le_refl _) _)
            have HFH : Hid (fewH ⟨kd, qA, qn, qc, tl, au⟩ = ⟨kd, qA, 6, qc, tl, au⟩) := hid (by unfold fewH; simp only [CH.mk.injEq, true_and, and_true]; omega)
            have HU2 := hid hu2
            clear hu2
            go_upto_region 12 with fail
            rw [← HU2.out]
            clear v0 v1 v2 v3 g1
            obtain ⟨v0, v1, v2, v3⟩ := HC2.out.all
            simp only at v0 v1 v2 v3
            have HOA := hid ((HO.out.below HBU2.out).alloc (.cells #[.int .i64 kd, .slice qA 6 qc, .int .i64 tl, .string au] 51))
            have HRD := hid (reads_new u2 #[.int .i64 kd, .slice qA 6 qc, .int .i64 tl, .string au] 51 (0, 0))
            have HBA := hid ((HBJ.out.trans (HBU2.out.mono HBJ.out.size)).alloc (by have h1 := HBJ.out.size; have h2 := HBU2.out.size; omega) (.cells #[.int .i64 kd, .slice qA 6 qc, .int .i64 tl, .string au] 51))
            have hbs : w3.heap.size ≤ (u2.alloc (.cells #[.int .i64 kd, .slice qA 6 qc, .int .i64 tl, .string au] 51)).heap.size := HBA.out.size
            have hfl : L.length ≤ 1000000000000 := by rw [HLJ.out]; omega
            go_wp2_with (at_builtin; refine wpList_app1 (E := encC) rfl slC (.tmp 46) (.tmp 48) rfl (B := w3.heap.size) (v := .slice A1 j c1) (l := L) HOA.out rfl (ad := ⟨u2.heap.size, 0, none⟩) (c := 1) ⟨kd, qA, 6, qc, tl, au⟩ rfl HRD.out hfl (by omega) hbs ?_; intro A9 c9 w9 ho9 hg9 he9; have HO9 := hid ho9; have HB9 := hid (HBA.out.grown hg9 hbs (fun g e => (World.ownsRow.lt HOA.out g e).1)); clear ho9 hg9 he9)
            rw [HLJ.out] at HO9 ⊢
            go_roundw
            case rel => exact ⟨A9, c9, j + 1, rfl, by go_num, by omega, by omega, hid (by rw [HTK.out, HFH.out]; exact HO9.out), HB9⟩
            case measure => simp [intOf]; omega
          · have hq7 : ¬ (6 : Int) < (qn : Int) := by omega
            obtain ⟨u2, hu2⟩ : ∃ y, y = u1 := ⟨_, rfl⟩
            have HC2 : Hid (ChAt u2 wj.heap.size ⟨kd, qA, qn, qc, tl, au⟩) := hid (by rw [hu2]; exact HC1.out)
            have HBU2 : Hid (Below wj.heap.size wj u2) := hid (by rw [hu2]; exact HBU1.out)
            have HFH : Hid (fewH ⟨kd, qA, qn, qc, tl, au⟩ = ⟨kd, qA, qn, qc, tl, au⟩) := hid (by unfold fewH; simp only [CH.mk.injEq, true_and, and_true]; omega)
            have HU2 := hid hu2
            clear hu2
            go_upto_region 12 with fail
            rw [← HU2.out]
            clear v0 v1 v2 v3 g1
            obtain ⟨v0, v1, v2, v3⟩ := HC2.out.all
            simp only at v0 v1 v2 v3
            have HOA := hid ((HO.out.below HBU2.out).alloc (.cells #[.int .i64 kd, .slice qA qn qc, .int .i64 tl, .string au] 51))
            have HRD := hid (reads_new u2 #[.int .i64 kd, .slice qA qn qc, .int .i64 tl, .string au] 51 (0, 0))
            have HBA := hid ((HBJ.out.trans (HBU2.out.mono HBJ.out.size)).alloc (by have h1 := HBJ.out.size; have h2 := HBU2.out.size; omega) (.cells #[.int .i64 kd, .slice qA qn qc, .int .i64 tl, .string au] 51))
            have hbs : w3.heap.size ≤ (u2.alloc (.cells #[.int .i64 kd, .slice qA qn qc, .int .i64 tl, .string au] 51)).heap.size := HBA.out.size
            have hfl : L.length ≤ 1000000000000 := by rw [HLJ.out]; omega
            go_wp2_with (at_builtin; refine wpList_app1 (E := encC) rfl slC (.tmp 46) (.tmp 48) rfl (B := w3.heap.size) (v := .slice A1 j c1) (l := L) HOA.out rfl (ad := ⟨u2.heap.size, 0, none⟩) (c := 1) ⟨kd, qA, qn, qc, tl, au⟩ rfl HRD.out hfl (by omega) hbs ?_; intro A9 c9 w9 ho9 hg9 he9; have HO9 := hid ho9; have HB9 := hid (HBA.out.grown hg9 hbs (fun g e => (World.ownsRow.lt HOA.out g e).1)); clear ho9 hg9 he9)
            rw [HLJ.out] at HO9 ⊢
            go_roundw
            case rel => exact ⟨A9, c9, j + 1, rfl, by go_num, by omega, by omega, hid (by rw [HTK.out, HFH.out]; exact HO9.out), HB9⟩
            case measure => simp [intOf]; omega
        · have HJ8 : Hid (j = min 8 t.cavs.length) := hid (by rw [HCL.out]; omega)
          have HOJ : Hid (Own (E := encC) wj w.heap.size 51 (.slice A1 j c1) ((hds.take j).map fewH)) := hid (own_lowT HO.out HB3.out.size)
          have HOJF : Hid (∀ g, (Value.slice A1 j c1).ownBlock = some g → g ≠ w.heap.size ∧ g ≠ w.heap.size + 1) := hid (fun g e => by have := (HO.out.lt g e).1; omega)
          by_cases hk1 : (j : Int) < (cn : Int)
          · have hk2 : ¬ (j : Int) < 8 := by omega
            by_cases ht : 40 < tn
            · have ht1 : (40 : Int) < (tn : Int) := by omega
              have ht2 : (40 : Int) ≤ (tc : Int) := by omega
              have hmt : min tn 40 = 40 := by omega
              have HCV : Hid (ThAt (wj.setCell ⟨w.heap.size, 7, none⟩ (.slice A1 j c1)) w.heap.size ⟨d, e, m, who, rA, rn, rc, til, sA, 70, sc, A1, j, c1, tA, tn, tc⟩) := hid (HXJ.out.cavs A1 j c1)
              obtain ⟨x1, hx1⟩ : ∃ y, y = wj.setCell ⟨w.heap.size, 7, none⟩ (.slice A1 j c1) := ⟨_, rfl⟩
              have HGX1 : Hid (wj.grownBy x1 (some w.heap.size)) := hid (by rw [hx1]; exact gro_set1 _ _ _ _)
              rw [← hx1] at HCV
              have HZX1 := hid (HZJ.out.other HGX1.out (by omega))
              have HWX1 := hid hx1
              clear hx1
              go_upto_region 14 with fail
              rw [← HWX1.out]
              clear c0 c1' c2 c3 c4 c5 c6 c7 c8 f7
              obtain ⟨c0, c1', c2, c3, c4, c5, c6, c7, c8⟩ := HCV.out.all
              have f8 := HCV.out.f 8
              simp only at c0 c1' c2 c3 c4 c5 c6 c7 c8
              obtain ⟨x2, hx2⟩ : ∃ y, y = x1.setCell ⟨w.heap.size, 8, none⟩ (.slice tA 40 tc) := ⟨_, rfl⟩
              have HX2 : Hid (ThAt x2 w.heap.size ⟨d, e, m, who, rA, rn, rc, til, sA, 70, sc, A1, j, c1, tA, 40, tc⟩) := hid (by rw [hx2]; exact HCV.out.tag tA 40 tc)
              have HGX2 : Hid (x1.grownBy x2 (some w.heap.size)) := hid (by rw [hx2]; exact gro_set1 _ _ _ _)
              have HZX2 := hid (HZX1.out.other HGX2.out (by omega))
              have HGT := hid (HGX1.out.trans HGX2.out)
              have HWX2 := hid hx2
              clear hx2
              go_upto_region 16 with fail
              rw [← HWX2.out]
              clear c0 c1' c2 c3 c4 c5 c6 c7 c8 f8
              obtain ⟨c0, c1', c2, c3, c4, c5, c6, c7, c8⟩ := HX2.out.all
              simp only at c0 c1' c2 c3 c4 c5 c6 c7 c8
              obtain ⟨z0, z1, z2, z3, z4, z5, z6, z7, z8⟩ := HZX2.out.all
              try simp only [TH.zero] at z0 z1 z2 z3 z4 z5 z6 z7 z8
              have g0 := HZX2.out.f 0
              have g1 := HZX2.out.f 1
              have g2 := HZX2.out.f 2
              have g3 := HZX2.out.f 3
              have g4 := HZX2.out.f 4
              have g5 := HZX2.out.f 5
              have g6 := HZX2.out.f 6
              have g7 := HZX2.out.f 7
              have g8 := HZX2.out.f 8
              obtain ⟨hput, hgro⟩ := HZX2.out.put ⟨d, e, m, who, rA, rn, rc, til, sA, 70, sc, A1, j, c1, tA, 40, tc⟩
              try simp only at hput hgro
              have HPUT := hid hput
              have HGRO := hid hgro
              clear hput hgro
              go_wp2_with fail
              refine bodyPost_ret (results_mid (h := Tryz.results6) _ _ (w.heap.size + 1) 0 [.int .i64 d, .int .i64 e, .int .i64 m, .string who, .slice rA rn rc, .int .i64 til, .slice sA 70 sc, .slice A1 j c1, .slice tA 40 tc] _ rfl (range_row HPUT.out) Tryz.underlying27 rfl info_token) rfl ?_
              have HBZ := (HB2J.out.grown HGT.out HB2J.out.size (fun b e => by injection e with e; omega)).grown HGRO.out (by have h1 := HGT.out.size; have h2 := HB2J.out.size; omega) (fun b e => by injection e with e; omega)
              refine ⟨⟨d, e, m, who, rA, rn, rc, til, sA, 70, sc, A1, j, c1, tA, 40, tc⟩, rfl, ?_, HBZ⟩
              have q := HPOST.out _ A1 c1 j HJ8.out (HOJ.out.kept fun g e => by
                have h0 := HOJF.out g e
                have h1 := HGT.out.size
                have hl := (HOJ.out.lt g e).2
                exact (HGRO.out.block g (by omega) (fun e2 => h0.2 (by injection e2))).trans (HGT.out.block g hl (fun e2 => h0.1 (by injection e2)))) HBZ
              simpa only [hmr, hms, hmt] using q
            · have ht1 : ¬ (40 : Int) < (tn : Int) := by omega
              have hmt : min tn 40 = tn := by omega
              have HCV : Hid (ThAt (wj.setCell ⟨w.heap.size, 7, none⟩ (.slice A1 j c1)) w.heap.size ⟨d, e, m, who, rA, rn, rc, til, sA, 70, sc, A1, j, c1, tA, tn, tc⟩) := hid (HXJ.out.cavs A1 j c1)
              obtain ⟨x1, hx1⟩ : ∃ y, y = wj.setCell ⟨w.heap.size, 7, none⟩ (.slice A1 j c1) := ⟨_, rfl⟩
              have HGX1 : Hid (wj.grownBy x1 (some w.heap.size)) := hid (by rw [hx1]; exact gro_set1 _ _ _ _)
              rw [← hx1] at HCV
              have HZX1 := hid (HZJ.out.other HGX1.out (by omega))
              have HWX1 := hid hx1
              clear hx1
              go_upto_region 14 with fail
              rw [← HWX1.out]
              clear c0 c1' c2 c3 c4 c5 c6 c7 c8 f7
              obtain ⟨c0, c1', c2, c3, c4, c5, c6, c7, c8⟩ := HCV.out.all
              have f8 := HCV.out.f 8
              simp only at c0 c1' c2 c3 c4 c5 c6 c7 c8
              have HGT := HGX1
              obtain ⟨z0, z1, z2, z3, z4, z5, z6, z7, z8⟩ := HZX1.out.all
              try simp only [TH.zero] at z0 z1 z2 z3 z4 z5 z6 z7 z8
              have g0 := HZX1.out.f 0
              have g1 := HZX1.out.f 1
              have g2 := HZX1.out.f 2
              have g3 := HZX1.out.f 3
              have g4 := HZX1.out.f 4
              have g5 := HZX1.out.f 5
              have g6 := HZX1.out.f 6
              have g7 := HZX1.out.f 7
              have g8 := HZX1.out.f 8
              obtain ⟨hput, hgro⟩ := HZX1.out.put ⟨d, e, m, who, rA, rn, rc, til, sA, 70, sc, A1, j, c1, tA, tn, tc⟩
              try simp only at hput hgro
              have HPUT := hid hput
              have HGRO := hid hgro
              clear hput hgro
              go_wp2_with fail
              refine bodyPost_ret (results_mid (h := Tryz.results6) _ _ (w.heap.size + 1) 0 [.int .i64 d, .int .i64 e, .int .i64 m, .string who, .slice rA rn rc, .int .i64 til, .slice sA 70 sc, .slice A1 j c1, .slice tA tn tc] _ rfl (range_row HPUT.out) Tryz.underlying27 rfl info_token) rfl ?_
              have HBZ := (HB2J.out.grown HGT.out HB2J.out.size (fun b e => by injection e with e; omega)).grown HGRO.out (by have h1 := HGT.out.size; have h2 := HB2J.out.size; omega) (fun b e => by injection e with e; omega)
              refine ⟨⟨d, e, m, who, rA, rn, rc, til, sA, 70, sc, A1, j, c1, tA, tn, tc⟩, rfl, ?_, HBZ⟩
              have q := HPOST.out _ A1 c1 j HJ8.out (HOJ.out.kept fun g e => by
                have h0 := HOJF.out g e
                have h1 := HGT.out.size
                have hl := (HOJ.out.lt g e).2
                exact (HGRO.out.block g (by omega) (fun e2 => h0.2 (by injection e2))).trans (HGT.out.block g hl (fun e2 => h0.1 (by injection e2)))) HBZ
              simpa only [hmr, hms, hmt] using q
          · by_cases ht : 40 < tn
            · have ht1 : (40 : Int) < (tn : Int) := by omega
              have ht2 : (40 : Int) ≤ (tc : Int) := by omega
              have hmt : min tn 40 = 40 := by omega
              have HCV : Hid (ThAt (wj.setCell ⟨w.heap.size, 7, none⟩ (.slice A1 j c1)) w.heap.size ⟨d, e, m, who, rA, rn, rc, til, sA, 70, sc, A1, j, c1, tA, tn, tc⟩) := hid (HXJ.out.cavs A1 j c1)
              obtain ⟨x1, hx1⟩ : ∃ y, y = wj.setCell ⟨w.heap.size, 7, none⟩ (.slice A1 j c1) := ⟨_, rfl⟩
              have HGX1 : Hid (wj.grownBy x1 (some w.heap.size)) := hid (by rw [hx1]; exact gro_set1 _ _ _ _)
              rw [← hx1] at HCV
              have HZX1 := hid (HZJ.out.other HGX1.out (by omega))
              have HWX1 := hid hx1
              clear hx1
              go_upto_region 14 with fail
              rw [← HWX1.out]
              clear c0 c1' c2 c3 c4 c5 c6 c7 c8 f7
              obtain ⟨c0, c1', c2, c3, c4, c5, c6, c7, c8⟩ := HCV.out.all
              have f8 := HCV.out.f 8
              simp only at c0 c1' c2 c3 c4 c5 c6 c7 c8
              obtain ⟨x2, hx2⟩ : ∃ y, y = x1.setCell ⟨w.heap.size, 8, none⟩ (.slice tA 40 tc) := ⟨_, rfl⟩
              have HX2 : Hid (ThAt x2 w.heap.size ⟨d, e, m, who, rA, rn, rc, til, sA, 70, sc, A1, j, c1, tA, 40, tc⟩) := hid (by rw [hx2]; exact HCV.out.tag tA 40 tc)
              have HGX2 : Hid (x1.grownBy x2 (some w.heap.size)) := hid (by rw [hx2]; exact gro_set1 _ _ _ _)
              have HZX2 := hid (HZX1.out.other HGX2.out (by omega))
              have HGT := hid (HGX1.out.trans HGX2.out)
              have HWX2 := hid hx2
              clear hx2
              go_upto_region 16 with fail
              rw [← HWX2.out]
              clear c0 c1' c2 c3 c4 c5 c6 c7 c8 f8
              obtain ⟨c0, c1', c2, c3, c4, c5, c6, c7, c8⟩ := HX2.out.all
              simp only at c0 c1' c2 c3 c4 c5 c6 c7 c8
              obtain ⟨z0, z1, z2, z3, z4, z5, z6, z7, z8⟩ := HZX2.out.all
              try simp only [TH.zero] at z0 z1 z2 z3 z4 z5 z6 z7 z8
              have g0 := HZX2.out.f 0
              have g1 := HZX2.out.f 1
              have g2 := HZX2.out.f 2
              have g3 := HZX2.out.f 3
              have g4 := HZX2.out.f 4
              have g5 := HZX2.out.f 5
              have g6 := HZX2.out.f 6
              have g7 := HZX2.out.f 7
              have g8 := HZX2.out.f 8
              obtain ⟨hput, hgro⟩ := HZX2.out.put ⟨d, e, m, who, rA, rn, rc, til, sA, 70, sc, A1, j, c1, tA, 40, tc⟩
              try simp only at hput hgro
              have HPUT := hid hput
              have HGRO := hid hgro
              clear hput hgro
              go_wp2_with fail
              refine bodyPost_ret (results_mid (h := Tryz.results6) _ _ (w.heap.size + 1) 0 [.int .i64 d, .int .i64 e, .int .i64 m, .string who, .slice rA rn rc, .int .i64 til, .slice sA 70 sc, .slice A1 j c1, .slice tA 40 tc] _ rfl (range_row HPUT.out) Tryz.underlying27 rfl info_token) rfl ?_
              have HBZ := (HB2J.out.grown HGT.out HB2J.out.size (fun b e => by injection e with e; omega)).grown HGRO.out (by have h1 := HGT.out.size; have h2 := HB2J.out.size; omega) (fun b e => by injection e with e; omega)
              refine ⟨⟨d, e, m, who, rA, rn, rc, til, sA, 70, sc, A1, j, c1, tA, 40, tc⟩, rfl, ?_, HBZ⟩
              have q := HPOST.out _ A1 c1 j HJ8.out (HOJ.out.kept fun g e => by
                have h0 := HOJF.out g e
                have h1 := HGT.out.size
                have hl := (HOJ.out.lt g e).2
                exact (HGRO.out.block g (by omega) (fun e2 => h0.2 (by injection e2))).trans (HGT.out.block g hl (fun e2 => h0.1 (by injection e2)))) HBZ
              simpa only [hmr, hms, hmt] using q
            · have ht1 : ¬ (40 : Int) < (tn : Int) := by omega
              have hmt : min tn 40 = tn := by omega
              have HCV : Hid (ThAt (wj.setCell ⟨w.heap.size, 7, none⟩ (.slice A1 j c1)) w.heap.size ⟨d, e, m, who, rA, rn, rc, til, sA, 70, sc, A1, j, c1, tA, tn, tc⟩) := hid (HXJ.out.cavs A1 j c1)
              obtain ⟨x1, hx1⟩ : ∃ y, y = wj.setCell ⟨w.heap.size, 7, none⟩ (.slice A1 j c1) := ⟨_, rfl⟩
              have HGX1 : Hid (wj.grownBy x1 (some w.heap.size)) := hid (by rw [hx1]; exact gro_set1 _ _ _ _)
              rw [← hx1] at HCV
              have HZX1 := hid (HZJ.out.other HGX1.out (by omega))
              have HWX1 := hid hx1
              clear hx1
              go_upto_region 14 with fail
              rw [← HWX1.out]
              clear c0 c1' c2 c3 c4 c5 c6 c7 c8 f7
              obtain ⟨c0, c1', c2, c3, c4, c5, c6, c7, c8⟩ := HCV.out.all
              have f8 := HCV.out.f 8
              simp only at c0 c1' c2 c3 c4 c5 c6 c7 c8
              have HGT := HGX1
              obtain ⟨z0, z1, z2, z3, z4, z5, z6, z7, z8⟩ := HZX1.out.all
              try simp only [TH.zero] at z0 z1 z2 z3 z4 z5 z6 z7 z8
              have g0 := HZX1.out.f 0
              have g1 := HZX1.out.f 1
              have g2 := HZX1.out.f 2
              have g3 := HZX1.out.f 3
              have g4 := HZX1.out.f 4
              have g5 := HZX1.out.f 5
              have g6 := HZX1.out.f 6
              have g7 := HZX1.out.f 7
              have g8 := HZX1.out.f 8
              obtain ⟨hput, hgro⟩ := HZX1.out.put ⟨d, e, m, who, rA, rn, rc, til, sA, 70, sc, A1, j, c1, tA, tn, tc⟩
              try simp only at hput hgro
              have HPUT := hid hput
              have HGRO := hid hgro
              clear hput hgro
              go_wp2_with fail
              refine bodyPost_ret (results_mid (h := Tryz.results6) _ _ (w.heap.size + 1) 0 [.int .i64 d, .int .i64 e, .int .i64 m, .string who, .slice rA rn rc, .int .i64 til, .slice sA 70 sc, .slice A1 j c1, .slice tA tn tc] _ rfl (range_row HPUT.out) Tryz.underlying27 rfl info_token) rfl ?_
              have HBZ := (HB2J.out.grown HGT.out HB2J.out.size (fun b e => by injection e with e; omega)).grown HGRO.out (by have h1 := HGT.out.size; have h2 := HB2J.out.size; omega) (fun b e => by injection e with e; omega)
              refine ⟨⟨d, e, m, who, rA, rn, rc, til, sA, 70, sc, A1, j, c1, tA, tn, tc⟩, rfl, ?_, HBZ⟩
              have q := HPOST.out _ A1 c1 j HJ8.out (HOJ.out.kept fun g e => by
                have h0 := HOJF.out g e
                have h1 := HGT.out.size
                have hl := (HOJ.out.lt g e).2
                exact (HGRO.out.block g (by omega) (fun e2 => h0.2 (by injection e2))).trans (HGT.out.block g hl (fun e2 => h0.1 (by injection e2)))) HBZ
              simpa only [hmr, hms, hmt] using q
    · have hr1 : ¬ (6 : Int) < (rn : Int) := by omega
      have hmr : min rn 6 = rn := by omega
      have hs1 : ¬ (70 : Int) < (sn : Int) := by omega
      have hms : min sn 70 = sn := by omega
      go_enter Tryz.func6, Tryz.ntmps6
      go_upto_region 1 with fail
      rw [← HW1.out]
      obtain ⟨w2, hw2⟩ : ∃ y, y = w1 := ⟨_, rfl⟩
      have HX2 : Hid (ThAt w2 w.heap.size ⟨d, e, m, who, rA, rn, rc, til, sA, sn, sc, cA, cn, cc, tA, tn, tc⟩) := hid (by rw [hw2]; exact HX1.out)
      have HZ2 : Hid (ThAt w2 (w.heap.size + 1) TH.zero) := hid (by rw [hw2]; exact HZ1.out)
      have HB2 : Hid (Below w.heap.size w w2) := hid (by rw [hw2]; exact HB1.out)
      have hs2 : w2.heap.size = w.heap.size + 2 := by rw [hw2]; exact HS1.out
      have HW2 := hid hw2
      clear hw2
      go_upto_region 3 with fail
      rw [← HW2.out]
      clear c0 c1 c2 c3 c4 c5 c6 c7 c8 f4 f6
      obtain ⟨c0, c1, c2, c3, c4, c5, c6, c7, c8⟩ := HX2.out.all
      have f6 := HX2.out.f 6
      simp only at c0 c1 c2 c3 c4 c5 c6 c7 c8
      obtain ⟨w3, hw3⟩ : ∃ y, y = w2 := ⟨_, rfl⟩
      have HX3 : Hid (ThAt w3 w.heap.size ⟨d, e, m, who, rA, rn, rc, til, sA, sn, sc, cA, cn, cc, tA, tn, tc⟩) := hid (by rw [hw3]; exact HX2.out)
      have HZ3 : Hid (ThAt w3 (w.heap.size + 1) TH.zero) := hid (by rw [hw3]; exact HZ2.out)
      have HB3 : Hid (Below w.heap.size w w3) := hid (by rw [hw3]; exact HB2.out)
      have hs3 : w3.heap.size = w.heap.size + 2 := by rw [hw3]; exact hs2
      have HW3 := hid hw3
      clear hw3
      go_upto_region 5 with fail
      rw [← HW3.out]
      clear c0 c1 c2 c3 c4 c5 c6 c7 c8 f6 HX1 HZ1 HB1 HS1 HW1 HX2 HZ2 HB2 HW2 HW3
      obtain ⟨c0, c1, c2, c3, c4, c5, c6, c7, c8⟩ := HX3.out.all
      simp only at c0 c1 c2 c3 c4 c5 c6 c7 c8
      go_wp2_with fail
      go_loopw [3, 4] (fun v i wr => ∃ (A1 : Option Addr) (c1 j : Nat), v = .slice A1 j c1 ∧ i = .int .i64 (j : Int) ∧ j ≤ cn ∧ j ≤ 8 ∧ Hid (Own (E := encC) wr w3.heap.size 51 (.slice A1 j c1) ((hds.take j).map fewH)) ∧ Hid (Below w3.heap.size w3 wr)) (fun _ i _ => 8 - (intOf i).toNat)
      case atStart => exact ⟨none, 0, 0, rfl, rfl, Nat.zero_le _, Nat.zero_le _, hid (by simpa using Own.nil _ _ _), hid (Below.refl _ _)⟩
      case round =>
        clear c0 c1 c2 c3 c4 c5 c6 c7 c8
        obtain ⟨wj, hwj⟩ : ∃ x, x = wr := ⟨_, rfl⟩
        subst hwj
        obtain ⟨A1, c1, j, rfl, rfl, hjn, hj8, HO, HBJ⟩ := hrel
        have hj0 : (0 : Int) ≤ (j : Int) := Int.natCast_nonneg _
        have HXJ := hid (HX3.out.below HBJ.out)
        have HZJ := hid (HZ3.out.below HBJ.out)
        have f7 := HXJ.out.f 7
        have HB2J := hid (HB3.out.trans (HBJ.out.mono HB3.out.size))
        obtain ⟨c0, c1', c2, c3, c4, c5, c6, c7, c8⟩ := HXJ.out.all
        simp only at c0 c1' c2 c3 c4 c5 c6 c7 c8
        by_cases hlt : j < cn ∧ j < 8
        · have hk1 : (j : Int) < (cn : Int) := by omega
          have hk2 : (j : Int) < 8 := by omega
          obtain ⟨h0, hx⟩ : ∃ r, hds[j]? = some r := ⟨_, List.getElem?_eq_getElem (by rw [HHL.out, HCL.out]; exact hlt.1)⟩
          obtain ⟨ad, aj, hA, hab, haj, hbj, x0, xs⟩ := (HHE.out wj HB2J.out).get hx
          have x0 := x0 _ rfl
          have x1 := xs 1 _ (by omega) rfl
          have x2 := xs 2 _ (by omega) rfl
          have x3 := xs 3 _ (by omega) rfl
          have hqr := HHR.out j h0 hx
          subst hA
          have HTK : Hid ((hds.take (j + 1)).map fewH = (hds.take j).map fewH ++ [fewH h0]) := hid (by rw [take_snoc_of hx, List.map_append]; rfl)
          have HLJ : Hid (((hds.take j).map fewH).length = j) := hid (by rw [List.length_map, List.length_take, HHL.out, HCL.out]; omega)
          obtain ⟨L, hL⟩ : ∃ L, (hds.take j).map fewH = L := ⟨_, rfl⟩
          rw [hL] at HO HTK HLJ
          obtain ⟨kd, qA, qn, qc, tl, au⟩ := h0
          have x0 : wj.cell? aj = some (.int .i64 kd) := x0
          have x1 : wj.cell? ⟨aj.block, aj.off + 1, none⟩ = some (.slice qA qn qc) := x1
          have x2 : wj.cell? ⟨aj.block, aj.off + 2, none⟩ = some (.int .i64 tl) := x2
          have x3 : wj.cell? ⟨aj.block, aj.off + 3, none⟩ = some (.string au) := x3
          simp only at hqr
          have haj2 : ad.add (j * 4) = aj := haj
          obtain ⟨u1, hu1⟩ : ∃ y, y = wj.alloc (.cells #[.int .i64 kd, .slice qA qn qc, .int .i64 tl, .string au] 51) := ⟨_, rfl⟩
          have hbu1 : Below wj.heap.size wj u1 := by rw [hu1]; exact (Below.refl _ _).alloc (Nat.le_refl _) _
          have HC1 : Hid (ChAt u1 wj.heap.size ⟨kd, qA, qn, qc, tl, au⟩) := hid (by rw [hu1]; exact ChAt.new wj ⟨kd, qA, qn, qc, tl, au⟩)
          have HBU1 := hid hbu1
          have HU1 := hid hu1
          have hz1 : u1.heap.size = wj.heap.size + 1 := by rw [hu1]; simp
          clear hx hab hbj haj xs hu1 hbu1 hL
          go_upto_region 10 with fail
          rw [← HU1.out]
          clear c0 c1' c2 c3 c4 c5 c6 c7 c8 x0 x1 x2 x3 f7
          obtain ⟨v0, v1, v2, v3⟩ := HC1.out.all
          have g1 := HC1.out.f 1
          simp only at v0 v1 v2 v3
          by_cases hq6 : 6 < qn
          · have hq7 : (6 : Int) < (qn : Int) := by omega
            have hq8 : (6 : Int) ≤ (qc : Int) := by omega
            obtain ⟨u2, hu2⟩ : ∃ y, y = u1.setCell ⟨wj.heap.size, 1, none⟩ (.slice qA 6 qc) := ⟨_, rfl⟩
            have HC2 : Hid (ChAt u2 wj.heap.size ⟨kd, qA, 6, qc, tl, au⟩) := hid (by rw [hu2]; exact HC1.out.setRoles qA 6 qc)
            have HBU2 : Hid (Below wj.heap.size wj u2) := hid (by rw [hu2]; exact HBU1.out.setCell (p := ⟨wj.heap.size, 1, none⟩) (Nat.le_refl _) _)
            have HFH : Hid (fewH ⟨kd, qA, qn, qc, tl, au⟩ = ⟨kd, qA, 6, qc, tl, au⟩) := hid (by unfold fewH; simp only [CH.mk.injEq, true_and, and_true]; omega)
            have HU2 := hid hu2
            clear hu2
            go_upto_region 12 with fail
            rw [← HU2.out]
            clear v0 v1 v2 v3 g1
            obtain ⟨v0, v1, v2, v3⟩ := HC2.out.all
            simp only at v0 v1 v2 v3
            have HOA := hid ((HO.out.below HBU2.out).alloc (.cells #[.int .i64 kd, .slice qA 6 qc, .int .i64 tl, .string au] 51))
            have HRD := hid (reads_new u2 #[.int .i64 kd, .slice qA 6 qc, .int .i64 tl, .string au] 51 (0, 0))
            have HBA := hid ((HBJ.out.trans (HBU2.out.mono HBJ.out.size)).alloc (by have h1 := HBJ.out.size; have h2 := HBU2.out.size; omega) (.cells #[.int .i64 kd, .slice qA 6 qc, .int .i64 tl, .string au] 51))
            have hbs : w3.heap.size ≤ (u2.alloc (.cells #[.int .i64 kd, .slice qA 6 qc, .int .i64 tl, .string au] 51)).heap.size := HBA.out.size
            have hfl : L.length ≤ 1000000000000 := by rw [HLJ.out]; omega
            go_wp2_with (at_builtin; refine wpList_app1 (E := encC) rfl slC (.tmp 46) (.tmp 48) rfl (B := w3.heap.size) (v := .slice A1 j c1) (l := L) HOA.out rfl (ad := ⟨u2.heap.size, 0, none⟩) (c := 1) ⟨kd, qA, 6, qc, tl, au⟩ rfl HRD.out hfl (by omega) hbs ?_; intro A9 c9 w9 ho9 hg9 he9; have HO9 := hid ho9; have HB9 := hid (HBA.out.grown hg9 hbs (fun g e => (World.ownsRow.lt HOA.out g e).1)); clear ho9 hg9 he9)
            rw [HLJ.out] at HO9 ⊢
            go_roundw
            case rel => exact ⟨A9, c9, j + 1, rfl, by go_num, by omega, by omega, hid (by rw [HTK.out, HFH.out]; exact HO9.out), HB9⟩
            case measure => simp [intOf]; omega
          · have hq7 : ¬ (6 : Int) < (qn : Int) := by omega
            obtain ⟨u2, hu2⟩ : ∃ y, y = u1 := ⟨_, rfl⟩
            have HC2 : Hid (ChAt u2 wj.heap.size ⟨kd, qA, qn, qc, tl, au⟩) := hid (by rw [hu2]; exact HC1.out)
            have HBU2 : Hid (Below wj.heap.size wj u2) := hid (by rw [hu2]; exact HBU1.out)
            have HFH : Hid (fewH ⟨kd, qA, qn, qc, tl, au⟩ = ⟨kd, qA, qn, qc, tl, au⟩) := hid (by unfold fewH; simp only [CH.mk.injEq, true_and, and_true]; omega)
            have HU2 := hid hu2
            clear hu2
            go_upto_region 12 with fail
            rw [← HU2.out]
            clear v0 v1 v2 v3 g1
            obtain ⟨v0, v1, v2, v3⟩ := HC2.out.all
            simp only at v0 v1 v2 v3
            have HOA := hid ((HO.out.below HBU2.out).alloc (.cells #[.int .i64 kd, .slice qA qn qc, .int .i64 tl, .string au] 51))
            have HRD := hid (reads_new u2 #[.int .i64 kd, .slice qA qn qc, .int .i64 tl, .string au] 51 (0, 0))
            have HBA := hid ((HBJ.out.trans (HBU2.out.mono HBJ.out.size)).alloc (by have h1 := HBJ.out.size; have h2 := HBU2.out.size; omega) (.cells #[.int .i64 kd, .slice qA qn qc, .int .i64 tl, .string au] 51))
            have hbs : w3.heap.size ≤ (u2.alloc (.cells #[.int .i64 kd, .slice qA qn qc, .int .i64 tl, .string au] 51)).heap.size := HBA.out.size
            have hfl : L.length ≤ 1000000000000 := by rw [HLJ.out]; omega
            go_wp2_with (at_builtin; refine wpList_app1 (E := encC) rfl slC (.tmp 46) (.tmp 48) rfl (B := w3.heap.size) (v := .slice A1 j c1) (l := L) HOA.out rfl (ad := ⟨u2.heap.size, 0, none⟩) (c := 1) ⟨kd, qA, qn, qc, tl, au⟩ rfl HRD.out hfl (by omega) hbs ?_; intro A9 c9 w9 ho9 hg9 he9; have HO9 := hid ho9; have HB9 := hid (HBA.out.grown hg9 hbs (fun g e => (World.ownsRow.lt HOA.out g e).1)); clear ho9 hg9 he9)
            rw [HLJ.out] at HO9 ⊢
            go_roundw
            case rel => exact ⟨A9, c9, j + 1, rfl, by go_num, by omega, by omega, hid (by rw [HTK.out, HFH.out]; exact HO9.out), HB9⟩
            case measure => simp [intOf]; omega
        · have HJ8 : Hid (j = min 8 t.cavs.length) := hid (by rw [HCL.out]; omega)
          have HOJ : Hid (Own (E := encC) wj w.heap.size 51 (.slice A1 j c1) ((hds.take j).map fewH)) := hid (own_lowT HO.out HB3.out.size)
          have HOJF : Hid (∀ g, (Value.slice A1 j c1).ownBlock = some g → g ≠ w.heap.size ∧ g ≠ w.heap.size + 1) := hid (fun g e => by have := (HO.out.lt g e).1; omega)
          by_cases hk1 : (j : Int) < (cn : Int)
          · have hk2 : ¬ (j : Int) < 8 := by omega
            by_cases ht : 40 < tn
            · have ht1 : (40 : Int) < (tn : Int) := by omega
              have ht2 : (40 : Int) ≤ (tc : Int) := by omega
              have hmt : min tn 40 = 40 := by omega
              have HCV : Hid (ThAt (wj.setCell ⟨w.heap.size, 7, none⟩ (.slice A1 j c1)) w.heap.size ⟨d, e, m, who, rA, rn, rc, til, sA, sn, sc, A1, j, c1, tA, tn, tc⟩) := hid (HXJ.out.cavs A1 j c1)
              obtain ⟨x1, hx1⟩ : ∃ y, y = wj.setCell ⟨w.heap.size, 7, none⟩ (.slice A1 j c1) := ⟨_, rfl⟩
              have HGX1 : Hid (wj.grownBy x1 (some w.heap.size)) := hid (by rw [hx1]; exact gro_set1 _ _ _ _)
              rw [← hx1] at HCV
              have HZX1 := hid (HZJ.out.other HGX1.out (by omega))
              have HWX1 := hid hx1
              clear hx1
              go_upto_region 14 with fail
              rw [← HWX1.out]
              clear c0 c1' c2 c3 c4 c5 c6 c7 c8 f7
              obtain ⟨c0, c1', c2, c3, c4, c5, c6, c7, c8⟩ := HCV.out.all
              have f8 := HCV.out.f 8
              simp only at c0 c1' c2 c3 c4 c5 c6 c7 c8
              obtain ⟨x2, hx2⟩ : ∃ y, y = x1.setCell ⟨w.heap.size, 8, none⟩ (.slice tA 40 tc) := ⟨_, rfl⟩
              have HX2 : Hid (ThAt x2 w.heap.size ⟨d, e, m, who, rA, rn, rc, til, sA, sn, sc, A1, j, c1, tA, 40, tc⟩) := hid (by rw [hx2]; exact HCV.out.tag tA 40 tc)
              have HGX2 : Hid (x1.grownBy x2 (some w.heap.size)) := hid (by rw [hx2]; exact gro_set1 _ _ _ _)
              have HZX2 := hid (HZX1.out.other HGX2.out (by omega))
              have HGT := hid (HGX1.out.trans HGX2.out)
              have HWX2 := hid hx2
              clear hx2
              go_upto_region 16 with fail
              rw [← HWX2.out]
              clear c0 c1' c2 c3 c4 c5 c6 c7 c8 f8
              obtain ⟨c0, c1', c2, c3, c4, c5, c6, c7, c8⟩ := HX2.out.all
              simp only at c0 c1' c2 c3 c4 c5 c6 c7 c8
              obtain ⟨z0, z1, z2, z3, z4, z5, z6, z7, z8⟩ := HZX2.out.all
              try simp only [TH.zero] at z0 z1 z2 z3 z4 z5 z6 z7 z8
              have g0 := HZX2.out.f 0
              have g1 := HZX2.out.f 1
              have g2 := HZX2.out.f 2
              have g3 := HZX2.out.f 3
              have g4 := HZX2.out.f 4
              have g5 := HZX2.out.f 5
              have g6 := HZX2.out.f 6
              have g7 := HZX2.out.f 7
              have g8 := HZX2.out.f 8
              obtain ⟨hput, hgro⟩ := HZX2.out.put ⟨d, e, m, who, rA, rn, rc, til, sA, sn, sc, A1, j, c1, tA, 40, tc⟩
              try simp only at hput hgro
              have HPUT := hid hput
              have HGRO := hid hgro
              clear hput hgro
              go_wp2_with fail
              refine bodyPost_ret (results_mid (h := Tryz.results6) _ _ (w.heap.size + 1) 0 [.int .i64 d, .int .i64 e, .int .i64 m, .string who, .slice rA rn rc, .int .i64 til, .slice sA sn sc, .slice A1 j c1, .slice tA 40 tc] _ rfl (range_row HPUT.out) Tryz.underlying27 rfl info_token) rfl ?_
              have HBZ := (HB2J.out.grown HGT.out HB2J.out.size (fun b e => by injection e with e; omega)).grown HGRO.out (by have h1 := HGT.out.size; have h2 := HB2J.out.size; omega) (fun b e => by injection e with e; omega)
              refine ⟨⟨d, e, m, who, rA, rn, rc, til, sA, sn, sc, A1, j, c1, tA, 40, tc⟩, rfl, ?_, HBZ⟩
              have q := HPOST.out _ A1 c1 j HJ8.out (HOJ.out.kept fun g e => by
                have h0 := HOJF.out g e
                have h1 := HGT.out.size
                have hl := (HOJ.out.lt g e).2
                exact (HGRO.out.block g (by omega) (fun e2 => h0.2 (by injection e2))).trans (HGT.out.block g hl (fun e2 => h0.1 (by injection e2)))) HBZ
              simpa only [hmr, hms, hmt] using q
            · have ht1 : ¬ (40 : Int) < (tn : Int) := by omega
              have hmt : min tn 40 = tn := by omega
              have HCV : Hid (ThAt (wj.setCell ⟨w.heap.size, 7, none⟩ (.slice A1 j c1)) w.heap.size ⟨d, e, m, who, rA, rn, rc, til, sA, sn, sc, A1, j, c1, tA, tn, tc⟩) := hid (HXJ.out.cavs A1 j c1)
              obtain ⟨x1, hx1⟩ : ∃ y, y = wj.setCell ⟨w.heap.size, 7, none⟩ (.slice A1 j c1) := ⟨_, rfl⟩
              have HGX1 : Hid (wj.grownBy x1 (some w.heap.size)) := hid (by rw [hx1]; exact gro_set1 _ _ _ _)
              rw [← hx1] at HCV
              have HZX1 := hid (HZJ.out.other HGX1.out (by omega))
              have HWX1 := hid hx1
              clear hx1
              go_upto_region 14 with fail
              rw [← HWX1.out]
              clear c0 c1' c2 c3 c4 c5 c6 c7 c8 f7
              obtain ⟨c0, c1', c2, c3, c4, c5, c6, c7, c8⟩ := HCV.out.all
              have f8 := HCV.out.f 8
              simp only at c0 c1' c2 c3 c4 c5 c6 c7 c8
              have HGT := HGX1
              obtain ⟨z0, z1, z2, z3, z4, z5, z6, z7, z8⟩ := HZX1.out.all
              try simp only [TH.zero] at z0 z1 z2 z3 z4 z5 z6 z7 z8
              have g0 := HZX1.out.f 0
              have g1 := HZX1.out.f 1
              have g2 := HZX1.out.f 2
              have g3 := HZX1.out.f 3
              have g4 := HZX1.out.f 4
              have g5 := HZX1.out.f 5
              have g6 := HZX1.out.f 6
              have g7 := HZX1.out.f 7
              have g8 := HZX1.out.f 8
              obtain ⟨hput, hgro⟩ := HZX1.out.put ⟨d, e, m, who, rA, rn, rc, til, sA, sn, sc, A1, j, c1, tA, tn, tc⟩
              try simp only at hput hgro
              have HPUT := hid hput
              have HGRO := hid hgro
              clear hput hgro
              go_wp2_with fail
              refine bodyPost_ret (results_mid (h := Tryz.results6) _ _ (w.heap.size + 1) 0 [.int .i64 d, .int .i64 e, .int .i64 m, .string who, .slice rA rn rc, .int .i64 til, .slice sA sn sc, .slice A1 j c1, .slice tA tn tc] _ rfl (range_row HPUT.out) Tryz.underlying27 rfl info_token) rfl ?_
              have HBZ := (HB2J.out.grown HGT.out HB2J.out.size (fun b e => by injection e with e; omega)).grown HGRO.out (by have h1 := HGT.out.size; have h2 := HB2J.out.size; omega) (fun b e => by injection e with e; omega)
              refine ⟨⟨d, e, m, who, rA, rn, rc, til, sA, sn, sc, A1, j, c1, tA, tn, tc⟩, rfl, ?_, HBZ⟩
              have q := HPOST.out _ A1 c1 j HJ8.out (HOJ.out.kept fun g e => by
                have h0 := HOJF.out g e
                have h1 := HGT.out.size
                have hl := (HOJ.out.lt g e).2
                exact (HGRO.out.block g (by omega) (fun e2 => h0.2 (by injection e2))).trans (HGT.out.block g hl (fun e2 => h0.1 (by injection e2)))) HBZ
              simpa only [hmr, hms, hmt] using q
          · by_cases ht : 40 < tn
            · have ht1 : (40 : Int) < (tn : Int) := by omega
              have ht2 : (40 : Int) ≤ (tc : Int) := by omega
              have hmt : min tn 40 = 40 := by omega
              have HCV : Hid (ThAt (wj.setCell ⟨w.heap.size, 7, none⟩ (.slice A1 j c1)) w.heap.size ⟨d, e, m, who, rA, rn, rc, til, sA, sn, sc, A1, j, c1, tA, tn, tc⟩) := hid (HXJ.out.cavs A1 j c1)
              obtain ⟨x1, hx1⟩ : ∃ y, y = wj.setCell ⟨w.heap.size, 7, none⟩ (.slice A1 j c1) := ⟨_, rfl⟩
              have HGX1 : Hid (wj.grownBy x1 (some w.heap.size)) := hid (by rw [hx1]; exact gro_set1 _ _ _ _)
              rw [← hx1] at HCV
              have HZX1 := hid (HZJ.out.other HGX1.out (by omega))
              have HWX1 := hid hx1
              clear hx1
              go_upto_region 14 with fail
              rw [← HWX1.out]
              clear c0 c1' c2 c3 c4 c5 c6 c7 c8 f7
              obtain ⟨c0, c1', c2, c3, c4, c5, c6, c7, c8⟩ := HCV.out.all
              have f8 := HCV.out.f 8
              simp only at c0 c1' c2 c3 c4 c5 c6 c7 c8
              obtain ⟨x2, hx2⟩ : ∃ y, y = x1.setCell ⟨w.heap.size, 8, none⟩ (.slice tA 40 tc) := ⟨_, rfl⟩
              have HX2 : Hid (ThAt x2 w.heap.size ⟨d, e, m, who, rA, rn, rc, til, sA, sn, sc, A1, j, c1, tA, 40, tc⟩) := hid (by rw [hx2]; exact HCV.out.tag tA 40 tc)
              have HGX2 : Hid (x1.grownBy x2 (some w.heap.size)) := hid (by rw [hx2]; exact gro_set1 _ _ _ _)
              have HZX2 := hid (HZX1.out.other HGX2.out (by omega))
              have HGT := hid (HGX1.out.trans HGX2.out)
              have HWX2 := hid hx2
              clear hx2
              go_upto_region 16 with fail
              rw [← HWX2.out]
              clear c0 c1' c2 c3 c4 c5 c6 c7 c8 f8
              obtain ⟨c0, c1', c2, c3, c4, c5, c6, c7, c8⟩ := HX2.out.all
              simp only at c0 c1' c2 c3 c4 c5 c6 c7 c8
              obtain ⟨z0, z1, z2, z3, z4, z5, z6, z7, z8⟩ := HZX2.out.all
              try simp only [TH.zero] at z0 z1 z2 z3 z4 z5 z6 z7 z8
              have g0 := HZX2.out.f 0
              have g1 := HZX2.out.f 1
              have g2 := HZX2.out.f 2
              have g3 := HZX2.out.f 3
              have g4 := HZX2.out.f 4
              have g5 := HZX2.out.f 5
              have g6 := HZX2.out.f 6
              have g7 := HZX2.out.f 7
              have g8 := HZX2.out.f 8
              obtain ⟨hput, hgro⟩ := HZX2.out.put ⟨d, e, m, who, rA, rn, rc, til, sA, sn, sc, A1, j, c1, tA, 40, tc⟩
              try simp only at hput hgro
              have HPUT := hid hput
              have HGRO := hid hgro
              clear hput hgro
              go_wp2_with fail
              refine bodyPost_ret (results_mid (h := Tryz.results6) _ _ (w.heap.size + 1) 0 [.int .i64 d, .int .i64 e, .int .i64 m, .string who, .slice rA rn rc, .int .i64 til, .slice sA sn sc, .slice A1 j c1, .slice tA 40 tc] _ rfl (range_row HPUT.out) Tryz.underlying27 rfl info_token) rfl ?_
              have HBZ := (HB2J.out.grown HGT.out HB2J.out.size (fun b e => by injection e with e; omega)).grown HGRO.out (by have h1 := HGT.out.size; have h2 := HB2J.out.size; omega) (fun b e => by injection e with e; omega)
              refine ⟨⟨d, e, m, who, rA, rn, rc, til, sA, sn, sc, A1, j, c1, tA, 40, tc⟩, rfl, ?_, HBZ⟩
              have q := HPOST.out _ A1 c1 j HJ8.out (HOJ.out.kept fun g e => by
                have h0 := HOJF.out g e
                have h1 := HGT.out.size
                have hl := (HOJ.out.lt g e).2
                exact (HGRO.out.block g (by omega) (fun e2 => h0.2 (by injection e2))).trans (HGT.out.block g hl (fun e2 => h0.1 (by injection e2)))) HBZ
              simpa only [hmr, hms, hmt] using q
            · have ht1 : ¬ (40 : Int) < (tn : Int) := by omega
              have hmt : min tn 40 = tn := by omega
              have HCV : Hid (ThAt (wj.setCell ⟨w.heap.size, 7, none⟩ (.slice A1 j c1)) w.heap.size ⟨d, e, m, who, rA, rn, rc, til, sA, sn, sc, A1, j, c1, tA, tn, tc⟩) := hid (HXJ.out.cavs A1 j c1)
              obtain ⟨x1, hx1⟩ : ∃ y, y = wj.setCell ⟨w.heap.size, 7, none⟩ (.slice A1 j c1) := ⟨_, rfl⟩
              have HGX1 : Hid (wj.grownBy x1 (some w.heap.size)) := hid (by rw [hx1]; exact gro_set1 _ _ _ _)
              rw [← hx1] at HCV
              have HZX1 := hid (HZJ.out.other HGX1.out (by omega))
              have HWX1 := hid hx1
              clear hx1
              go_upto_region 14 with fail
              rw [← HWX1.out]
              clear c0 c1' c2 c3 c4 c5 c6 c7 c8 f7
              obtain ⟨c0, c1', c2, c3, c4, c5, c6, c7, c8⟩ := HCV.out.all
              have f8 := HCV.out.f 8
              simp only at c0 c1' c2 c3 c4 c5 c6 c7 c8
              have HGT := HGX1
              obtain ⟨z0, z1, z2, z3, z4, z5, z6, z7, z8⟩ := HZX1.out.all
              try simp only [TH.zero] at z0 z1 z2 z3 z4 z5 z6 z7 z8
              have g0 := HZX1.out.f 0
              have g1 := HZX1.out.f 1
              have g2 := HZX1.out.f 2
              have g3 := HZX1.out.f 3
              have g4 := HZX1.out.f 4
              have g5 := HZX1.out.f 5
              have g6 := HZX1.out.f 6
              have g7 := HZX1.out.f 7
              have g8 := HZX1.out.f 8
              obtain ⟨hput, hgro⟩ := HZX1.out.put ⟨d, e, m, who, rA, rn, rc, til, sA, sn, sc, A1, j, c1, tA, tn, tc⟩
              try simp only at hput hgro
              have HPUT := hid hput
              have HGRO := hid hgro
              clear hput hgro
              go_wp2_with fail
              refine bodyPost_ret (results_mid (h := Tryz.results6) _ _ (w.heap.size + 1) 0 [.int .i64 d, .int .i64 e, .int .i64 m, .string who, .slice rA rn rc, .int .i64 til, .slice sA sn sc, .slice A1 j c1, .slice tA tn tc] _ rfl (range_row HPUT.out) Tryz.underlying27 rfl info_token) rfl ?_
              have HBZ := (HB2J.out.grown HGT.out HB2J.out.size (fun b e => by injection e with e; omega)).grown HGRO.out (by have h1 := HGT.out.size; have h2 := HB2J.out.size; omega) (fun b e => by injection e with e; omega)
              refine ⟨⟨d, e, m, who, rA, rn, rc, til, sA, sn, sc, A1, j, c1, tA, tn, tc⟩, rfl, ?_, HBZ⟩
              have q := HPOST.out _ A1 c1 j HJ8.out (HOJ.out.kept fun g e => by
                have h0 := HOJF.out g e
                have h1 := HGT.out.size
                have hl := (HOJ.out.lt g e).2
                exact (HGRO.out.block g (by omega) (fun e2 => h0.2 (by injection e2))).trans (HGT.out.block g hl (fun e2 => h0.1 (by injection e2)))) HBZ
              simpa only [hmr, hms, hmt] using q
end Go.Proofs.YtaadmgbmaekicaaGreatDoor.Sh
