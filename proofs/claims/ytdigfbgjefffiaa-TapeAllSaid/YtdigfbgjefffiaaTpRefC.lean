/-
  The document's tape: Trim, Read, Fuse.
-/
import Derived.Test.YtdigfbgjefffiaaTpRefB
namespace Go.Proofs.Ytdigfbgjefffiaa.Sh
open Go Go.RowKit

set_option linter.unusedSimpArgs false
set_option linter.unusedVariables false
set_option maxHeartbeats 8000000 in
theorem refTrim_any {w : World} {P : Nat → Prop} {q : Nat} {S : TS} (e : TapR w P q S) (hu : S.us.length ≤ 900000) (sd z : Int) :
    Calls Try.prog 27 #[.pointer (some ⟨q, 0, none⟩), .int .i64 sd, .int .i64 z] w fun er w' => er = .returned (.int .i64 (S.trim sd z).2) ∧ TapR w' (plusQ P w.heap.size w'.heap.size) q (S.trim sd z).1 ∧ Grew w w' P := by
  have HRD := hid (refReady_any e sd)
  have HOKW := hid (TS.trim_ok (sd := sd) (n := z) e.1)
  by_cases hr : S.ready sd = 0
  · have hs := (TS.ready_zero hr).1
    have HNW := hid (refNow_any e (by omega) sd hs)
    obtain ⟨hok, s, A0, A1, UA, c0, c1, uc, e⟩ := e
    obtain ⟨m, hm⟩ : ∃ m, (S.now sd).length = m := ⟨_, rfl⟩
    rw [hm] at HNW
    have hm6 := hok.now sd
    rw [hm] at hm6
    rw [hr] at HRD
    by_cases hz : z < 0
    · have HWR : Hid (S.trim sd z = (S, 1)) := hid (by unfold TS.trim; rw [if_neg (by simp [hr]), if_pos (.inl hz)])
      have hd : decide (z < 0) = true := decide_eq_true hz
      have HE := hid e
      have HOK := hid hok
      clear e hok hr hs hm hz HOKW
      go_enter Try.func27, Try.ntmps27
      go_wp2_with fail
      refine HRD.out.mono ?_
      rintro er w1 ⟨rfl, rfl⟩
      go_wp2_with fail
      go_ret
      exact ⟨by rw [HWR.out]; rfl, by rw [HWR.out]; exact TapR.plus ⟨HOK.out, _, _, _, _, _, _, _, HE.out⟩, Grew.refl _ _⟩
    · have hd : decide (z < 0) = false := decide_eq_false hz
      by_cases hroom : (m : Int) < z
      · have HWR : Hid (S.trim sd z = (S, 1)) := hid (by unfold TS.trim; rw [if_neg (by simp [hr]), hm, if_pos (.inr hroom)])
        have hd2 : decide ((m : Int) < z) = true := decide_eq_true hroom
        have HE := hid (fun W hW => e.below (w' := W) hW)
        have HOK := hid hok
        clear e hok hr hs hm hroom HOKW
        go_enter Try.func27, Try.ntmps27
        go_wp2_with fail
        refine HRD.out.mono ?_
        rintro er w1 ⟨rfl, rfl⟩
        go_wp2_with fail
        refine HNW.out.mono ?_
        rintro er w1 ⟨A3, m3, c3, rfl, h1, rfl, h3, h4⟩
        have HB := hid h4
        clear h1 h3 h4
        go_wp2_with fail
        go_ret
        exact ⟨by rw [HWR.out]; rfl, by rw [HWR.out]; exact TapR.plus ⟨HOK.out, _, _, _, _, _, _, _, HE.out _ HB.out⟩, Grew.of_below HB.out⟩
      · have HWR : Hid (S.trim sd z = ({ S.burn with us := S.us ++ [(sd, z, 0)] }, 0)) := hid (by unfold TS.trim; rw [if_neg (by simp [hr]), hm, if_neg (by omega)])
        have hd2 : decide ((m : Int) < z) = false := decide_eq_false hroom
        have HBU := hid (fun (W : World) (hW : Below w.heap.size w W) => refBurn_any (e.below hW) ⟨hok.lf0, hok.lf1⟩)
        have HBUS := hid S.burn_us
        clear e hok hr hs hm hroom
        obtain ⟨U, hU⟩ : ∃ U, S.us.length = U := ⟨_, rfl⟩
        have HU := hid (show S.burn.us.length = U by rw [HBUS.out]; exact hU)
        clear hU
        go_enter Try.func27, Try.ntmps27
        go_wp2_with fail
        refine HRD.out.mono ?_
        rintro er w1 ⟨rfl, rfl⟩
        go_wp2_with fail
        refine HNW.out.mono ?_
        rintro er w1 ⟨A3, m3, c3, rfl, h1, rfl, h3, h4⟩
        have HB := hid h4
        clear h1 h3 h4
        go_wp2_with fail
        refine (HBU.out w1 HB.out).mono ?_
        rintro er w2 ⟨rfl, e2, g2⟩
        have HG2 := hid ((Grew.of_below HB.out).trans g2)
        have hbC : Below w2.heap.size w2 (w2.alloc (.cells #[.int .i64 sd, .int .i64 z, .int .u8 0] 64)) := (Below.refl _ _).alloc (Nat.le_refl _) _
        have eC := e2.below hbC
        have c21 := ((e2.cells _ (Below.refl _ _)).1).2.1
        have cC1 := ((eC.cells _ (Below.refl _ _)).1).2.1
        have HOC := hid eC.own
        have HRU := hid (reads_new w2 #[.int .i64 sd, .int .i64 z, .int .u8 0] 64 (0, 0))
        have HAP := hid (fun (A' : Option Addr) (c' : Nat) (w4 : World) ho hg hl => eC.app (u := (sd, z, 0)) (A' := A') (c' := c') (w' := w4) ho hg hl)
        have hq4 : ∀ (w4 : World), (w2.alloc (.cells #[.int .i64 sd, .int .i64 z, .int .u8 0] 64)).grownBy w4 (Value.slice UA S.burn.us.length uc).ownBlock → w4.heap[q]? = some _ := fun w4 hg => (hg.block q (eC.dom q eC.p0) (fun e2 => (eC.ob q e2.symm).2.1 rfl)).trans eC.row
        have HQ4 := hid hq4
        have hfl : S.burn.us.length ≤ 1000000000000 := by rw [HBUS.out]; omega
        rw [HU.out] at c21 cC1 HOC HAP HQ4
        have HDM := hid eC.dom
        have HGC := hid (HG2.out.trans (Grew.of_below hbC))
        have hus : U ≤ 9223372036854775807 := by have := HU.out; omega
        clear e2 g2 eC hbC hq4
        go_wp2_with (first | (at_builtin; refine wpList_app1 (E := encU) rfl slUn (.tmp 30) (.tmp 34) rfl (B := 0) (v := .slice UA U uc) (l := S.burn.us) HOC.out rfl (ad := ⟨w2.heap.size, 0, none⟩) (c := 1) (sd, z, 0) rfl HRU.out hfl (by omega) (Nat.zero_le _) ?_; intro A' c' w4 ho4 hg4 hl4; have hr4 := HQ4.out w4 hg4; have c14 : w4.cell? ⟨q, 1, none⟩ = some (.slice UA U uc) := (by rw [cell_of_row _ _ 1 _ _ (0, 0) hr4]; rfl); have f14 : w4.frozen? ⟨q, 1, none⟩ = false := frozen_of_row w4 q 1 _ _ hr4; have HFIN := hid (HAP.out A' c' w4 (by rw [HU.out] at ho4; exact ho4) hg4 (by rw [HU.out] at hl4; exact hl4)); have HS4 := hid hg4.size; clear ho4 hg4 hl4 hr4))
        go_ret
        rw [HU.out]
        rw [HWR.out] at HOKW
        rw [HBUS.out] at HFIN
        have HGF := hid (HGC.out.trans HFIN.out.2)
        refine ⟨by rw [HWR.out]; rfl, ?_, HGF.out⟩
        rw [HWR.out]
        refine ⟨HOKW.out, _, _, _, _, _, _, _, HFIN.out.1.imp (fun y hy => ?_) (fun y hy => hy.elim (fun hp => HFIN.out.1.dom y (.inl hp)) (·.2))⟩
        rw [size_setQ]
        exact hy.elim .inl (fun h => .inr ⟨Nat.le_trans HGC.out.size h.1, h.2⟩)
  · have HWR : Hid (S.trim sd z = (S, S.ready sd)) := hid (by unfold TS.trim; rw [if_pos hr])
    have HE := hid e
    obtain ⟨r, hrr⟩ : ∃ r, S.ready sd = r := ⟨_, rfl⟩
    rw [hrr] at HRD HWR hr
    have hb : (r != 0) = true := by simp [hr]
    clear hrr e HOKW
    go_enter Try.func27, Try.ntmps27
    go_wp2_with fail
    refine HRD.out.mono ?_
    rintro er w1 ⟨rfl, rfl⟩
    go_wp2_with fail
    go_ret
    exact ⟨by rw [HWR.out]; rfl, by rw [HWR.out]; exact HE.out.plus, Grew.refl _ _⟩
set_option maxHeartbeats 2000000 in
theorem refRead_any {w : World} {P : Nat → Prop} {q : Nat} {S : TS} (e : TapR w P q S) (hu : S.us.length ≤ 1000000) (sd : Int) :
    Calls Try.prog 31 #[.pointer (some ⟨q, 0, none⟩), .int .i64 sd] w fun er w' => ∃ A n c, er = .returned (.tuple #[.slice A n c, .int .i64 (S.read sd).2]) ∧ n ≤ c ∧ (S.read sd).1.length = n ∧ OwnB w' w.heap.size (.slice A n c) n (S.read sd).1 ∧ Below w.heap.size w w' := by
  have HRD := hid (refReady_any e sd)
  by_cases hr : S.ready sd = 0
  · have hs := (TS.ready_zero hr).1
    have HNW := hid (refNow_any e hu sd hs)
    have HWR : Hid (S.read sd = (S.now sd, 0)) := hid (by unfold TS.read; rw [if_neg (by simp [hr])])
    rw [hr] at HRD
    clear e hr hs
    go_enter Try.func31, Try.ntmps31
    go_wp2_with fail
    refine HRD.out.mono ?_
    rintro er w1 ⟨rfl, rfl⟩
    go_wp2_with fail
    refine HNW.out.mono ?_
    rintro er w1 ⟨A3, m3, c3, rfl, h1, h2, h3, h4⟩
    have H := hid (And.intro h1 (And.intro h2 (And.intro h3 h4)))
    clear h1 h2 h3 h4
    go_wp2_with fail
    go_ret2
    exact ⟨A3, m3, c3, by rw [HWR.out]; rfl, by rw [HWR.out]; exact H.out⟩
  · have HWR : Hid (S.read sd = ([], S.ready sd)) := hid (by unfold TS.read; rw [if_pos hr])
    obtain ⟨r, hrr⟩ : ∃ r, S.ready sd = r := ⟨_, rfl⟩
    rw [hrr] at HRD HWR hr
    have hb : (r != 0) = true := by simp [hr]
    clear hrr e
    go_enter Try.func31, Try.ntmps31
    go_wp2_with fail
    refine HRD.out.mono ?_
    rintro er w1 ⟨rfl, rfl⟩
    go_wp2_with fail
    go_ret2
    exact ⟨none, 0, 0, by rw [HWR.out]; rfl, Nat.le_refl _, by rw [HWR.out]; rfl, by rw [HWR.out]; exact OwnB.nil _ _, Below.refl _ _⟩
end Go.Proofs.Ytdigfbgjefffiaa.Sh
