/-
  The walk of TapeAll. Written by mk_tplaws_b.py.
-/
import Derived.Test.YtdigfbgjefffiaaTpLawA
namespace Go.Proofs.Ytdigfbgjefffiaa.Sh
open Go Go.RowKit

set_option linter.unusedSimpArgs false
set_option linter.unusedVariables false
theorem TS.crash_all (S : TS) : S.crash (S.us.length : Int) = ⟨S.now 0, S.now 1, [], false, 0⟩ := by
  have hk : S.keep (S.us.length : Int) = S.us.length := by
    have := S.keep_num (S.us.length : Int)
    rw [if_neg (by omega), Int.emod_eq_of_lt (by omega) (by omega)] at this
    omega
  unfold TS.crash
  rw [hk, S.done_all 0 (Nat.le_refl _), S.done_all 1 (Nat.le_refl _)]
theorem TS.flat_read (a b : List UInt8) (sd : Int) (h : sd = 0 ∨ sd = 1) : (TS.mk a b [] false 0).read sd = (if sd = 0 then a else b, 0) := by
  rcases h with rfl | rfl <;> rfl
set_option maxHeartbeats 8000000 in
theorem tapeAll_walk (A : Option Addr) (xs : List Dt) (n c : Nat) (hn : xs.length = n) (hc : n ≤ c) (hc2 : c ≤ 9223372036854775807) (w : World) (h : Deeds4 w w.heap.size A xs) :
    Calls Try.prog 6 #[.slice A n c] w fun e w' => e = .returned (.bool true) ∧ Below w.heap.size w w' := by
  have HN := hid hn
  have HDD := hid (fun W (hW : Below w.heap.size w W) => h.below hW (Nat.le_refl _))
  have H1 := hid (newP_any w)
  have H2 := hid (fun W => refNew_any W)
  clear h hn
  go_enter Try.func6, Try.ntmps6
  go_wp2_with fail
  refine H1.out.mono ?_
  rintro er w1 ⟨gs, rfl, -, p1, b1⟩
  have HP1 := hid p1
  have HB1 := hid b1
  clear p1 b1
  go_wp2_with fail
  refine (H2.out w1).mono ?_
  rintro er w2 ⟨gr, rfl, -, r2, b2⟩
  have HX := hid (BthX.start w (P := fun _ => False) (R := fun _ => False) HP1.out HB1.out r2 b2)
  clear r2 b2
  go_wp2_with fail
  go_loopw [5] (fun i wr => ∃ (k : Nat), k ≤ n ∧ k ≤ 40 ∧ i = .int .i64 (k : Int) ∧ Hid (BthX w wr gs gr (stepsT xs k))) (fun i _ => n - (intOf i).toNat)
  case atStart => exact ⟨0, by omega, by omega, rfl, HX⟩
  case round =>
    obtain ⟨wj, hwj⟩ : ∃ x, x = wr := ⟨_, rfl⟩
    subst hwj
    obtain ⟨k, hk, hk6, rfl, HBX⟩ := hrel
    have hk0 : (0 : Int) ≤ (k : Int) := Int.natCast_nonneg _
    by_cases hlt : k < n
    · have hk1 : (k : Int) < (n : Int) := by omega
      by_cases hl6 : k < 40
      · have hk2 : (k : Int) < 40 := by omega
        obtain ⟨ad, aj, dh, x, hx, rfl, had, ea, HA, c0, c1, c2, c3⟩ := (HDD.out wj HBX.out.2).at (i := k) (by rw [HN.out]; exact hlt)
        have HST := hid (stepsT_succ hx)
        obtain ⟨⟨P, R, hb, hP⟩, hbel⟩ := HBX.out
        have hu := stepsT_us xs k
        have HDO := hid (does_any hb (by omega) dh.kind dh.sd dh.z HA.k0 HA.k1 HA.z0 HA.z1 dh.A x.2.2.2 dh.n dh.c HA.n HA.nc HA.c (fun b => b < w.heap.size) HA.el (fun b hb2 => ⟨fun hp => by have := hP b (.inl hp); omega, fun hp => by have := hP b (.inr hp); omega⟩))
        have ex : ((dh.kind, dh.sd, dh.z, x.2.2.2) : Dt) = x := by rw [HA.kind, HA.sd, HA.z]
        rw [ex] at HDO
        have HPP := hid hP
        have HBL := hid hbel
        clear hb hP hbel hx HA ex hu had
        go_wp2_with fail
        refine HDO.out.mono ?_
        rintro er w3 ⟨rfl, did⟩
        have HD3 := hid (BthX.did HBL.out HPP.out did)
        clear did
        rw [← HST.out] at HD3
        go_wp2_with fail
        go_roundw
        case rel => exact ⟨k + 1, by omega, by omega, by go_num, HD3⟩
        case measure => simp [intOf]; omega
      · have hk2 : ¬ (k : Int) < 40 := by omega
        have hkl : 60 * k ≤ 60 * 40 := by omega
        obtain ⟨⟨P, R, hb, hP⟩, hbel⟩ := HBX.out
        have hu := stepsT_us xs k
        obtain ⟨S, hS⟩ : ∃ S, stepsT xs k = S := ⟨_, rfl⟩
        rw [hS] at hb hu
        have HUN := hid (unitsP_any hb.p (by omega))
        have HCR := hid (crashP_any hb.p (by omega) (S.us.length : Int) (by omega) (by omega))
        rw [S.crash_all] at HCR
        have HOK := hid hb.r.1
        have HRM := hid (fun (W : World) (hg : Grew wj W P) => hb.mid hg)
        have HPB := hid (fun b (hp : P b) => hP b (.inl hp))
        have HBL := hid hbel
        have HUS := hid (show S.us.length ≤ 800000 by omega)
        obtain ⟨U, hU⟩ : ∃ U, S.us.length = U := ⟨_, rfl⟩
        rw [hU] at HUN HCR
        clear hb hP hbel hu hS HBX hU
        go_wp2_with fail
        refine HUN.out.mono ?_
        rintro er w3 ⟨rfl, rfl⟩
        go_wp2_with fail
        refine HCR.out.mono ?_
        rintro er w3 ⟨rfl, p3, g3⟩
        have HR3 := hid (HRM.out w3 g3)
        have HB3 := hid (Grew.then_below HBL.out g3 HBL.out.size HPB.out)
        have HRP := hid (fun (W : World) (hW : Below w3.heap.size w3 W) sd => readP_any (p3.below hW) (by simp) sd)
        have HRN := hid (fun (W : World) (hW : Below w3.heap.size w3 W) sd hs => refNow_any (HR3.out.below hW) (Nat.le_trans HUS.out (by omega)) sd hs)
        have HU3 := hid (fun (W : World) (hW : Below w3.heap.size w3 W) => unitsP_any (p3.below hW) (by simp))
        have HS3 := hid (Below.refl w3.heap.size w3)
        clear p3 g3
        go_wp2_with fail
        go_loopw [6] (fun i wr => ∃ (y : Nat), y ≤ 2 ∧ i = .int .i64 (y : Int) ∧ Hid (Below w3.heap.size w3 wr)) (fun i _ => 2 - (intOf i).toNat)
        case atStart => exact ⟨0, by omega, rfl, HS3⟩
        case round =>
          obtain ⟨wi, hwi⟩ : ∃ x, x = wr := ⟨_, rfl⟩
          subst hwi
          obtain ⟨y, hy, rfl, HB⟩ := hrel
          have hy0 : (0 : Int) ≤ (y : Int) := Int.natCast_nonneg _
          by_cases hy2 : y < 2
          · have hy1 : (y : Int) < 2 := by omega
            have hs : (y : Int) = 0 ∨ (y : Int) = 1 := by omega
            have HNL := hid (HOK.out.now (y : Int))
            have hrd : (TS.mk (S.now 0) (S.now 1) [] false 0).read (y : Int) = (S.now (y : Int), 0) := by
              rw [TS.flat_read _ _ _ hs]
              rcases hs with e | e <;> rw [e] <;> rfl
            have HRD := hid (HRP.out wi HB.out (y : Int))
            rw [hrd] at HRD
            have HND := hid (fun (W : World) (hW : Below w3.heap.size w3 W) => HRN.out W hW (y : Int) hs)
            clear hs hrd
            go_wp2_with fail
            refine HRD.out.mono ?_
            rintro er w4 ⟨A4, n4, c4, rfl, l4, e4, o4, b4⟩
            have HB4 := hid (HB.out.trans (b4.mono HB.out.size))
            have HO4 := hid o4
            have HE4 := hid e4
            clear o4 b4 e4 l4
            go_wp2_with fail
            refine (HND.out w4 HB4.out).mono ?_
            rintro er w5 ⟨A5, n5, c5, rfl, l5, e5, o5, b5⟩
            have HB5 := hid (HB4.out.trans (b5.mono HB4.out.size))
            obtain rfl : n4 = n5 := HE4.out.symm.trans e5
            have HSM := hid (same_eq A4 A5 (S.now (y : Int)) n4 c4 c5 HE4.out (by have := HNL.out; rw [HE4.out] at this; omega) w5 ((HO4.out.byt.below b5).more b5.size) o5.byt)
            clear o5 b5 e5 l5
            go_wp2_with fail
            refine HSM.out.mono ?_
            rintro er w6 ⟨rfl, q6, rfl⟩
            have HB6 := hid (below_drewN HB5.out q6)
            go_wp2_with fail
            go_roundw
            case rel => exact ⟨y + 1, by omega, by go_num, HB6⟩
            case measure => simp [intOf]; omega
          · obtain rfl : y = 2 := by omega
            have HUF := hid (HU3.out wi HB.out)
            have HBF := hid (HB3.out.trans (HB.out.mono HB3.out.size))
            go_wp2_with fail
            refine HUF.out.mono ?_
            rintro er w7 ⟨rfl, rfl⟩
            go_wp2_with fail
            refine (lives_any _).mono ?_
            rintro er w9 ⟨rfl, b9⟩
            have HBG := hid (HBF.out.trans (b9.mono HBF.out.size))
            go_wp2
            go_ret
            exact ⟨rfl, HBG.out⟩
    · obtain rfl : k = n := by omega
      have hkl : 60 * k ≤ 60 * 40 := by omega
      obtain ⟨⟨P, R, hb, hP⟩, hbel⟩ := HBX.out
      have hu := stepsT_us xs k
      obtain ⟨S, hS⟩ : ∃ S, stepsT xs k = S := ⟨_, rfl⟩
      rw [hS] at hb hu
      have HUN := hid (unitsP_any hb.p (by omega))
      have HCR := hid (crashP_any hb.p (by omega) (S.us.length : Int) (by omega) (by omega))
      rw [S.crash_all] at HCR
      have HOK := hid hb.r.1
      have HRM := hid (fun (W : World) (hg : Grew wj W P) => hb.mid hg)
      have HPB := hid (fun b (hp : P b) => hP b (.inl hp))
      have HBL := hid hbel
      have HUS := hid (show S.us.length ≤ 800000 by omega)
      obtain ⟨U, hU⟩ : ∃ U, S.us.length = U := ⟨_, rfl⟩
      rw [hU] at HUN HCR
      clear hb hP hbel hu hS HBX hU
      go_wp2_with fail
      refine HUN.out.mono ?_
      rintro er w3 ⟨rfl, rfl⟩
      go_wp2_with fail
      refine HCR.out.mono ?_
      rintro er w3 ⟨rfl, p3, g3⟩
      have HR3 := hid (HRM.out w3 g3)
      have HB3 := hid (Grew.then_below HBL.out g3 HBL.out.size HPB.out)
      have HRP := hid (fun (W : World) (hW : Below w3.heap.size w3 W) sd => readP_any (p3.below hW) (by simp) sd)
      have HRN := hid (fun (W : World) (hW : Below w3.heap.size w3 W) sd hs => refNow_any (HR3.out.below hW) (Nat.le_trans HUS.out (by omega)) sd hs)
      have HU3 := hid (fun (W : World) (hW : Below w3.heap.size w3 W) => unitsP_any (p3.below hW) (by simp))
      have HS3 := hid (Below.refl w3.heap.size w3)
      clear p3 g3
      go_wp2_with fail
      go_loopw [6] (fun i wr => ∃ (y : Nat), y ≤ 2 ∧ i = .int .i64 (y : Int) ∧ Hid (Below w3.heap.size w3 wr)) (fun i _ => 2 - (intOf i).toNat)
      case atStart => exact ⟨0, by omega, rfl, HS3⟩
      case round =>
        obtain ⟨wi, hwi⟩ : ∃ x, x = wr := ⟨_, rfl⟩
        subst hwi
        obtain ⟨y, hy, rfl, HB⟩ := hrel
        have hy0 : (0 : Int) ≤ (y : Int) := Int.natCast_nonneg _
        by_cases hy2 : y < 2
        · have hy1 : (y : Int) < 2 := by omega
          have hs : (y : Int) = 0 ∨ (y : Int) = 1 := by omega
          have HNL := hid (HOK.out.now (y : Int))
          have hrd : (TS.mk (S.now 0) (S.now 1) [] false 0).read (y : Int) = (S.now (y : Int), 0) := by
            rw [TS.flat_read _ _ _ hs]
            rcases hs with e | e <;> rw [e] <;> rfl
          have HRD := hid (HRP.out wi HB.out (y : Int))
          rw [hrd] at HRD
          have HND := hid (fun (W : World) (hW : Below w3.heap.size w3 W) => HRN.out W hW (y : Int) hs)
          clear hs hrd
          go_wp2_with fail
          refine HRD.out.mono ?_
          rintro er w4 ⟨A4, n4, c4, rfl, l4, e4, o4, b4⟩
          have HB4 := hid (HB.out.trans (b4.mono HB.out.size))
          have HO4 := hid o4
          have HE4 := hid e4
          clear o4 b4 e4 l4
          go_wp2_with fail
          refine (HND.out w4 HB4.out).mono ?_
          rintro er w5 ⟨A5, n5, c5, rfl, l5, e5, o5, b5⟩
          have HB5 := hid (HB4.out.trans (b5.mono HB4.out.size))
          obtain rfl : n4 = n5 := HE4.out.symm.trans e5
          have HSM := hid (same_eq A4 A5 (S.now (y : Int)) n4 c4 c5 HE4.out (by have := HNL.out; rw [HE4.out] at this; omega) w5 ((HO4.out.byt.below b5).more b5.size) o5.byt)
          clear o5 b5 e5 l5
          go_wp2_with fail
          refine HSM.out.mono ?_
          rintro er w6 ⟨rfl, q6, rfl⟩
          have HB6 := hid (below_drewN HB5.out q6)
          go_wp2_with fail
          go_roundw
          case rel => exact ⟨y + 1, by omega, by go_num, HB6⟩
          case measure => simp [intOf]; omega
        · obtain rfl : y = 2 := by omega
          have HUF := hid (HU3.out wi HB.out)
          have HBF := hid (HB3.out.trans (HB.out.mono HB3.out.size))
          go_wp2_with fail
          refine HUF.out.mono ?_
          rintro er w7 ⟨rfl, rfl⟩
          go_wp2_with fail
          refine (lives_any _).mono ?_
          rintro er w9 ⟨rfl, b9⟩
          have HBG := hid (HBF.out.trans (b9.mono HBF.out.size))
          go_wp2
          go_ret
          exact ⟨rfl, HBG.out⟩
end Go.Proofs.Ytdigfbgjefffiaa.Sh
