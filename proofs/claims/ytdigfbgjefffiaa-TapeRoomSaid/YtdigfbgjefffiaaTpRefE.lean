/-
  The document's tape: Crash. Written by mk_tprefe.py.
-/
import Derived.Test.YtdigfbgjefffiaaTpRefD
import Derived.Deep.DeepCutAuto
namespace Go.Proofs.Ytdigfbgjefffiaa.Sh
open Go Go.RowKit

set_option linter.unusedSimpArgs false
set_option linter.unusedVariables false
set_option maxHeartbeats 8000000 in
theorem refCrash_any {w : World} {P : Nat → Prop} {q : Nat} {S : TS} (e : TapR w P q S) (hu : S.us.length ≤ 1000000) (z : Int) (hz : -9223372036854775808 ≤ z) (hz2 : z < 9223372036854775808) :
    Calls Try.prog 30 #[.pointer (some ⟨q, 0, none⟩), .int .i64 z] w fun er w' => er = .returned (.tuple #[]) ∧ TapR w' (plusQ P w.heap.size w'.heap.size) q (S.crash z) ∧ Grew w w' P := by
  by_cases h0 : z < 0
  · skip
    have HDN := hid (fun (W : World) (e : TapR W P q S) => refDone_any e hu 0 (.inl rfl) (S.keep z) (S.keep_le z))
    have HDN1 := hid (fun (W : World) (e : TapR W P q S) => refDone_any e hu 1 (.inr rfl) (S.keep z) (S.keep_le z))
    have HOK := hid (TS.crash_ok (n := z) e.1)
    have HCR : Hid (S.crash z = ⟨S.done 0 (S.keep z), S.done 1 (S.keep z), [], false, 0⟩) := hid rfl
    have hkl := S.keep_le z
    have hkn := S.keep_num z
    rw [if_pos h0] at hkn
    have HE := hid e
    obtain ⟨hok, s, A0, A1, UA, c0, c1, uc, e⟩ := e
    obtain ⟨k00, k01, k02, k03⟩ := (e.cells w (Below.refl _ _)).1
    obtain ⟨U, hU⟩ : ∃ U, S.us.length = U := ⟨_, rfl⟩
    rw [hU] at k01 hkn hkl hu
    have ep : -(z + 1).tmod ((U : Int) + 1) = ((S.keep z : Nat) : Int) := by rw [hkn, ← Int.neg_tmod, Int.tmod_eq_emod_of_nonneg (by omega)]
    generalize S.keep z = K at *
    have HK := hid hkl
    have HEE := hid e
    clear e hok hU hkn hkl
    go_enter Try.func30, Try.ntmps30
    go_wp2_with fail
    refine (HDN.out w HE.out).mono ?_
    rintro er w2 ⟨A3, m3, c3, rfl, -, -, o3, b3⟩
    have HO3 := hid o3
    have HB3 := hid b3
    clear o3 b3
    go_wp2_with fail
    refine (HDN1.out w2 (HE.out.below HB3.out)).mono ?_
    rintro er w3 ⟨A4, m4, c4, rfl, -, -, o4, b4⟩
    have HO4 := hid (own_mono' o4 HB3.out.size)
    have HO3' := hid (HO3.out.below' b4)
    have HB4 := hid (HB3.out.trans (b4.mono HB3.out.size))
    have HFIN := hid (fun W5 h5 => HEE.out.resafe HB4.out HO3'.out HO4.out W5 h5)
    have eX := (HEE.out.below HB4.out).below ((Below.refl w3.heap.size w3).alloc (Nat.le_refl _) (.cells #[.slice A3 m3 c3, .slice A4 m4 c4] 28))
    have f5 : (w3.alloc (.cells #[.slice A3 m3 c3, .slice A4 m4 c4] 28)).frozen? ⟨q, 0, none⟩ = false := frozen_of_row _ q 0 _ _ eX.row
    have k5 : (w3.alloc (.cells #[.slice A3 m3 c3, .slice A4 m4 c4] 28)).cell? ⟨q, 0, none⟩ = some (.slice (some ⟨s, 0, none⟩) 2 2) := ((eX.cells _ (Below.refl _ _)).1).1
    have hr6 := heap_setCell_same _ q 0 _ _ (.slice (some ⟨w3.heap.size, 0, none⟩) 2 2) eX.row
    have f6 : ((w3.alloc (.cells #[.slice A3 m3 c3, .slice A4 m4 c4] 28)).setCell ⟨q, 0, none⟩ (.slice (some ⟨w3.heap.size, 0, none⟩) 2 2)).frozen? ⟨q, 1, none⟩ = false := frozen_of_row _ q 1 _ _ hr6
    have k6 : ((w3.alloc (.cells #[.slice A3 m3 c3, .slice A4 m4 c4] 28)).setCell ⟨q, 0, none⟩ (.slice (some ⟨w3.heap.size, 0, none⟩) 2 2)).cell? ⟨q, 1, none⟩ = some (.slice UA S.us.length uc) := by rw [cell_of_row _ q 1 _ _ (0, 0) hr6]; rfl
    have hr7 := heap_setCell_same _ q 1 _ _ (.slice none 0 0) hr6
    clear o4 b4 eX hr6
    go_upto_region 5 with fail
    obtain ⟨w7, hw7⟩ : ∃ x, x = ((w3.alloc (.cells #[.slice A3 m3 c3, .slice A4 m4 c4] 28)).setCell ⟨q, 0, none⟩ (.slice (some ⟨w3.heap.size, 0, none⟩) 2 2)).setCell ⟨q, 1, none⟩ (.slice none 0 0) := ⟨_, rfl⟩
    rw [← hw7] at hr7 ⊢
    have h7 := HFIN.out w7 hw7
    have h8 := h7.1.setBn false
    have h9 := h8.1.setLf 0
    have f7 := (h7.1.cells _ (Below.refl _ _)).2.2 2
    have k7 := ((h7.1.cells _ (Below.refl _ _)).1).2.2.1
    have f8 := (h8.1.cells _ (Below.refl _ _)).2.2 3
    have k8 := ((h8.1.cells _ (Below.refl _ _)).1).2.2.2
    have H9 := hid h9.1
    have HG9 := hid ((h7.2.thenQ h8.2).thenQ h9.2)
    clear hr7 hw7 h7 h8 h9 f5 k5 f6 k6
    go_wp2_with fail
    go_end0
    rw [HCR.out] at HOK
    exact ⟨rfl, by rw [HCR.out]; exact ⟨HOK.out, _, _, _, _, _, _, _, H9.out.imp (fun y hy => by rw [size_setQ, size_setQ]; exact hy) (fun y hy => hy.elim (fun hp => H9.out.dom y (.inl hp)) (·.2))⟩, HG9.out⟩
  · skip
    have HDN := hid (fun (W : World) (e : TapR W P q S) => refDone_any e hu 0 (.inl rfl) (S.keep z) (S.keep_le z))
    have HDN1 := hid (fun (W : World) (e : TapR W P q S) => refDone_any e hu 1 (.inr rfl) (S.keep z) (S.keep_le z))
    have HOK := hid (TS.crash_ok (n := z) e.1)
    have HCR : Hid (S.crash z = ⟨S.done 0 (S.keep z), S.done 1 (S.keep z), [], false, 0⟩) := hid rfl
    have hkl := S.keep_le z
    have hkn := S.keep_num z
    rw [if_neg h0] at hkn
    have HE := hid e
    obtain ⟨hok, s, A0, A1, UA, c0, c1, uc, e⟩ := e
    obtain ⟨k00, k01, k02, k03⟩ := (e.cells w (Below.refl _ _)).1
    obtain ⟨U, hU⟩ : ∃ U, S.us.length = U := ⟨_, rfl⟩
    rw [hU] at k01 hkn hkl hu
    have ep : z % ((U : Int) + 1) = ((S.keep z : Nat) : Int) := hkn.symm
    have h0' : 0 ≤ z := by omega
    generalize S.keep z = K at *
    have HK := hid hkl
    have HEE := hid e
    clear e hok hU hkn hkl
    go_enter Try.func30, Try.ntmps30
    go_wp2_with fail
    refine (HDN.out w HE.out).mono ?_
    rintro er w2 ⟨A3, m3, c3, rfl, -, -, o3, b3⟩
    have HO3 := hid o3
    have HB3 := hid b3
    clear o3 b3
    go_wp2_with fail
    refine (HDN1.out w2 (HE.out.below HB3.out)).mono ?_
    rintro er w3 ⟨A4, m4, c4, rfl, -, -, o4, b4⟩
    have HO4 := hid (own_mono' o4 HB3.out.size)
    have HO3' := hid (HO3.out.below' b4)
    have HB4 := hid (HB3.out.trans (b4.mono HB3.out.size))
    have HFIN := hid (fun W5 h5 => HEE.out.resafe HB4.out HO3'.out HO4.out W5 h5)
    have eX := (HEE.out.below HB4.out).below ((Below.refl w3.heap.size w3).alloc (Nat.le_refl _) (.cells #[.slice A3 m3 c3, .slice A4 m4 c4] 28))
    have f5 : (w3.alloc (.cells #[.slice A3 m3 c3, .slice A4 m4 c4] 28)).frozen? ⟨q, 0, none⟩ = false := frozen_of_row _ q 0 _ _ eX.row
    have k5 : (w3.alloc (.cells #[.slice A3 m3 c3, .slice A4 m4 c4] 28)).cell? ⟨q, 0, none⟩ = some (.slice (some ⟨s, 0, none⟩) 2 2) := ((eX.cells _ (Below.refl _ _)).1).1
    have hr6 := heap_setCell_same _ q 0 _ _ (.slice (some ⟨w3.heap.size, 0, none⟩) 2 2) eX.row
    have f6 : ((w3.alloc (.cells #[.slice A3 m3 c3, .slice A4 m4 c4] 28)).setCell ⟨q, 0, none⟩ (.slice (some ⟨w3.heap.size, 0, none⟩) 2 2)).frozen? ⟨q, 1, none⟩ = false := frozen_of_row _ q 1 _ _ hr6
    have k6 : ((w3.alloc (.cells #[.slice A3 m3 c3, .slice A4 m4 c4] 28)).setCell ⟨q, 0, none⟩ (.slice (some ⟨w3.heap.size, 0, none⟩) 2 2)).cell? ⟨q, 1, none⟩ = some (.slice UA S.us.length uc) := by rw [cell_of_row _ q 1 _ _ (0, 0) hr6]; rfl
    have hr7 := heap_setCell_same _ q 1 _ _ (.slice none 0 0) hr6
    clear o4 b4 eX hr6
    go_upto_region 5 with fail
    obtain ⟨w7, hw7⟩ : ∃ x, x = ((w3.alloc (.cells #[.slice A3 m3 c3, .slice A4 m4 c4] 28)).setCell ⟨q, 0, none⟩ (.slice (some ⟨w3.heap.size, 0, none⟩) 2 2)).setCell ⟨q, 1, none⟩ (.slice none 0 0) := ⟨_, rfl⟩
    rw [← hw7] at hr7 ⊢
    have h7 := HFIN.out w7 hw7
    have h8 := h7.1.setBn false
    have h9 := h8.1.setLf 0
    have f7 := (h7.1.cells _ (Below.refl _ _)).2.2 2
    have k7 := ((h7.1.cells _ (Below.refl _ _)).1).2.2.1
    have f8 := (h8.1.cells _ (Below.refl _ _)).2.2 3
    have k8 := ((h8.1.cells _ (Below.refl _ _)).1).2.2.2
    have H9 := hid h9.1
    have HG9 := hid ((h7.2.thenQ h8.2).thenQ h9.2)
    clear hr7 hw7 h7 h8 h9 f5 k5 f6 k6
    go_wp2_with fail
    go_end0
    rw [HCR.out] at HOK
    exact ⟨rfl, by rw [HCR.out]; exact ⟨HOK.out, _, _, _, _, _, _, _, H9.out.imp (fun y hy => by rw [size_setQ, size_setQ]; exact hy) (fun y hy => hy.elim (fun hp => H9.out.dom y (.inl hp)) (·.2))⟩, HG9.out⟩
end Go.Proofs.Ytdigfbgjefffiaa.Sh
