/-
  like: a tape has what it must have.
-/
import Derived.Test.YtdigfbgjefffiaaTpDoes
namespace Go.Proofs.Ytdigfbgjefffiaa.Sh
open Go Go.RowKit

set_option linter.unusedSimpArgs false
set_option linter.unusedVariables false
theorem TS.Ok.read {S : TS} (h : TS.Ok S) (sd : Int) : (S.read sd).1.length ≤ 65536 := by
  unfold TS.read
  split
  · exact Nat.zero_le _
  · exact h.now sd
set_option maxHeartbeats 4000000 in
theorem like_any {w : World} {P R : Nat → Prop} {gs gr : Nat} {S : TS} (h : Bth w P R gs gr S) (hu : S.us.length ≤ 800000) :
    Calls Try.prog 12 #[.pointer (some ⟨gs, 0, none⟩), .pointer (some ⟨gr, 0, none⟩)] w fun er w' => er = .returned (.bool true) ∧ Below w.heap.size w w' := by
  have HRP := hid (fun (W : World) (hW : Below w.heap.size w W) sd => readP_any (h.below hW).p (by omega) sd)
  have HRR := hid (fun (W : World) (hW : Below w.heap.size w W) sd => refRead_any (h.below hW).r (by omega) sd)
  have HOK := hid h.r.1
  have HUN := hid (fun (W : World) (hW : Below w.heap.size w W) => unitsP_any (h.below hW).p (by omega))
  obtain ⟨hok, s, A0, A1, UA, c0, c1, uc, e⟩ := h.r
  obtain ⟨U, hU⟩ : ∃ U, S.us.length = U := ⟨_, rfl⟩
  have HC := hid (fun W hW => (e.cells W hW).1.2.1)
  rw [hU] at HC HUN
  have hUm : (U : Int) ≤ 800000 := by omega
  clear e hok h hU
  have HB0 := hid (Below.refl w.heap.size w)
  go_enter Try.func12, Try.ntmps12
  go_wp2_with fail
  go_loopw [5] (fun i wr => ∃ (k : Nat), k ≤ 4 ∧ i = .int .i64 ((k : Int) - 1) ∧ Hid (Below w.heap.size w wr)) (fun i _ => (3 - intOf i).toNat)
  case atStart => exact ⟨0, by omega, rfl, HB0⟩
  case round =>
    obtain ⟨wj, hwj⟩ : ∃ x, x = wr := ⟨_, rfl⟩
    subst hwj
    obtain ⟨k, hk, rfl, HB⟩ := hrel
    obtain ⟨sd, hsd⟩ : ∃ sd : Int, (k : Int) - 1 = sd := ⟨_, rfl⟩
    rw [hsd]
    by_cases hlt : k < 4
    · have h2 : sd ≤ 2 := by omega
      have h3 : -1 ≤ sd := by omega
      have HL := hid (HOK.out.read sd)
      go_wp2_with fail
      refine (HRP.out wj HB.out sd).mono ?_
      rintro er w1 ⟨A1, n1, c1, rfl, l1, e1, o1, b1⟩
      have HB1 := hid (HB.out.trans (b1.mono HB.out.size))
      have HO1 := hid o1
      have HE1 := hid e1
      clear o1 b1 e1 l1
      go_wp2_with fail
      refine (HRR.out w1 HB1.out sd).mono ?_
      rintro er w2 ⟨A2, n2, c2, rfl, l2, e2, o2, b2⟩
      have HB2 := hid (HB1.out.trans (b2.mono HB1.out.size))
      obtain rfl : n1 = n2 := HE1.out.symm.trans e2
      have HSM := hid (same_eq A1 A2 (S.read sd).1 n1 c1 c2 HE1.out (by have := HL.out; rw [HE1.out] at this; omega) w2 ((HO1.out.byt.below b2).more b2.size) o2.byt)
      clear o2 b2 e2 l2
      obtain ⟨E, hE⟩ : ∃ E, (S.read sd).2 = E := ⟨_, rfl⟩
      rw [hE]
      go_wp2_with fail
      refine HSM.out.mono ?_
      rintro er w3 ⟨rfl, q, rfl⟩
      have HB3 := hid (below_drewN HB2.out q)
      go_wp2_with fail
      go_roundw
      case rel => exact ⟨k + 1, by omega, by rw [← hsd]; go_num, HB3⟩
      case measure => simp [intOf]; omega
    · obtain rfl : k = 4 := by omega
      obtain rfl : sd = 3 := by omega
      have HCD := hid (HC.out wj.drew HB.out.drew)
      have HBD := hid HB.out.drew
      have HU1 := hid (HUN.out wj.drew HB.out.drew)
      go_wp2_with fail
      go_region_held3 (fun W => W.cell? ⟨gr, 1, none⟩ = some (.slice UA U uc)) (first | exact HCD.out | go_keep) (first
        | (go_at_call 17; (refine HU1.out.mono ?_); rintro er w5 ⟨rfl, rfl⟩)
        | fail)
      all_goals
        go_wp2
        go_ret
        exact ⟨rfl, HBD.out⟩
end Go.Proofs.Ytdigfbgjefffiaa.Sh
