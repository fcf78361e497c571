/-
  TimersPlays. Written by mk_tmlaws_b.py.
-/
import Derived.Test.YtphajbdkaikmpaaJa14
set_option linter.unusedVariables false
set_option linter.unusedSimpArgs false
namespace Go.Proofs.Ytphajbdkaikmpaa.Sh
open Go Go.RowKit

set_option linter.unusedSimpArgs false
set_option linter.unusedVariables false
set_option maxRecDepth 100000
set_option maxHeartbeats 16000000 in
theorem timersPlays_walk (DA : Option Addr) (xs : List D3) (dn dc : Nat) (hdn : xs.length = dn) (w : World) (hD : Els encD3 w w.heap.size DA xs) (h64 : ∀ x ∈ xs, In64 x.2.1) :
    Calls Try.prog 3 #[.slice DA dn dc] w fun e w' => e = .returned (.bool true) ∧ Below w.heap.size w w' := by
  have HLV := hid (fun W => lives14_any W)
  have HNEW := hid (fun W => newQ_any W)
  have HDN := hid hdn
  have H64 := hid h64
  have HDD := hid (fun W (hW : Below w.heap.size w W) => hD.below hW)
  clear hdn hD h64
  go_enter Try.func3, Try.ntmps3
  go_wp2_with fail
  refine (HNEW.out w).mono ?_
  rintro er w2 ⟨q, rfl, hbk, hb2⟩
  obtain ⟨w3, hw3⟩ : ∃ y, y = w2.alloc (.cells #[.slice none 0 0] 28) := ⟨_, rfl⟩
  have hbt := bthT_new hb2 hbk
  rw [← hw3] at hbt
  have HB3 : Hid (Below w.heap.size w w3) := hid (by rw [hw3]; exact hb2.alloc hb2.size _)
  have HBT := hid hbt
  have HW3 := hid hw3
  obtain ⟨r, hgr⟩ : ∃ x, x = w2.heap.size := ⟨_, rfl⟩
  rw [← hgr] at HBT
  clear hbt hw3 hbk hb2 HNEW
  go_upto_region 3 with fail
  rw [← HW3.out, ← hgr]
  clear hgr HW3
  go_wp2_with fail
  go_loopw [5] (fun i wr => ∃ k : Nat, k ≤ dn ∧ k ≤ 150 ∧ i = .int .i64 (k : Int) ∧ Hid (∃ (P R : Nat → Prop) (L : List Tm), Bth wr w.heap.size P R q r (500 * k) L) ∧ Hid (Below w.heap.size w wr)) (fun i _ => 150 - (intOf i).toNat)
  case atStart => exact ⟨0, Nat.zero_le _, Nat.zero_le _, rfl, hid ⟨_, _, _, HBT.out⟩, HB3⟩
  case round =>
    clear HBT HB3
    obtain ⟨wj, hwj⟩ : ∃ x, x = wr := ⟨_, rfl⟩
    subst hwj
    obtain ⟨k, hk, hkc, rfl, HEX, HB⟩ := hrel
    obtain ⟨P, R, L, hbt⟩ := HEX.out
    have HBT := hid hbt
    have hk0 : (0 : Int) ≤ (k : Int) := Int.natCast_nonneg _
    clear hbt HEX
    by_cases hlt : k < dn ∧ k < 150
    · obtain ⟨hl1, hl2⟩ := hlt
      obtain ⟨⟨op, kd, due⟩, hx⟩ : ∃ x, xs[k]? = some x := ⟨_, List.getElem?_eq_getElem (by rw [HDN.out]; exact hl1)⟩
      obtain ⟨ad, aj, hA, ea, e0, e1, e2⟩ := deed_at (HDD.out wj HB.out) hx
      subst hA
      have hi1 : (k : Int) < (dn : Int) := by omega
      have hi2 : (k : Int) < 150 := by omega
      have HDO := hid (doesT_any HBT.out HB.out.size op kd due (H64.out _ (List.mem_of_getElem? hx)) (by omega))
      simp only at e0 e1 e2
      clear hx
      go_wp2_with fail
      refine HDO.out.mono ?_
      rintro er w4 ⟨rfl, P2, R2, q1, q2⟩
      have HB4 := hid (HB.out.trans q2)
      have HBT4 := hid q1
      clear q1 q2 HDO e0 e1 e2

      by_cases hr : k % 8 = 0
      · have hr1 : (k : Int).tmod 8 = 0 := by rw [Int.tmod_eq_emod_of_nonneg hk0]; omega
        have HLK := hid (likeT_any HBT4.out)
        go_wp2_with fail
        refine HLK.out.mono ?_
        rintro er w5 ⟨rfl, b5⟩
        have HB5 := hid (HB4.out.trans (b5.mono HB4.out.size))
        have HBT5 := hid (HBT4.out.below b5)
        clear b5 HLK
        go_wp2_with fail
        go_roundw
        case rel => exact ⟨k + 1, by omega, by omega, by go_num, hid ⟨_, _, _, by rw [show 500 * (k + 1) = 500 * k + 500 by omega]; exact HBT5.out⟩, HB5⟩
        case measure => simp [intOf]; omega
      · have hr1 : ((k : Int).tmod 8 == 0) = false := by rw [Int.tmod_eq_emod_of_nonneg hk0]; simp; omega
        go_wp2_with fail
        go_roundw
        case rel => exact ⟨k + 1, by omega, by omega, by go_num, hid ⟨_, _, _, by rw [show 500 * (k + 1) = 500 * k + 500 by omega]; exact HBT4.out⟩, HB4⟩
        case measure => simp [intOf]; omega
    · by_cases hl1 : k < dn
      · have hi1 : (k : Int) < (dn : Int) := by omega
        have hi2 : ¬ (k : Int) < 150 := by omega
        clear hlt
        have HLK := hid (likeT_any HBT.out)
        go_wp2_with fail
        refine HLK.out.mono ?_
        rintro er w5 ⟨rfl, b5⟩
        have HB5 := hid (HB.out.trans (b5.mono HB.out.size))
        clear b5 HLK
        go_wp2_with fail
        refine (HLV.out w5).mono ?_
        rintro er w6 ⟨rfl, b6⟩
        go_wp2_with fail
        go_ret
        exact ⟨rfl, HB5.out.trans (b6.mono HB5.out.size)⟩
      · have hi1 : ¬ (k : Int) < (dn : Int) := by omega
        clear hlt
        have HLK := hid (likeT_any HBT.out)
        go_wp2_with fail
        refine HLK.out.mono ?_
        rintro er w5 ⟨rfl, b5⟩
        have HB5 := hid (HB.out.trans (b5.mono HB.out.size))
        clear b5 HLK
        go_wp2_with fail
        refine (HLV.out w5).mono ?_
        rintro er w6 ⟨rfl, b6⟩
        go_wp2_with fail
        go_ret
        exact ⟨rfl, HB5.out.trans (b6.mono HB5.out.size)⟩
end Go.Proofs.Ytphajbdkaikmpaa.Sh
