/-
  Has a set what it must have: like, by contract.
-/
import Derived.Test.YtifoppnpgljphaaReDoes
namespace Go.Proofs.Ytifoppnpgljphaa.Sh
open Go Go.RowKit

set_option linter.unusedSimpArgs false
set_option linter.unusedVariables false
theorem sameD_any (A B : Option Addr) (xs : List Int) (n m c d : Nat) (hn : xs.length = n) (hm : xs.length = m) (hs : n ≤ 1099511627776) (w : World) (h : Els encN w w.heap.size A xs) (h' : Els encN w w.heap.size B xs) :
    Calls Try.prog 27 #[.slice A n c, .slice B m d] w fun e w' => e = .returned (.bool true) ∧ Below w.heap.size w w' :=
  (sameN_any A B xs xs n m c d hn hm hs (by omega) w h h').mono fun _ _ ⟨h1, k, h2⟩ => ⟨by rw [h1, show decide (xs = xs) = true from decide_eq_true rfl], by subst h2; exact below_drewN (Below.refl _ _) k⟩
set_option maxHeartbeats 4000000 in
theorem like_any {w : World} {P R : Nat → Prop} {gs g gL : Nat} {S : Nat → List Int} (hs : SetP w P gs S) (hr : SetR w R g gL S) :
    Calls Try.prog 11 #[.pointer (some ⟨gs, 0, none⟩), .pointer (some ⟨g, 0, none⟩)] w fun e w' => e = .returned (.bool true) ∧ Below w.heap.size w w' := by
  have HBS := hid (fun W (hW : Below w.heap.size w W) => hs.below hW)
  have HBR := hid (fun W (hW : Below w.heap.size w W) => hr.below hW)
  have HOK := hid hs.ok
  clear hs hr
  go_enter Try.func11, Try.ntmps11
  go_wp2_with fail
  go_loopw [5] (fun i wr => ∃ k : Nat, i = .int .i64 (k : Int) ∧ k ≤ 18 ∧ Hid (Below w.heap.size w wr)) (fun i _ => 18 - (intOf i).toNat)
  case atStart => exact ⟨0, rfl, by omega, hid (Below.refl _ _)⟩
  case round =>
    obtain ⟨wj, hwj⟩ : ∃ x, x = wr := ⟨_, rfl⟩
    subst hwj
    obtain ⟨k, rfl, hk, HB⟩ := hrel
    have hk0 : (0 : Int) ≤ (k : Int) := Int.natCast_nonneg _
    by_cases hlt : k < 18
    · have hk1 : (k : Int) ≤ 17 := by omega
      have hrl := (rowS_ok HOK.out (k : Int)).len
      obtain ⟨row, hrow⟩ : ∃ x, rowS S (k : Int) = x := ⟨_, rfl⟩
      have HR1 := hid (row11_any (HBS.out wj HB.out) (k : Int))
      rw [hrow] at hrl HR1
      have HROW := hid hrow
      clear hrow
      go_wp2_with fail
      refine HR1.out.mono ?_
      rintro er w1 ⟨A1, n1, c1, rfl, q1, q2, f1, b1⟩
      have HF1 := hid f1.els1
      have HL1 := hid f1.len
      have HB1 := hid (HB.out.trans (b1.mono HB.out.size))
      have HR2 := hid (refRow11_any (HBR.out w1 HB1.out) (k : Int))
      rw [HROW.out] at HR2
      clear f1 b1
      go_wp2_with fail
      refine HR2.out.mono ?_
      rintro er w2 ⟨A2, n2, c2, rfl, r2, hw⟩
      have hw2 : w1 = w2 := hw
      subst hw2
      have HF2 := hid r2.els
      have HL2 := hid r2.len
      clear hw r2
      go_wp2_with fail
      refine (sameD_any A1 A2 row n1 n2 c1 c2 HL1.out HL2.out (by have := HL1.out; omega) w1 HF1.out HF2.out).mono ?_
      rintro er w3 ⟨rfl, b3⟩
      have HB3 := hid (HB1.out.trans (b3.mono HB1.out.size))
      clear b3
      go_wp2_with fail
      go_roundw
      case rel => exact ⟨k + 1, by go_num, by omega, HB3⟩
      case measure => simp [intOf]; omega
    · obtain rfl : k = 18 := by omega
      have hvl := (vecS_nrm HOK.out).len
      have HR1 := hid (vector11_any (HBS.out wj HB.out))
      go_wp2_with fail
      refine HR1.out.mono ?_
      rintro er w1 ⟨A1, c1, rfl, f1, b1⟩
      have HF1 := hid f1.els1
      have HB1 := hid (HB.out.trans (b1.mono HB.out.size))
      have HR2 := hid (refVector11_any (HBR.out w1 HB1.out))
      clear f1 b1
      go_wp2_with fail
      refine HR2.out.mono ?_
      rintro er w2 ⟨A2, c2, rfl, o2, b2⟩
      have HF2 := hid (own_els o2)
      have HF12 := hid ((HF1.out.below b2).more b2.size)
      have HB2 := hid (HB1.out.trans (b2.mono HB1.out.size))
      clear o2 b2
      go_wp2_with fail
      refine (sameD_any A1 A2 (vecS S) _ _ c1 c2 rfl rfl (by omega) w2 HF12.out HF2.out).mono ?_
      rintro er w3 ⟨rfl, b3⟩
      have HB3 := hid (HB2.out.trans (b3.mono HB2.out.size))
      clear b3
      go_wp2_with fail
      go_ret
      exact ⟨rfl, HB3.out⟩
end Go.Proofs.Ytifoppnpgljphaa.Sh
