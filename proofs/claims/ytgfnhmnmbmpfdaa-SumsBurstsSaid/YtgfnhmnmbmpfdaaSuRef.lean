/-
  The document's More, Sum, Put and Low.
-/
import Derived.Test.YtgfnhmnmbmpfdaaSuPgB
namespace Go.Proofs.Ytgfnhmnmbmpfdaa.Sh
open Go Go.RowKit
set_option linter.unusedVariables false
set_option linter.unusedSimpArgs false
theorem i64_xor16 (a b : Nat) (ha : a < 65536) (hb : b < 65536) : bits .xor .i64 (a : Int) (b : Int) = ((a ^^^ b : Nat) : Int) := by
  have hx : a ^^^ b < 2 ^ 16 := Nat.xor_lt_two_pow (by omega) (by omega)
  show IntKind.i64.wrap ((BitVec.ofInt 64 (a : Int) ^^^ BitVec.ofInt 64 (b : Int)).toNat : Int) = _
  rw [BitVec.toNat_xor, BitVec.ofInt_natCast, BitVec.ofInt_natCast, BitVec.toNat_ofNat, BitVec.toNat_ofNat, Nat.mod_eq_of_lt (by omega), Nat.mod_eq_of_lt (by omega), IntKind.wrap_i64]
  omega
theorem low_num (z : Int) : bits .and .i64 z 65535 = z % 65536 := by
  show IntKind.i64.wrap ((BitVec.ofInt 64 z &&& BitVec.ofInt 64 65535).toNat : Int) = _
  rw [BitVec.toNat_and, show (BitVec.ofInt 64 65535).toNat = 2 ^ 16 - 1 from rfl, Nat.and_two_pow_sub_one_eq_mod, BitVec.toNat_ofInt, IntKind.wrap_i64]
  have : (0 : Int) ≤ z % ((2 ^ 64 : Nat) : Int) := Int.emod_nonneg _ (by decide)
  have e := Int.toNat_of_nonneg this
  have e2 : ((2 ^ 64 : Nat) : Int) = 18446744073709551616 := rfl
  rw [e2] at e ⊢
  omega
theorem isR (u : Reg) (x : UInt8) (m : Nat) : ((u.toNat : Int) / 32768 % 2 != (x.toNat : Int) / 2 ^ m % 2) = (u.msb ^^ x.toNat.testBit m) := by
  have h1 : (u.toNat : Int) / 32768 % 2 = (u.msb.toNat : Int) := by rw [topP]; cases u.msb <;> rfl
  have h2 : (x.toNat : Int) / 2 ^ m % 2 = ((x.toNat.testBit m).toNat : Int) := by rw [div_cast, ← bit_num]; omega
  rw [h1, h2]
  cases u.msb <;> cases x.toNat.testBit m <;> rfl
theorem nilR {v : Reg} {b : Bool} (h : (v.msb ^^ b) = false) : (v.toNat : Int) * 2 % 65536 = ((stepS v b).toNat : Int) := by
  rw [← nilP h, IntKind.wrap_u16]
theorem oneR {v : Reg} {b : Bool} (h : (v.msb ^^ b) = true) : bits .xor .i64 ((v.toNat : Int) * 2 % 65536) 4129 = ((stepS v b).toNat : Int) := by
  rw [stepS_num, h, if_pos rfl, ← i64_xor16 _ _ (Nat.mod_lt _ (by omega)) (by omega)]
  congr 1
set_option maxHeartbeats 2000000 in
theorem refMore_any (R : Reg) (A : Option Addr) (l : List UInt8) (n c : Nat) (hn : l.length = n) (hm : n ≤ 1099511627776) (w : World) (h : Byt w w.heap.size A l) :
    Calls Try.prog 16 #[.int .i64 R.toNat, .slice A n c] w fun e w' => e = .returned (.int .i64 (moreS R l).toNat) ∧ w = w' := by
  have HN := hid hn
  clear hn
  go_enter Try.func16, Try.ntmps16
  go_wp2
  go_loopw [0, 5] (fun r i wr => ∃ (k : Nat) (v : Reg), k ≤ n ∧ r = .int .i64 v.toNat ∧ i = .int .i64 k ∧ Hid (moreS R (l.take k) = v) ∧ w = wr) (fun _ i _ => n - (intOf i).toNat)
  case atStart => exact ⟨0, R, Nat.zero_le _, rfl, rfl, hid rfl, rfl⟩
  case round =>
    obtain ⟨k, v, hk, rfl, rfl, hpre, rfl⟩ := hrel
    by_cases hlt : k < n
    · obtain ⟨ad, x, rfl, had, hx, hcell⟩ := h.get (k := k) (by rw [HN.out]; exact hlt)
      have hx8 := lt8 x
      have HV : Hid (moreS R (l.take (k + 1)) = runS v (lowB x 8)) := hid (by rw [moreS_take hx, hpre.out]; rfl)
      have hk0 : (0 : Int) ≤ (k : Int) := Int.natCast_nonneg _
      have hk1 : (k : Int) < (n : Int) := by omega
      clear hx
      go_wp2
      go_loopw [0, 6] (fun r i w2 => ∃ (j : Nat) (u : Reg), j ≤ 8 ∧ r = .int .i64 u.toNat ∧ i = .int .i64 ((j : Int) - 1) ∧ Hid (runS u (lowB x j) = runS v (lowB x 8)) ∧ w = w2) (fun _ i _ => (intOf i + 1).toNat)
      case atStart => exact ⟨8, v, Nat.le_refl _, rfl, rfl, hid rfl, rfl⟩
      case round =>
        obtain ⟨j, u, hj, rfl, rfl, hsub, rfl⟩ := hrel
        rcases j with _ | m
        · have HE : Hid (u = runS v (lowB x 8)) := hid hsub.out
          go_wp2
          obtain rfl := HE.out
          exact ⟨⟨k + 1, _, by omega, rfl, rfl, HV, trivial⟩, by simp [intOf]; omega⟩
        · have e1 : ((m + 1 : Nat) : Int) - 1 = (m : Int) := by omega
          rw [e1]
          have hm7 : m ≤ 7 := by omega
          have hu : u.toNat < 65536 := u.isLt
          go_wp2
          all_goals
            first
            | (have hb : ((u.toNat : Int) / 32768 % 2 != (x.toNat : Int) / 2 ^ m % 2) = true := by assumption
               rw [isR] at hb
               exact ⟨⟨m, _, by omega, by rw [oneR hb], rfl, hsub, trivial⟩, by simp [intOf]⟩)
            | (have hb : ((u.toNat : Int) / 32768 % 2 != (x.toNat : Int) / 2 ^ m % 2) = false := by assumption
               rw [isR] at hb
               exact ⟨⟨m, _, by omega, by rw [nilR hb], rfl, hsub, trivial⟩, by simp [intOf]⟩)
    · obtain rfl : k = n := by omega
      have HE : Hid (moreS R l = v) := hid (by
        rw [← hpre.out, List.take_of_length_le (by rw [HN.out]; omega)])
      go_wp2
      go_ret
      exact ⟨by rw [HE.out]; rfl, rfl⟩
theorem refSum_any (A : Option Addr) (l : List UInt8) (n c : Nat) (hn : l.length = n) (hm : n ≤ 1099511627776) (w : World) (h : Byt w w.heap.size A l) :
    Calls Try.prog 14 #[.slice A n c] w fun e w' => e = .returned (.int .i64 (sumS l).toNat) ∧ w = w' := by
  have HM : Hid (Calls Try.prog 16 #[.int .i64 65535, .slice A n c] w fun e w' => e = .returned (.int .i64 (sumS l).toNat) ∧ w = w') := hid (refMore_any 65535#16 A l n c hn hm w h)
  go_enter Try.func14, Try.ntmps14
  go_wp2_with fail
  refine HM.out.mono ?_
  rintro er w2 ⟨rfl, rfl⟩
  go_wp2_with fail
  go_ret
  exact ⟨rfl, rfl⟩
theorem refLow_any (z : Int) (w : World) :
    Calls Try.prog 9 #[.int .i64 z] w fun e w' => e = .returned (.int .i64 (regOf z).toNat) ∧ w = w' := by
  have H := hid ((low_num z).trans (regOf_num z).symm)
  go_enter Try.func9, Try.ntmps9
  go_wp2
  go_ret
  exact ⟨ret_int H.out, rfl⟩
theorem refPut_any (R : Reg) (w : World) :
    Calls Try.prog 12 #[.int .i64 R.toNat] w fun e w' => ∃ A c, e = .returned (.slice A 2 c) ∧ 2 ≤ c ∧ Byt w' w'.heap.size A (putS R) ∧ Below w.heap.size w w' := by
  have hR : R.toNat < 65536 := R.isLt
  have HA : Hid (IntKind.u8.wrap ((R.toNat : Int) / 256) = (R.toNat : Int) / 256) := hid (by rw [IntKind.wrap_u8]; omega)
  have HB : Hid (IntKind.u8.wrap ((R.toNat : Int) % 256) = (R.toNat : Int) % 256) := hid (by rw [IntKind.wrap_u8]; omega)
  go_enter Try.func12, Try.ntmps12
  go_wp2
  go_ret
  exact ⟨_, _, rfl, Nat.le_refl _, new_put w R _ _ (by first | rfl | exact HA.out) (by first | rfl | exact HB.out) _ _, (Below.refl _ _).alloc (Nat.le_refl _) _⟩
end Go.Proofs.Ytgfnhmnmbmpfdaa.Sh
