/-
  The program's More, Sum and Put.
-/
import Derived.Test.YtgfnhmnmbmpfdaaSuPgA
import Derived.Test.YtgfnhmnmbmpfdaaBaSame
namespace Go.Proofs.Ytgfnhmnmbmpfdaa.Sh
open Go Go.RowKit
set_option linter.unusedVariables false
set_option linter.unusedSimpArgs false
/-- The register that a number holds. -/
def regOf (n : Int) : Reg := BitVec.ofInt 16 n
theorem regOf_num (n : Int) : ((regOf n).toNat : Int) = n % 65536 := by
  unfold regOf
  rw [BitVec.toNat_ofInt]
  have : (0 : Int) ≤ n % ((2 ^ 16 : Nat) : Int) := Int.emod_nonneg _ (by decide)
  rw [Int.toNat_of_nonneg this]; rfl
theorem regOf_wrap (n : Int) : IntKind.u16.wrap n = ((regOf n).toNat : Int) := by rw [regOf_num, IntKind.wrap_u16]
theorem regOf_reg (r : Reg) : regOf (r.toNat : Int) = r := by
  unfold regOf
  rw [BitVec.ofInt_natCast, BitVec.ofNat_toNat, BitVec.setWidth_eq]
theorem moreS_take {r : Reg} {l : List UInt8} {k : Nat} {x : UInt8} (h : l[k]? = some x) : moreS r (l.take (k + 1)) = runS (moreS r (l.take k)) (bitsB x) := by
  rw [take_succ_of h, moreS_append]
  unfold moreS
  rw [bitsOf, bitsOf, List.append_nil]
theorem i64_reg (r : Reg) : IntKind.i64.wrap (r.toNat : Int) = (r.toNat : Int) := by
  have := r.isLt
  rw [IntKind.wrap_i64]
  omega
/-- What Put tells. -/
def putS (r : Reg) : List UInt8 := [UInt8.ofNat (r.toNat / 256), UInt8.ofNat (r.toNat % 256)]
theorem u8_of {k : Nat} (h : k < 256) : (UInt8.ofNat k).toNat = k := by rw [UInt8.toNat_ofNat']; exact Nat.mod_eq_of_lt h
theorem put_hi (r : Reg) : ((UInt8.ofNat (r.toNat / 256)).toNat : Int) = (r.toNat : Int) / 256 := by
  have := r.isLt
  rw [u8_of (by omega)]; omega
theorem put_lo (r : Reg) : ((UInt8.ofNat (r.toNat % 256)).toNat : Int) = (r.toNat : Int) % 256 := by
  rw [u8_of (Nat.mod_lt _ (by omega))]; omega
theorem new2 (w : World) (x y : UInt8) (t : TypeId) (fr : Nat × Nat) : Byt (w.alloc (.cells #[.int .u8 (x.toNat : Int), .int .u8 (y.toNat : Int)] t fr)) (w.alloc (.cells #[.int .u8 (x.toNat : Int), .int .u8 (y.toNat : Int)] t fr)).heap.size (some ⟨w.heap.size, 0, none⟩) [x, y] := by
  intro _
  refine ⟨_, rfl, by rw [World.size_alloc]; exact Nat.lt_succ_self _, fun j z hz => ?_⟩
  have h := reads_new w #[.int .u8 (x.toNat : Int), .int .u8 (y.toNat : Int)] t fr
  obtain ⟨ad, he, hc⟩ := h (by simp)
  injection he with he
  subst he
  refine hc j _ ?_
  have hj : j < 2 := (List.getElem?_eq_some_iff.1 hz).1
  match j, hj with
  | 0, _ => simp at hz; subst hz; rfl
  | 1, _ => simp at hz; subst hz; rfl
theorem new_put (w : World) (r : Reg) (a b : Int) (ha : a = (r.toNat : Int) / 256) (hb : b = (r.toNat : Int) % 256) (t : TypeId) (fr : Nat × Nat) : Byt (w.alloc (.cells #[.int .u8 a, .int .u8 b] t fr)) (w.alloc (.cells #[.int .u8 a, .int .u8 b] t fr)).heap.size (some ⟨w.heap.size, 0, none⟩) (putS r) := by
  rw [← put_hi] at ha
  rw [← put_lo] at hb
  subst ha hb
  exact new2 w _ _ t fr
set_option maxHeartbeats 2000000 in
theorem more_any (z : Int) (A : Option Addr) (l : List UInt8) (n c : Nat) (hn : l.length = n) (hm : n ≤ 1099511627776) (w : World) (h : Byt w w.heap.size A l) :
    Calls Try.prog 15 #[.int .i64 z, .slice A n c] w fun e w' => e = .returned (.int .i64 (moreS (regOf z) l).toNat) ∧ w = w' := by
  have HN := hid hn
  have HZ := regOf_wrap z
  generalize regOf z = R at *
  clear hn
  have HA := hid (fun (s : Reg) (x : UInt8) (W : World) => after_any s x W)
  go_enter Try.func15, Try.ntmps15
  go_wp2
  go_loopw [5, 12] (fun r i wr => ∃ (k : Nat) (v : Reg), k ≤ n ∧ r = .int .u16 v.toNat ∧ i = .int .i64 k ∧ Hid (moreS R (l.take k) = v) ∧ w = wr) (fun _ i _ => n - (intOf i).toNat)
  case atStart => exact ⟨0, R, Nat.zero_le _, rfl, rfl, hid rfl, rfl⟩
  case round =>
    obtain ⟨k, v, hk, rfl, rfl, hpre, rfl⟩ := hrel
    by_cases hlt : k < n
    · obtain ⟨ad, x, rfl, had, hx, hcell⟩ := h.get (k := k) (by rw [HN.out]; exact hlt)
      have hx8 := lt8 x
      have HV : Hid (moreS R (l.take (k + 1)) = runS v (bitsB x)) := hid (by rw [moreS_take hx, hpre.out])
      have hk0 : (0 : Int) ≤ (k : Int) := Int.natCast_nonneg _
      have hk1 : (k : Int) < (n : Int) := by omega
      clear hx
      go_wp2_with fail
      refine (HA.out v x _).mono ?_
      rintro er w2 ⟨rfl, rfl⟩
      go_wp2_with fail
      go_roundw
      case rel => exact ⟨k + 1, _, by omega, rfl, by go_num, HV, trivial⟩
      case measure => simp [intOf]; omega
    · obtain rfl : k = n := by omega
      have HE : Hid (moreS R l = v) := hid (by
        rw [← hpre.out, List.take_of_length_le (by rw [HN.out]; omega)])
      have HI := i64_reg v
      go_wp2
      go_ret
      exact ⟨by rw [HE.out]; rfl, rfl⟩
theorem sum_any (A : Option Addr) (l : List UInt8) (n c : Nat) (hn : l.length = n) (hm : n ≤ 1099511627776) (w : World) (h : Byt w w.heap.size A l) :
    Calls Try.prog 13 #[.slice A n c] w fun e w' => e = .returned (.int .i64 (sumS l).toNat) ∧ w = w' := by
  have HM := hid (more_any 65535 A l n c hn hm w h)
  go_enter Try.func13, Try.ntmps13
  go_wp2_with fail
  refine HM.out.mono ?_
  rintro er w2 ⟨rfl, rfl⟩
  go_wp2_with fail
  go_ret
  exact ⟨rfl, rfl⟩
theorem put_any (z : Int) (w : World) :
    Calls Try.prog 11 #[.int .i64 z] w fun e w' => ∃ A c, e = .returned (.slice A 2 c) ∧ 2 ≤ c ∧ Byt w' w'.heap.size A (putS (regOf z)) ∧ Below w.heap.size w w' := by
  have HA : Hid (IntKind.u8.wrap (z / 256) = ((regOf z).toNat : Int) / 256) := hid (by rw [regOf_num, IntKind.wrap_u8]; omega)
  have HB : Hid (IntKind.u8.wrap z = ((regOf z).toNat : Int) % 256) := hid (by rw [regOf_num, IntKind.wrap_u8]; omega)
  go_enter Try.func11, Try.ntmps11
  go_wp2
  go_ret
  exact ⟨_, _, rfl, Nat.le_refl _, new_put w _ _ _ HA.out HB.out _ _, (Below.refl _ _).alloc (Nat.le_refl _) _⟩
end Go.Proofs.Ytgfnhmnmbmpfdaa.Sh
