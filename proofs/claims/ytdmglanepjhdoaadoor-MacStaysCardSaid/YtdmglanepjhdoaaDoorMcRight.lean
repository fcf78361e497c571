/-
  The program's side of layer 2: Right, by contract.
-/
import Derived.Test.YtdmglanepjhdoaaDoorMcTagC
namespace Go.Proofs.YtdmglanepjhdoaaDoor.Sh
open Go Go.RowKit
attribute [local irreducible] sha hexOf absorb sched rounds keyPad hmac xorAll

theorem b_or (x y : UInt8) : bits .or .u8 (x.toNat : Int) (y.toNat : Int) = ((x ||| y).toNat : Int) := by
  rw [u8_or_nat _ _ (lt8 x) (lt8 y), UInt8.toNat_or]
theorem or_zero (d x y : UInt8) : (d ||| (x ^^^ y)) = 0 ↔ d = 0 ∧ x = y := by
  rw [← UInt8.toBitVec_inj, ← UInt8.toBitVec_inj (a := d), ← UInt8.toBitVec_inj (a := x)]
  simp only [UInt8.toBitVec_or, UInt8.toBitVec_xor]
  constructor
  · intro h
    have h1 : d.toBitVec = 0#8 ∧ x.toBitVec ^^^ y.toBitVec = 0#8 := by
      constructor
      · apply BitVec.eq_of_getLsbD_eq
        intro i hi
        have := congrArg (fun b => BitVec.getLsbD b i) h
        simp at this
        simp [this.1]
      · apply BitVec.eq_of_getLsbD_eq
        intro i hi
        have := congrArg (fun b => BitVec.getLsbD b i) h
        simp at this
        simp [this.2]
    refine ⟨h1.1, BitVec.xor_eq_zero_iff.1 h1.2⟩
  · rintro ⟨h1, h2⟩
    rw [h1, h2]
    simp

set_option maxHeartbeats 1000000 in
theorem right_any (A T R : Option Addr) (key tag : List UInt8) (ps : List Part) (n c m tc r rc : Nat) (hn : key.length = n) (hc : n ≤ c) (hcm : c ≤ 9223372036854775807) (hL : n ≤ 1099511627776) (htl : tag.length = m) (hm : m ≤ 1099511627776) (hr : ps.length = r) (hrm : r ≤ 9223372036854775807) (hfl : 64 + (flat ps).length ≤ 1099511627776)
    (w : World) (hT : Tab w) (hb : Byt w w.heap.size A key) (ht : Byt w w.heap.size T tag) (h : RowsAt w w.heap.size R ps) :
    Calls Tryd.prog 27 #[.slice A n c, .slice T m tc, .slice R r rc] w fun e w' => e = .returned (.bool (decide (tag = hmac key (flat ps)))) ∧ Below w.heap.size w w' := by
  have HT := hid (tag_any A R key ps n c r rc hn hc hcm hL hr hrm hfl w hT hb h)
  have HHL := hid (hmac_length key (flat ps))
  obtain ⟨k, hk⟩ : ∃ k, k = hmac key (flat ps) := ⟨_, rfl⟩
  rw [← hk] at HT HHL
  rw [← hk]
  have HTL := hid htl
  clear hn hb h hT hr hfl hk htl
  by_cases h32 : m = 32
  · subst h32
    go_enter Tryd.func27, Tryd.ntmps27
    go_wp2_with fail
    refine HT.out.mono ?_
    rintro er w1 ⟨A1, c1, rfl, hc1, _, o1, b1⟩
    have y1 := o1.byt
    have t1 := (ht.below b1).more b1.size
    clear HT o1 ht
    go_wp2
    go_loop [8, 21] (fun d i => ∃ (j : Nat) (z : UInt8), j ≤ 32 ∧ i = .int .i64 j ∧ d = .int .u8 z.toNat ∧ Hid (z = 0 ↔ tag.take j = k.take j)) (fun _ i => 32 - (intOf i).toNat)
    case atStart => exact ⟨0, 0, by omega, rfl, rfl, hid (by simp)⟩
    case round =>
      obtain ⟨j, z, hj, rfl, rfl, hz⟩ := hrel
      by_cases hlt : j < 32
      · obtain ⟨ad, x, rfl, _, hx, hcx⟩ := y1.get (k := j) (by rw [HHL.out]; exact hlt)
        obtain ⟨bd, y, rfl, _, hy, hcy⟩ := t1.get (k := j) (by rw [HTL.out]; exact hlt)
        obtain ⟨q, hq⟩ : ∃ q, q = x ^^^ y := ⟨_, rfl⟩
        obtain ⟨z2, hz2⟩ : ∃ z2, z2 = z ||| q := ⟨_, rfl⟩
        have e1 := b_xor x y
        have e2 := b_or z q
        rw [← hq] at e1
        rw [← hz2] at e2
        have hk0 : (0 : Int) ≤ (j : Int) := Int.natCast_nonneg _
        have hk1 : (j : Int) < 32 := by omega
        have HZ : Hid (z2 = 0 ↔ tag.take (j + 1) = k.take (j + 1)) := hid (by
          rw [hz2, hq, or_zero, take_snoc_of hx, take_snoc_of hy, hz.out]
          constructor
          · rintro ⟨h1, h2⟩; rw [h1, h2]
          · intro h
            have h3 := List.append_inj' h rfl
            refine ⟨h3.1, ?_⟩
            have := h3.2
            simp at this
            exact this.symm)
        clear hx hy hq hz2
        go_wp2
        go_round
        case rel => exact ⟨j + 1, _, by omega, by go_num, rfl, HZ⟩
        case measure => simp [intOf]; omega
      · obtain rfl : j = 32 := by omega
        have hz2 := hz.out
        rw [List.take_of_length_le (by rw [HTL.out]; omega), List.take_of_length_le (by rw [HHL.out]; omega)] at hz2
        have hfin : Hid (decide (tag = k) = ((z.toNat : Int) == 0)) := hid (by
          rw [Bool.eq_iff_iff, decide_eq_true_iff, ← hz2, beq_iff_eq, ← UInt8.toNat_inj]
          simp)
        clear hz2 hz y1 t1
        go_wp2
        go_ret
        rw [hfin.out]
        exact ⟨rfl, b1⟩
  · have hne : ((m : Int) != 32) = true := by rw [bne_iff_ne]; omega
    have hd : Hid (decide (tag = k) = false) := hid (by
      rw [decide_eq_false_iff_not]
      intro e
      have := HTL.out
      rw [e, HHL.out] at this
      omega)
    go_enter Tryd.func27, Tryd.ntmps27
    go_wp2_with fail
    refine HT.out.mono ?_
    rintro er w1 ⟨A1, c1, rfl, hc1, _, o1, b1⟩
    clear HT o1 ht
    go_wp2
    go_ret
    rw [hd.out]
    exact ⟨rfl, b1⟩
end Go.Proofs.YtdmglanepjhdoaaDoor.Sh
