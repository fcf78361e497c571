/-
  The program's side of layer 2: Tag and Right, by contract.
-/
import Derived.Test.YtdmglanepjhdoaaDoorMcTag
namespace Go.Proofs.YtdmglanepjhdoaaDoor.Sh
open Go Go.RowKit
attribute [local irreducible] sha hexOf absorb sched rounds keyPad hmac xorAll

theorem masked_lit (z : Int) (x : UInt8) (hz : z = (x.toNat : Int)) (g : Nat) (k : List UInt8) (hk : k.length = 64) (w : World) (h : Masks w g k) :
    Calls Tryd.prog 42 #[.int .u8 z, .pointer (some ⟨g, 0, none⟩)] w fun e w' => ∃ A c, e = .returned (.slice A 64 c) ∧ OwnB w' w.heap.size (.slice A 64 c) 64 (xorAll k x) ∧ Below w.heap.size w w' := by
  subst hz
  exact masked_any x g k hk w h
theorem hmac_eq (key data : List UInt8) : hmac key data = sha (xorAll (keyPad key) 92 ++ sha (xorAll (keyPad key) 54 ++ data)) := by unfold hmac; rfl
theorem one_row (w : World) (A : Option Addr) (c n : Nat) (l : List UInt8) (hn : l.length = n) (hc : n ≤ c) (hm : c ≤ 9223372036854775807) (hb : Byt w w.heap.size A l) (t : TypeId) (fr : Nat × Nat) :
    RowsAt (w.alloc (.cells #[.slice A n c] t fr)) (w.alloc (.cells #[.slice A n c] t fr)).heap.size (some ⟨w.heap.size, 0, none⟩) [(A, c, l)] := fun _ => by
  subst hn
  refine ⟨_, rfl, by rw [World.size_alloc]; exact Nat.lt_succ_self _, fun j p hp => ?_⟩
  have hbel : Below w.heap.size w (w.alloc (.cells #[.slice A l.length c] t fr)) := (Below.refl _ _).alloc (Nat.le_refl _) _
  have hj : j = 0 := by
    have := (List.getElem?_eq_some_iff.1 hp).1
    simp at this; exact this
  subst hj
  simp at hp
  subst hp
  refine ⟨?_, hc, hm, (hb.below hbel).more hbel.size⟩
  rw [add_zero]
  exact cell_of_row _ w.heap.size 0 _ t fr (heap_alloc_new w _)

set_option maxHeartbeats 1000000 in
theorem tag_any (A R : Option Addr) (key : List UInt8) (ps : List Part) (n c r rc : Nat) (hn : key.length = n) (hc : n ≤ c) (hcm : c ≤ 9223372036854775807) (hL : n ≤ 1099511627776) (hr : ps.length = r) (hrm : r ≤ 9223372036854775807) (hfl : 64 + (flat ps).length ≤ 1099511627776)
    (w : World) (hT : Tab w) (hb : Byt w w.heap.size A key) (h : RowsAt w w.heap.size R ps) :
    Calls Tryd.prog 23 #[.slice A n c, .slice R r rc] w fun e w' => ∃ A' c', e = .returned (.slice A' 32 c') ∧ 32 ≤ c' ∧ c' ≤ 9223372036854775807 ∧ OwnB w' w.heap.size (.slice A' 32 c') 32 (hmac key (flat ps)) ∧ Below w.heap.size w w' := by
  have HM := hid (masker_any A key n c hn hc hcm hL w hT hb)
  have HKL := hid (keyPad_length key)
  have HXL := hid (fun x => (xorAll_length (keyPad key) x).trans (keyPad_length key))
  have HSL := hid (fun l => sha_length l)
  have HTT := hid (fun W (hW : Below w.heap.size w W) => hT.below hT.pos hW)
  have HRR := hid (fun W (hW : Below w.heap.size w W) => (h.below hW).more hW.size)
  have HR := hid hr
  have HME := hid (hmac_eq key (flat ps))
  have HFL := hid hfl
  clear hn hb h hT hr hfl
  go_enter Tryd.func23, Tryd.ntmps23
  go_wp2_with fail
  refine HM.out.mono ?_
  rintro er w1 ⟨g, rfl, hg, hM, b1⟩
  clear HM
  go_wp2_with fail
  refine (masked_lit 54 54 rfl g _ HKL.out w1 hM).mono ?_
  rintro er w2 ⟨A2, c2, rfl, o2, b2⟩
  have b02 := b1.trans (b2.mono b1.size)
  have hM2 := hM.below hM.lt b2
  have J := hid (joined_any A2 R _ ps 64 c2 r rc (HXL.out 54) HR.out hrm HFL.out w2 o2.byt (HRR.out w2 b02))
  clear hM o2 b2
  go_wp2_with fail
  refine J.out.mono ?_
  rintro er w3 ⟨A3, N, c3, rfl, hN, o3, b3⟩
  have b03 := b02.trans (b3.mono b02.size)
  have hM3 := hM2.below hM2.lt b3
  have hNb : N ≤ 1099511627776 := by
    have := HFL.out
    rw [← hN, List.length_append, HXL.out]; exact this
  have HN := hid hN
  have S := hid (sum_at A3 _ N c3 hN o3.cap o3.cap_max hNb w3 (HTT.out w3 b03) o3.byt)
  clear J hM2 b3 hN
  go_wp2_with fail
  refine S.out.mono ?_
  rintro er w4 ⟨A4, c4, rfl, hc4, y4, b4, o4⟩
  have b04 := b03.trans (b4.mono b03.size)
  have hM4 := hM3.below hM3.lt b4
  have hc4m : c4 ≤ 9223372036854775807 := OwnB.cap_max o4
  clear S hM3 b4 o4 o3
  go_wp2_with fail
  refine (masked_lit 92 92 rfl g _ HKL.out w4 hM4).mono ?_
  rintro er w5 ⟨A5, c5, rfl, o5, b5⟩
  have b05 := b04.trans (b5.mono b04.size)
  have y5 := (y4.below b5).more b5.size
  have hrow := hid (one_row w5 A4 c4 32 _ (HSL.out _) hc4 hc4m y5 22 (0, 0))
  have b5a : Below w.heap.size w (w5.alloc (.cells #[.slice A4 32 c4] 22)) := b05.alloc b05.size _
  have bx : Below w5.heap.size w5 (w5.alloc (.cells #[.slice A4 32 c4] 22)) := (Below.refl _ _).alloc (Nat.le_refl _) _
  have J := hid (joined_any A5 (some ⟨w5.heap.size, 0, none⟩) _ _ 64 c5 1 1 (HXL.out 92) rfl (by omega) (by simp only [flat, List.flatMap_cons, List.flatMap_nil, List.append_nil]; rw [HSL.out]; omega) (w5.alloc (.cells #[.slice A4 32 c4] 22)) ((o5.byt.below bx).more bx.size) hrow.out)
  clear hM4 y4 y5 o5 b5 bx
  go_wp2_with fail
  refine J.out.mono ?_
  rintro er w6 ⟨A6, M, c6, rfl, hM6, o6, b6⟩
  have b06 := b5a.trans (b6.mono b5a.size)
  have hMb : M ≤ 1099511627776 := by
    rw [← hM6, List.length_append, HXL.out]
    simp only [flat, List.flatMap_cons, List.flatMap_nil, List.append_nil]
    rw [HSL.out]; omega
  have S := hid (sum_at A6 _ M c6 hM6 o6.cap o6.cap_max hMb w6 (HTT.out w6 b06) o6.byt)
  clear J b6 hM6 hrow
  go_wp2_with fail
  refine S.out.mono ?_
  rintro er w7 ⟨A7, c7, rfl, hc7, y7, b7, o7⟩
  have b07 := b06.trans (b7.mono b06.size)
  have hc7m : c7 ≤ 9223372036854775807 := OwnB.cap_max o7
  have hfin : Hid (OwnB w7 w.heap.size (.slice A7 32 c7) 32 (hmac key (flat ps))) := hid (by
    rw [HME.out]
    have h := OwnB.mono o7 b06.size
    simpa [flat] using h)
  clear S y7 b7 o7 o6
  go_wp2
  go_ret
  exact ⟨A7, c7, rfl, hc7, hc7m, hfin.out, b07⟩
end Go.Proofs.YtdmglanepjhdoaaDoor.Sh
