/-
  The program's own Number, by contract.
-/
import Derived.Test.YtkggagnaiiemlaaDoorNaProg1
namespace Go.Proofs.YtkggagnaiiemlaaDoor.Sh
open Go Go.RowKit

set_option maxHeartbeats 2000000 in
theorem nnum_any (s : ByteArray) (w : World) : Calls Tryd.prog 75 #[.string s] w fun e w' => e = .returned (.int .i64 (numL s.data.toList : Int)) ∧ Below w.heap.size w w' := by
  obtain ⟨l, hl⟩ : ∃ l, s.data.toList = l := ⟨_, rfl⟩
  have hsz := size_list s
  rw [hl] at hsz ⊢
  have HL := hid hl
  have HSZ := hid hsz
  clear hl hsz
  go_enter Tryd.func75, Tryd.ntmps75
  go_wp2
  go_loopw [3] (fun n wr => ∃ k m : Nat, n = .int .i64 (m : Int) ∧ k ≤ s.size ∧ m ≤ 16 ∧ Hid (numAt l k m) ∧ wr = w.iter s k) (fun _ wr => s.size - wr.iterPos w.heap.size)
  case atStart => exact ⟨0, 0, rfl, by omega, by omega, hid (.inl ⟨rfl, rfl⟩), rfl⟩
  case round =>
    obtain ⟨k, m, rfl, hk, hm, HA, rfl⟩ := hrel
    by_cases hlt : k < s.size
    · obtain ⟨x, hx⟩ : ∃ x, l[k]? = some x := ⟨_, List.getElem?_eq_getElem (by rw [HSZ.out]; exact hlt)⟩
      obtain ⟨R, Z, hN, hkZ, hZ, hR, hlow, hhigh, _⟩ := next_at s (k := k) (x := x) (by rw [HL.out]; exact hx)
      have hnx := hN Tryd.prog w
      have HX := hid hx
      have hk00 : (0 : Int) ≤ (k : Int) := Int.natCast_nonneg _
      by_cases hk0 : k = 0
      · subst hk0
        have hm0 : m = 0 := by rcases HA.out with h | h | h | h <;> omega
        subst hm0
        by_cases h100 : x.toNat = 100
        · obtain ⟨e1, e2⟩ := hlow (by omega)
          subst e2
          have hRi : (R : Int) = 100 := by omega
          have HO : Hid (numAt l 1 0) := hid (.inr (.inl ⟨rfl, rfl, by rw [HX.out]; congr 1; exact UInt8.toNat_inj.1 h100⟩))
          clear hlow hhigh hN hx
          go_wp2
          go_roundw
          case rel => exact ⟨1, 0, by first | rfl | go_num, by omega, by omega, HO, rfl⟩
          case measure => simp [World.iterPos_iter]; omega
        · have hRi : ¬ (R : Int) = 100 := by
            rcases Nat.lt_or_ge x.toNat 128 with h | h
            · rw [(hlow h).1]; omega
            · have := hhigh h; omega
          have HF : Hid (numL l = 0) := hid (num_bad0 HX.out h100)
          clear hlow hhigh hN hx
          go_wp2
          go_ret
          exact ⟨by rw [HF.out]; rfl, iter_below _ _ _⟩
      · have hk0' : ¬ (k : Int) = 0 := by omega
        have h2 := digN_of (fun h => (hlow h).1) hhigh
        obtain ⟨b2, hb2⟩ : ∃ b, digit x = b := ⟨_, rfl⟩
        have C2 : Hid (∀ w, Calls Tryd.prog 59 #[.int .i32 (R : Int)] w fun e w' => e = .returned (.bool b2) ∧ w = w') := hid (fun w => by rw [← hb2, ← h2]; exact digit_any R hR w)
        have HB2 := hid hb2
        have HLOW := hid hlow
        clear hx h2 hb2 hlow hhigh hN
        go_wp2_with fail
        refine (C2.out _).mono ?_
        rintro er w2 ⟨rfl, rfl⟩
        cases b2 with
        | false =>
          have HF : Hid (numL l = 0) := hid (num_bad HA.out (by omega) HX.out HB2.out)
          go_wp2
          go_ret
          exact ⟨by rw [HF.out]; rfl, iter_below _ _ _⟩
        | true =>
          have hxd : 48 ≤ x.toNat ∧ x.toNat ≤ 57 := by have := HB2.out; unfold digit at this; simp at this; omega
          obtain ⟨e1, e2⟩ := HLOW.out (by omega)
          subst e2 e1
          obtain ⟨hs1, hs2⟩ := num_step HA.out (by omega) HX.out HB2.out
          have hr1 : 48 ≤ (x.toNat : Int) := by omega
          have hr2 : (x.toNat : Int) ≤ 57 := by omega
          have hm' : (0 : Int) ≤ (m : Int) := Int.natCast_nonneg _
          have hm16 : (m : Int) ≤ 16 := by omega
          by_cases hz : 10 * m + (x.toNat - 48) = 0
          · have HF : Hid (numL l = 0) := hid (hs1 (.inl hz))
            have hz' : 10 * (m : Int) + ((x.toNat : Int) - 48) = 0 := by omega
            clear hs1 hs2 HLOW
            go_wp2
            go_ret
            exact ⟨by rw [HF.out]; rfl, iter_below _ _ _⟩
          · have hz' : ¬ 10 * (m : Int) + ((x.toNat : Int) - 48) = 0 := by omega
            by_cases hbig : 16 < 10 * m + (x.toNat - 48)
            · have HF : Hid (numL l = 0) := hid (hs1 (.inr hbig))
              have hb' : 16 < 10 * (m : Int) + ((x.toNat : Int) - 48) := by omega
              clear hs1 hs2 HLOW
              go_wp2
              go_ret
              exact ⟨by rw [HF.out]; rfl, iter_below _ _ _⟩
            · have hb' : ¬ 16 < 10 * (m : Int) + ((x.toNat : Int) - 48) := by omega
              have HO : Hid (numAt l (k + 1) (10 * m + (x.toNat - 48))) := hid (hs2 hz (by omega))
              have hzb : (10 * (m : Int) + ((x.toNat : Int) - 48) == 0) = false := beq_eq_false_iff_ne.2 hz'
              have HV : Hid (((10 * m + (x.toNat - 48) : Nat) : Int) = 10 * (m : Int) + ((x.toNat : Int) - 48)) := hid (by omega)
              clear hs1 hs2 HLOW
              go_wp2
              go_roundw
              case rel => exact ⟨k + 1, 10 * m + (x.toNat - 48), by rw [HV.out], by omega, by omega, HO, rfl⟩
              case measure => simp [World.iterPos_iter]; omega
    · obtain rfl : k = s.size := by omega
      have hnx := fun ty => run_next_end (P := Tryd.prog) w s s.size ty hlt
      have HF : Hid (numL l = m) := hid (numAt_end (by rw [HSZ.out]; exact HA.out))
      go_wp2
      go_ret
      exact ⟨by rw [HF.out]; rfl, iter_below _ _ _⟩
end Go.Proofs.YtkggagnaiiemlaaDoor.Sh
