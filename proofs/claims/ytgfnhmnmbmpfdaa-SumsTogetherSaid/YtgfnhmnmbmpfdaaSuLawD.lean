/-
  The walk of SumsBursts.
-/
import Derived.Test.YtgfnhmnmbmpfdaaSuLawA
import Derived.BigRegion
namespace Go.Proofs.Ytgfnhmnmbmpfdaa.Sh
open Go Go.RowKit
set_option linter.unusedVariables false
set_option linter.unusedSimpArgs false
theorem neg_at {z : Int} (h : z < 0) {m : Nat} (hm : 2 ≤ m) : ∃ p : Nat, p + 16 ≤ 8 * m ∧ -(z + 1).tmod (8 * (m : Int) - 15) = (p : Int) := by
  have h1 := Int.emod_lt_of_pos (-(z + 1)) (show 0 < 8 * (m : Int) - 15 by omega)
  have h2 := Int.emod_nonneg (-(z + 1)) (show 8 * (m : Int) - 15 ≠ 0 by omega)
  refine ⟨(-(z + 1) % (8 * (m : Int) - 15)).toNat, by omega, ?_⟩
  rw [Int.toNat_of_nonneg h2, ← Int.neg_tmod, Int.tmod_eq_emod_of_nonneg (by omega)]
theorem pos_at {z : Int} {m : Nat} (hm : 2 ≤ m) : ∃ p : Nat, p + 16 ≤ 8 * m ∧ z % (8 * (m : Int) - 15) = (p : Int) := by
  have h1 := Int.emod_lt_of_pos z (show 0 < 8 * (m : Int) - 15 by omega)
  have h2 := Int.emod_nonneg z (show 8 * (m : Int) - 15 ≠ 0 by omega)
  refine ⟨(z % (8 * (m : Int) - 15)).toNat, by omega, ?_⟩
  rw [Int.toNat_of_nonneg h2]
theorem bit_case (v k : Nat) : (((v : Int) / 2 ^ k).tmod 2 == 1) = v.testBit k := by
  have h2 : ((v : Int) / 2 ^ k).tmod 2 = ((v.testBit k).toNat : Int) := by
    rw [div_cast, ← bit_num, Int.tmod_eq_emod_of_nonneg (Int.natCast_nonneg _)]; omega
  rw [h2]
  cases v.testBit k <;> rfl
theorem shr_at {r : Nat} (h : r < 8) : (128 : Int) / (2 : Int) ^ r = ((UInt8.ofNat (128 >>> r)).toNat : Int) := by
  rcases (by omega : r = 0 ∨ r = 1 ∨ r = 2 ∨ r = 3 ∨ r = 4 ∨ r = 5 ∨ r = 6 ∨ r = 7) with rfl | rfl | rfl | rfl | rfl | rfl | rfl | rfl <;> decide
set_option maxHeartbeats 8000000 in
set_option maxRecDepth 100000 in
theorem sumsBursts_walk (z : Int) (hz : -9223372036854775808 ≤ z) (hz2 : z < 9223372036854775808) (v : Nat) (hv : v < 65536) (A : Option Addr) (l : List UInt8) (n c : Nat) (hn : l.length = n) (hc : n ≤ c) (hc2 : c ≤ 9223372036854775807) (w : World) (h : Byt w w.heap.size A l) :
    Calls Try.prog 5 #[.slice A n c, .int .i64 z, .int .u16 v] w fun e w' => e = .returned (.bool true) ∧ Below w.heap.size w w' := by
  have HF := hid (few_any A l n c hn hc w)
  obtain ⟨k, m, hk, hm, hmn, e, hb⟩ := data_of hn h
  rw [e] at HF
  have HD := hid hb
  have HKL := hid hk
  have HR := hid (hb w (Below.refl _ _)).reads
  clear e hb hn h hmn hc
  by_cases h2 : m < 2
  · have h2' : (m : Int) < 2 := by omega
    go_enter Try.func5, Try.ntmps5
    go_wp2_with fail
    refine HF.out.mono ?_
    rintro er w1 ⟨rfl, rfl⟩
    go_wp2_with fail
    refine (lives_any _).mono ?_
    rintro er w4 ⟨rfl, b4⟩
    go_wp2
    go_ret
    exact ⟨rfl, b4⟩
  · have h2' : ¬ (m : Int) < 2 := by omega
    have hm2 : 2 ≤ m := by omega
    by_cases h0 : z < 0
    · obtain ⟨p, hp, ep⟩ := neg_at h0 hm2
      go_enter Try.func5, Try.ntmps5
      go_wp2_with fail
      refine HF.out.mono ?_
      rintro er w1 ⟨rfl, rfl⟩
      go_wp2_with (at_builtin; (refine wpList_appB rfl (.tmp 27) (.tmp 28) rfl w.heap.size (.slice none 0 0) 0 [] (OwnB.nil _ _) rfl A m c k rfl HKL.out HR.out (by omega) (Nat.le_refl _) w (Below.refl _ _) m (by omega) ?_; intro A2 c2 w2 o2 _ b2))
      have o2' : OwnB w2 w.heap.size (.slice A2 m c2) m k := o2
      obtain ⟨g, cap5, hv5, hg5, _⟩ := World.ownsRow.form o2' (by omega)
      injection hv5 with hA5 _ hcap5
      subst hA5 hcap5
      have HO := hid o2'
      have HB2 := hid b2
      clear o2 o2' b2
      go_loopw [8] (fun i wr => ∃ (j : Nat), j ≤ 16 ∧ i = .int .i64 j ∧ Hid (∃ t, Turned k p v j t ∧ OwnB wr w.heap.size (.slice (some ⟨g, 0, none⟩) m c2) m t) ∧ Hid (Below w.heap.size w wr)) (fun i _ => 16 - (intOf i).toNat)
      case atStart => exact ⟨0, by omega, rfl, hid ⟨k, Turned.zero k p v, HO.out⟩, HB2⟩
      case round =>
        obtain ⟨j, hj, rfl, HT, bel⟩ := hrel
        obtain ⟨t, ht, own⟩ := HT.out
        clear HT HO HB2
        by_cases hlt : j < 16
        · have hj0 : (0 : Int) ≤ (j : Int) := Int.natCast_nonneg _
          have hj1 : (j : Int) < 16 := by omega
          have hbc := bit_case v j
          by_cases hbt : v.testBit j = true
          · rw [hbt] at hbc
            obtain ⟨q, hq⟩ : ∃ q : Nat, q = p + j := ⟨_, rfl⟩
            have hq8 : q < 8 * m := by omega
            have eq : (p : Int) + (j : Int) = (q : Int) := by omega
            obtain ⟨I, hI, eI⟩ : ∃ I : Nat, I = q / 8 ∧ (q : Int) / 8 = (I : Int) := ⟨_, rfl, by omega⟩
            obtain ⟨r, hr, er⟩ : ∃ r : Nat, r = q % 8 ∧ (q : Int) % 8 = (r : Int) := ⟨_, rfl, by omega⟩
            have hI1 : I < m := by omega
            have hr1 : r < 8 := by omega
            have hIi : (I : Int) < (m : Int) := by omega
            have hI0 : (0 : Int) ≤ (I : Int) := Int.natCast_nonneg _
            have hr0 : (0 : Int) ≤ (r : Int) := Int.natCast_nonneg _
            have hq0 : (0 : Int) ≤ (q : Int) := Int.natCast_nonneg _
            obtain ⟨b, hb⟩ : ∃ b, b = UInt8.ofNat (128 >>> r) := ⟨_, rfl⟩
            have esh := shr_at hr1
            rw [← hb] at esh
            obtain ⟨x, hx⟩ : ∃ x, t[I]? = some x := ⟨t[I]'(by rw [ht.1, HKL.out]; exact hI1), List.getElem?_eq_getElem _⟩
            have hx8 := lt8 x
            obtain ⟨y, hy⟩ : ∃ y, y = x ^^^ b := ⟨_, rfl⟩
            have exy := b_xor x b
            rw [← hy] at exy
            have hcu : wr.cell? ⟨g, I, none⟩ = some (.int .u8 x.toNat) := by
              rw [World.ownsRow.cellAt own I (by omega)]
              simp [bv, hx]
            have hfz := World.ownsRow.frozenAt own I
            have HN : Hid (OwnB (wr.setCell ⟨g, I, none⟩ (.int .u8 y.toNat)) w.heap.size (.slice (some ⟨g, 0, none⟩) m c2) m (t.set I y) ∧ Turned k p v (j + 1) (t.set I y)) := hid ⟨by
                have h := (World.ownsRow.stored own I (.int .u8 y.toNat)).1
                unfold OwnB
                rw [← bv_set]
                exact h, by
                have h := ht.turn hbt (by rw [HKL.out]; omega)
                unfold flipB at h
                rw [← hq, ← hI, ← hr, ← hb, List.getD_eq_getElem?_getD, hx] at h
                rw [hy]
                exact h⟩
            have HBN := hid (bel.out.setCell (p := ⟨g, I, none⟩) hg5 (.int .u8 y.toNat))
            clear hq hI hr hb hx hy own ht hbt bel
            go_wp2_with fail
            go_region
            go_wp2
            go_roundw
            case rel => exact ⟨j + 1, by omega, by go_num, hid ⟨_, HN.out.2, HN.out.1.drew⟩, hid HBN.out.drew⟩
            case measure => simp [intOf]; omega
          · have hbf : v.testBit j = false := by simpa using hbt
            rw [hbf] at hbc
            have HN := hid (ht.skip hbf)
            have HOW := hid own
            clear own ht hbt hbf
            go_wp2
            go_roundw
            case rel => exact ⟨j + 1, by omega, by go_num, hid ⟨t, HN.out, HOW.out⟩, bel⟩
            case measure => simp [intOf]; omega
        · obtain rfl : j = 16 := by omega
          have HS : Hid (sumS t = sumS k ↔ v = 0) := hid (ht.sum (by rw [HKL.out]; exact hp) hv)
          have hOl : Hid (t.length = m) := hid (by rw [ht.1, HKL.out])
          have S1 := hid (sum_any (some ⟨g, 0, none⟩) t m c2 hOl.out (by omega) wr own.byt)
          have S2 := hid (sum_any A k m c HKL.out (by omega) wr (HD.out _ bel.out))
          obtain ⟨d, hd, hd2⟩ : ∃ d : Bool, (((sumS t).toNat : Int) != ((sumS k).toNat : Int)) = d ∧ ((v : Int) != 0) = d := by
            refine ⟨_, rfl, ?_⟩
            have h := HS.out
            by_cases hv0 : v = 0
            · rw [h.2 hv0, hv0]; simp
            · have h3 : ¬ (sumS t).toNat = (sumS k).toNat := fun e => hv0 (h.1 (BitVec.eq_of_toNat_eq e))
              have a : ((v : Int) != 0) = true := by rw [bne_iff_ne]; omega
              have b : (((sumS t).toNat : Int) != ((sumS k).toNat : Int)) = true := by rw [bne_iff_ne]; omega
              rw [a, b]
          generalize (sumS t).toNat = T1 at *
          generalize (sumS k).toNat = T2 at *
          clear own ht
          go_wp2_with fail
          refine S1.out.mono ?_
          rintro er w5 ⟨rfl, rfl⟩
          go_wp2_with fail
          refine S2.out.mono ?_
          rintro er w5 ⟨rfl, rfl⟩
          cases d with
          | _ =>
            go_wp2_with fail
            refine (lives_any _).mono ?_
            rintro er w9 ⟨rfl, b9⟩
            have HXX := hid (bel.out.trans (b9.mono bel.out.size))
            go_wp2
            go_ret
            exact ⟨rfl, HXX.out⟩
    · obtain ⟨p, hp, ep⟩ := pos_at (z := z) hm2
      go_enter Try.func5, Try.ntmps5
      go_wp2_with fail
      refine HF.out.mono ?_
      rintro er w1 ⟨rfl, rfl⟩
      go_wp2_with (at_builtin; (refine wpList_appB rfl (.tmp 27) (.tmp 28) rfl w.heap.size (.slice none 0 0) 0 [] (OwnB.nil _ _) rfl A m c k rfl HKL.out HR.out (by omega) (Nat.le_refl _) w (Below.refl _ _) m (by omega) ?_; intro A2 c2 w2 o2 _ b2))
      have o2' : OwnB w2 w.heap.size (.slice A2 m c2) m k := o2
      obtain ⟨g, cap5, hv5, hg5, _⟩ := World.ownsRow.form o2' (by omega)
      injection hv5 with hA5 _ hcap5
      subst hA5 hcap5
      have HO := hid o2'
      have HB2 := hid b2
      clear o2 o2' b2
      go_loopw [8] (fun i wr => ∃ (j : Nat), j ≤ 16 ∧ i = .int .i64 j ∧ Hid (∃ t, Turned k p v j t ∧ OwnB wr w.heap.size (.slice (some ⟨g, 0, none⟩) m c2) m t) ∧ Hid (Below w.heap.size w wr)) (fun i _ => 16 - (intOf i).toNat)
      case atStart => exact ⟨0, by omega, rfl, hid ⟨k, Turned.zero k p v, HO.out⟩, HB2⟩
      case round =>
        obtain ⟨j, hj, rfl, HT, bel⟩ := hrel
        obtain ⟨t, ht, own⟩ := HT.out
        clear HT HO HB2
        by_cases hlt : j < 16
        · have hj0 : (0 : Int) ≤ (j : Int) := Int.natCast_nonneg _
          have hj1 : (j : Int) < 16 := by omega
          have hbc := bit_case v j
          by_cases hbt : v.testBit j = true
          · rw [hbt] at hbc
            obtain ⟨q, hq⟩ : ∃ q : Nat, q = p + j := ⟨_, rfl⟩
            have hq8 : q < 8 * m := by omega
            have eq : (p : Int) + (j : Int) = (q : Int) := by omega
            obtain ⟨I, hI, eI⟩ : ∃ I : Nat, I = q / 8 ∧ (q : Int) / 8 = (I : Int) := ⟨_, rfl, by omega⟩
            obtain ⟨r, hr, er⟩ : ∃ r : Nat, r = q % 8 ∧ (q : Int) % 8 = (r : Int) := ⟨_, rfl, by omega⟩
            have hI1 : I < m := by omega
            have hr1 : r < 8 := by omega
            have hIi : (I : Int) < (m : Int) := by omega
            have hI0 : (0 : Int) ≤ (I : Int) := Int.natCast_nonneg _
            have hr0 : (0 : Int) ≤ (r : Int) := Int.natCast_nonneg _
            have hq0 : (0 : Int) ≤ (q : Int) := Int.natCast_nonneg _
            obtain ⟨b, hb⟩ : ∃ b, b = UInt8.ofNat (128 >>> r) := ⟨_, rfl⟩
            have esh := shr_at hr1
            rw [← hb] at esh
            obtain ⟨x, hx⟩ : ∃ x, t[I]? = some x := ⟨t[I]'(by rw [ht.1, HKL.out]; exact hI1), List.getElem?_eq_getElem _⟩
            have hx8 := lt8 x
            obtain ⟨y, hy⟩ : ∃ y, y = x ^^^ b := ⟨_, rfl⟩
            have exy := b_xor x b
            rw [← hy] at exy
            have hcu : wr.cell? ⟨g, I, none⟩ = some (.int .u8 x.toNat) := by
              rw [World.ownsRow.cellAt own I (by omega)]
              simp [bv, hx]
            have hfz := World.ownsRow.frozenAt own I
            have HN : Hid (OwnB (wr.setCell ⟨g, I, none⟩ (.int .u8 y.toNat)) w.heap.size (.slice (some ⟨g, 0, none⟩) m c2) m (t.set I y) ∧ Turned k p v (j + 1) (t.set I y)) := hid ⟨by
                have h := (World.ownsRow.stored own I (.int .u8 y.toNat)).1
                unfold OwnB
                rw [← bv_set]
                exact h, by
                have h := ht.turn hbt (by rw [HKL.out]; omega)
                unfold flipB at h
                rw [← hq, ← hI, ← hr, ← hb, List.getD_eq_getElem?_getD, hx] at h
                rw [hy]
                exact h⟩
            have HBN := hid (bel.out.setCell (p := ⟨g, I, none⟩) hg5 (.int .u8 y.toNat))
            clear hq hI hr hb hx hy own ht hbt bel
            go_wp2_with fail
            go_region
            go_wp2
            go_roundw
            case rel => exact ⟨j + 1, by omega, by go_num, hid ⟨_, HN.out.2, HN.out.1.drew⟩, hid HBN.out.drew⟩
            case measure => simp [intOf]; omega
          · have hbf : v.testBit j = false := by simpa using hbt
            rw [hbf] at hbc
            have HN := hid (ht.skip hbf)
            have HOW := hid own
            clear own ht hbt hbf
            go_wp2
            go_roundw
            case rel => exact ⟨j + 1, by omega, by go_num, hid ⟨t, HN.out, HOW.out⟩, bel⟩
            case measure => simp [intOf]; omega
        · obtain rfl : j = 16 := by omega
          have HS : Hid (sumS t = sumS k ↔ v = 0) := hid (ht.sum (by rw [HKL.out]; exact hp) hv)
          have hOl : Hid (t.length = m) := hid (by rw [ht.1, HKL.out])
          have S1 := hid (sum_any (some ⟨g, 0, none⟩) t m c2 hOl.out (by omega) wr own.byt)
          have S2 := hid (sum_any A k m c HKL.out (by omega) wr (HD.out _ bel.out))
          obtain ⟨d, hd, hd2⟩ : ∃ d : Bool, (((sumS t).toNat : Int) != ((sumS k).toNat : Int)) = d ∧ ((v : Int) != 0) = d := by
            refine ⟨_, rfl, ?_⟩
            have h := HS.out
            by_cases hv0 : v = 0
            · rw [h.2 hv0, hv0]; simp
            · have h3 : ¬ (sumS t).toNat = (sumS k).toNat := fun e => hv0 (h.1 (BitVec.eq_of_toNat_eq e))
              have a : ((v : Int) != 0) = true := by rw [bne_iff_ne]; omega
              have b : (((sumS t).toNat : Int) != ((sumS k).toNat : Int)) = true := by rw [bne_iff_ne]; omega
              rw [a, b]
          generalize (sumS t).toNat = T1 at *
          generalize (sumS k).toNat = T2 at *
          clear own ht
          go_wp2_with fail
          refine S1.out.mono ?_
          rintro er w5 ⟨rfl, rfl⟩
          go_wp2_with fail
          refine S2.out.mono ?_
          rintro er w5 ⟨rfl, rfl⟩
          cases d with
          | _ =>
            go_wp2_with fail
            refine (lives_any _).mono ?_
            rintro er w9 ⟨rfl, b9⟩
            have HXX := hid (bel.out.trans (b9.mono bel.out.size))
            go_wp2
            go_ret
            exact ⟨rfl, HXX.out⟩
end Go.Proofs.Ytgfnhmnmbmpfdaa.Sh
