/-
  The program's own letter, digit, May and Number, by contract.
-/
import Derived.Test.YtkimhdcngagmaaaJa14
set_option linter.unusedVariables false
set_option linter.unusedSimpArgs false
namespace Go.Proofs.Ytkimhdcngagmaaa.Sh
open Go Go.RowKit

theorem letter_any (R : Nat) (hR : R ≤ 2147483647) (w : World) : Calls Try.prog 59 #[.int .i32 (R : Int)] w fun e w' => e = .returned (.bool (letN R)) ∧ w = w' := by
  by_cases h0 : 97 ≤ R
  · have h0' : 97 ≤ (R : Int) := by omega
    by_cases h1 : R ≤ 122
    · have h1' : (R : Int) ≤ 122 := by omega
      have HE : Hid (letN R = true) := hid (by unfold letN; simp; omega)
      go_enter Try.func59, Try.ntmps59
      go_wp2
      go_ret
      exact ⟨by rw [HE.out]; rfl, rfl⟩
    · have h1' : ¬ (R : Int) ≤ 122 := by omega
      have HE : Hid (letN R = false) := hid (by unfold letN; simp; omega)
      go_enter Try.func59, Try.ntmps59
      go_wp2
      go_ret
      exact ⟨by rw [HE.out]; rfl, rfl⟩
  · have h0' : ¬ 97 ≤ (R : Int) := by omega
    have HE : Hid (letN R = false) := hid (by unfold letN; simp; omega)
    go_enter Try.func59, Try.ntmps59
    go_wp2
    go_ret
    exact ⟨by rw [HE.out]; rfl, rfl⟩
theorem digit_any (R : Nat) (hR : R ≤ 2147483647) (w : World) : Calls Try.prog 60 #[.int .i32 (R : Int)] w fun e w' => e = .returned (.bool (digN R)) ∧ w = w' := by
  by_cases h0 : 48 ≤ R
  · have h0' : 48 ≤ (R : Int) := by omega
    by_cases h1 : R ≤ 57
    · have h1' : (R : Int) ≤ 57 := by omega
      have HE : Hid (digN R = true) := hid (by unfold digN; simp; omega)
      go_enter Try.func60, Try.ntmps60
      go_wp2
      go_ret
      exact ⟨by rw [HE.out]; rfl, rfl⟩
    · have h1' : ¬ (R : Int) ≤ 57 := by omega
      have HE : Hid (digN R = false) := hid (by unfold digN; simp; omega)
      go_enter Try.func60, Try.ntmps60
      go_wp2
      go_ret
      exact ⟨by rw [HE.out]; rfl, rfl⟩
  · have h0' : ¬ 48 ≤ (R : Int) := by omega
    have HE : Hid (digN R = false) := hid (by unfold digN; simp; omega)
    go_enter Try.func60, Try.ntmps60
    go_wp2
    go_ret
    exact ⟨by rw [HE.out]; rfl, rfl⟩

set_option maxHeartbeats 2000000 in
theorem may_any (s : ByteArray) (w : World) : Calls Try.prog 53 #[.string s] w fun e w' => e = .returned (.bool (mayL s.data.toList)) ∧ Below w.heap.size w w' := by
  obtain ⟨l, hl⟩ : ∃ l, s.data.toList = l := ⟨_, rfl⟩
  have hsz := size_list s
  rw [hl] at hsz ⊢
  have HL := hid hl
  have HSZ := hid hsz
  clear hl hsz
  go_enter Try.func53, Try.ntmps53
  go_wp2
  go_loopw [] (fun wr => ∃ k : Nat, k ≤ s.size ∧ Hid (∀ j x, j < k → l[j]? = some x → (letter x = true ∨ (0 < j ∧ digit x = true))) ∧ wr = w.iter s k) (fun wr => s.size - wr.iterPos w.heap.size)
  case atStart => exact ⟨0, by omega, hid (fun j x h => by omega), rfl⟩
  case round =>
    obtain ⟨k, hk, HP, rfl⟩ := hrel
    by_cases hlt : k < s.size
    · obtain ⟨x, hx⟩ : ∃ x, l[k]? = some x := ⟨_, List.getElem?_eq_getElem (by rw [HSZ.out]; exact hlt)⟩
      obtain ⟨R, Z, hN, hkZ, hZ, hR, hlow, hhigh, _⟩ := next_at s (k := k) (x := x) (by rw [HL.out]; exact hx)
      have hnx := hN Try.prog w
      have HX := hid hx
      have h1 := letN_of (fun h => (hlow h).1) hhigh
      have h2 := digN_of (fun h => (hlow h).1) hhigh
      have HZ : Hid (letter x = true ∨ digit x = true → Z = k + 1) := hid (fun h => (hlow (by unfold letter digit at h; simp at h; omega)).2)
      obtain ⟨b1, hb1⟩ : ∃ b, letter x = b := ⟨_, rfl⟩
      obtain ⟨b2, hb2⟩ : ∃ b, digit x = b := ⟨_, rfl⟩
      have C1 : Hid (∀ w, Calls Try.prog 59 #[.int .i32 (R : Int)] w fun e w' => e = .returned (.bool b1) ∧ w = w') := hid (fun w => by rw [← hb1, ← h1]; exact letter_any R hR w)
      have C2 : Hid (∀ w, Calls Try.prog 60 #[.int .i32 (R : Int)] w fun e w' => e = .returned (.bool b2) ∧ w = w') := hid (fun w => by rw [← hb2, ← h2]; exact digit_any R hR w)
      have HB1 := hid hb1
      have HB2 := hid hb2
      have hk00 : (0 : Int) ≤ (k : Int) := Int.natCast_nonneg _
      clear hx h1 h2 hb1 hb2 hlow hhigh hN
      go_wp2_with fail
      refine (C1.out _).mono ?_
      rintro er w2 ⟨rfl, rfl⟩
      cases b1 with
      | true =>
        have HO : Hid (∀ j x, j < k + 1 → l[j]? = some x → (letter x = true ∨ (0 < j ∧ digit x = true))) := hid (fun j z hj hz => by
          rcases Nat.lt_or_ge j k with h | h
          · exact HP.out j z h hz
          · obtain rfl : j = k := by omega
            rw [HX.out] at hz
            injection hz with hz
            subst hz
            exact .inl HB1.out)
        obtain rfl := HZ.out (.inl HB1.out)
        go_wp2
        go_roundw
        case rel => exact ⟨k + 1, by omega, HO, rfl⟩
        case measure => simp [World.iterPos_iter]; omega
      | false =>
        by_cases hk0 : k = 0
        · subst hk0
          have HF : Hid (mayL l = false) := hid (may_bad HX.out HB1.out (.inl rfl))
          go_wp2
          go_ret
          exact ⟨by rw [HF.out]; rfl, iter_below _ _ _⟩
        · have hk0' : (0 : Int) < (k : Int) := by omega
          go_wp2_with fail
          refine (C2.out _).mono ?_
          rintro er w2 ⟨rfl, rfl⟩
          cases b2 with
          | true =>
            have HO : Hid (∀ j x, j < k + 1 → l[j]? = some x → (letter x = true ∨ (0 < j ∧ digit x = true))) := hid (fun j z hj hz => by
              rcases Nat.lt_or_ge j k with h | h
              · exact HP.out j z h hz
              · obtain rfl : j = k := by omega
                rw [HX.out] at hz
                injection hz with hz
                subst hz
                exact .inr ⟨by omega, HB2.out⟩)
            obtain rfl := HZ.out (.inr HB2.out)
            go_wp2
            go_roundw
            case rel => exact ⟨k + 1, by omega, HO, rfl⟩
            case measure => simp [World.iterPos_iter]; omega
          | false =>
            have HF : Hid (mayL l = false) := hid (may_bad HX.out HB1.out (.inr HB2.out))
            go_wp2
            go_ret
            exact ⟨by rw [HF.out]; rfl, iter_below _ _ _⟩
    · obtain rfl : k = s.size := by omega
      have hnx := fun ty => run_next_end (P := Try.prog) w s s.size ty hlt
      have HT : Hid (mayL l = (decide (1 ≤ l.length) && decide (l.length ≤ 8))) := hid (may_end fun j x hx => HP.out j x (by have := (List.getElem?_eq_some_iff.1 hx).1; rwa [HSZ.out] at this) hx)
      by_cases g1 : 1 ≤ s.size
      · have g1' : (1 : Int) ≤ (s.size : Int) := by omega
        by_cases g8 : s.size ≤ 8
        · have g8' : (s.size : Int) ≤ 8 := by omega
          have HF : Hid (mayL l = true) := hid (by rw [HT.out, HSZ.out]; simp; omega)
          go_wp2
          go_ret
          exact ⟨by rw [HF.out]; rfl, iter_below _ _ _⟩
        · have g8' : ¬ (s.size : Int) ≤ 8 := by omega
          have HF : Hid (mayL l = false) := hid (by rw [HT.out, HSZ.out]; simp; omega)
          go_wp2
          go_ret
          exact ⟨by rw [HF.out]; rfl, iter_below _ _ _⟩
      · have g1' : ¬ (1 : Int) ≤ (s.size : Int) := by omega
        have HF : Hid (mayL l = false) := hid (by rw [HT.out, HSZ.out]; simp; omega)
        go_wp2
        go_ret
        exact ⟨by rw [HF.out]; rfl, iter_below _ _ _⟩
end Go.Proofs.Ytkimhdcngagmaaa.Sh
/-
  The program's own Number, by contract.
-/
namespace Go.Proofs.Ytkimhdcngagmaaa.Sh
open Go Go.RowKit

set_option maxHeartbeats 2000000 in
theorem nnum_any (s : ByteArray) (w : World) : Calls Try.prog 64 #[.string s] w fun e w' => e = .returned (.int .i64 (numL s.data.toList : Int)) ∧ Below w.heap.size w w' := by
  obtain ⟨l, hl⟩ : ∃ l, s.data.toList = l := ⟨_, rfl⟩
  have hsz := size_list s
  rw [hl] at hsz ⊢
  have HL := hid hl
  have HSZ := hid hsz
  clear hl hsz
  go_enter Try.func64, Try.ntmps64
  go_wp2
  go_loopw [3] (fun n wr => ∃ k m : Nat, n = .int .i64 (m : Int) ∧ k ≤ s.size ∧ m ≤ 16 ∧ Hid (numAt l k m) ∧ wr = w.iter s k) (fun _ wr => s.size - wr.iterPos w.heap.size)
  case atStart => exact ⟨0, 0, rfl, by omega, by omega, hid (.inl ⟨rfl, rfl⟩), rfl⟩
  case round =>
    obtain ⟨k, m, rfl, hk, hm, HA, rfl⟩ := hrel
    by_cases hlt : k < s.size
    · obtain ⟨x, hx⟩ : ∃ x, l[k]? = some x := ⟨_, List.getElem?_eq_getElem (by rw [HSZ.out]; exact hlt)⟩
      obtain ⟨R, Z, hN, hkZ, hZ, hR, hlow, hhigh, _⟩ := next_at s (k := k) (x := x) (by rw [HL.out]; exact hx)
      have hnx := hN Try.prog w
      have HX := hid hx
      have hk00 : (0 : Int) ≤ (k : Int) := Int.natCast_nonneg _
      by_cases hk0 : k = 0
      · subst hk0
        have hm0 : m = 0 := by rcases HA.out with h | h | h | h <;> omega
        subst hm0
        by_cases h100 : x.toNat = 100
        · obtain ⟨e1, e2⟩ := hlow (by omega)
          subst e2
          have hRi : (R : Int) = 100 := by omega
          have HO : Hid (numAt l 1 0) := hid (.inr (.inl ⟨rfl, rfl, by rw [HX.out]; congr 1; exact UInt8.toNat_inj.1 h100⟩))
          clear hlow hhigh hN hx
          go_wp2
          go_roundw
          case rel => exact ⟨1, 0, by first | rfl | go_num, by omega, by omega, HO, rfl⟩
          case measure => simp [World.iterPos_iter]; omega
        · have hRi : ¬ (R : Int) = 100 := by
            rcases Nat.lt_or_ge x.toNat 128 with h | h
            · rw [(hlow h).1]; omega
            · have := hhigh h; omega
          have HF : Hid (numL l = 0) := hid (num_bad0 HX.out h100)
          clear hlow hhigh hN hx
          go_wp2
          go_ret
          exact ⟨by rw [HF.out]; rfl, iter_below _ _ _⟩
      · have hk0' : ¬ (k : Int) = 0 := by omega
        have h2 := digN_of (fun h => (hlow h).1) hhigh
        obtain ⟨b2, hb2⟩ : ∃ b, digit x = b := ⟨_, rfl⟩
        have C2 : Hid (∀ w, Calls Try.prog 60 #[.int .i32 (R : Int)] w fun e w' => e = .returned (.bool b2) ∧ w = w') := hid (fun w => by rw [← hb2, ← h2]; exact digit_any R hR w)
        have HB2 := hid hb2
        have HLOW := hid hlow
        clear hx h2 hb2 hlow hhigh hN
        go_wp2_with fail
        refine (C2.out _).mono ?_
        rintro er w2 ⟨rfl, rfl⟩
        cases b2 with
        | false =>
          have HF : Hid (numL l = 0) := hid (num_bad HA.out (by omega) HX.out HB2.out)
          go_wp2
          go_ret
          exact ⟨by rw [HF.out]; rfl, iter_below _ _ _⟩
        | true =>
          have hxd : 48 ≤ x.toNat ∧ x.toNat ≤ 57 := by have := HB2.out; unfold digit at this; simp at this; omega
          obtain ⟨e1, e2⟩ := HLOW.out (by omega)
          subst e2 e1
          obtain ⟨hs1, hs2⟩ := num_step HA.out (by omega) HX.out HB2.out
          have hr1 : 48 ≤ (x.toNat : Int) := by omega
          have hr2 : (x.toNat : Int) ≤ 57 := by omega
          have hm' : (0 : Int) ≤ (m : Int) := Int.natCast_nonneg _
          have hm16 : (m : Int) ≤ 16 := by omega
          by_cases hz : 10 * m + (x.toNat - 48) = 0
          · have HF : Hid (numL l = 0) := hid (hs1 (.inl hz))
            have hz' : 10 * (m : Int) + ((x.toNat : Int) - 48) = 0 := by omega
            clear hs1 hs2 HLOW
            go_wp2
            go_ret
            exact ⟨by rw [HF.out]; rfl, iter_below _ _ _⟩
          · have hz' : ¬ 10 * (m : Int) + ((x.toNat : Int) - 48) = 0 := by omega
            by_cases hbig : 16 < 10 * m + (x.toNat - 48)
            · have HF : Hid (numL l = 0) := hid (hs1 (.inr hbig))
              have hb' : 16 < 10 * (m : Int) + ((x.toNat : Int) - 48) := by omega
              clear hs1 hs2 HLOW
              go_wp2
              go_ret
              exact ⟨by rw [HF.out]; rfl, iter_below _ _ _⟩
            · have hb' : ¬ 16 < 10 * (m : Int) + ((x.toNat : Int) - 48) := by omega
              have HO : Hid (numAt l (k + 1) (10 * m + (x.toNat - 48))) := hid (hs2 hz (by omega))
              have hzb : (10 * (m : Int) + ((x.toNat : Int) - 48) == 0) = false := beq_eq_false_iff_ne.2 hz'
              have HV : Hid (((10 * m + (x.toNat - 48) : Nat) : Int) = 10 * (m : Int) + ((x.toNat : Int) - 48)) := hid (by omega)
              clear hs1 hs2 HLOW
              go_wp2
              go_roundw
              case rel => exact ⟨k + 1, 10 * m + (x.toNat - 48), by rw [HV.out], by omega, by omega, HO, rfl⟩
              case measure => simp [World.iterPos_iter]; omega
    · obtain rfl : k = s.size := by omega
      have hnx := fun ty => run_next_end (P := Try.prog) w s s.size ty hlt
      have HF : Hid (numL l = m) := hid (numAt_end (by rw [HSZ.out]; exact HA.out))
      go_wp2
      go_ret
      exact ⟨by rw [HF.out]; rfl, iter_below _ _ _⟩
end Go.Proofs.Ytkimhdcngagmaaa.Sh
/-
  The program's own Domain, Role, Text and Less, by contract; strconv.Itoa of 1 to 16.
-/
namespace Go.Proofs.Ytkimhdcngagmaaa.Sh
open Go Go.RowKit

/-- The digits of 1 to 16. -/
def digB (n : Int) : ByteArray := ⟨(if n < 10 then [UInt8.ofNat (48 + n.toNat)] else [49, UInt8.ofNat (38 + n.toNat)]).toArray⟩
theorem upto16 {n : Int} (h1 : 1 ≤ n) (h2 : n ≤ 16) : n = 1 ∨ n = 2 ∨ n = 3 ∨ n = 4 ∨ n = 5 ∨ n = 6 ∨ n = 7 ∨ n = 8 ∨ n = 9 ∨ n = 10 ∨ n = 11 ∨ n = 12 ∨ n = 13 ∨ n = 14 ∨ n = 15 ∨ n = 16 := by omega
theorem digB_dom {n : Int} (h1 : 1 ≤ n) (h2 : n ≤ 16) : (⟨#[100]⟩ : ByteArray) ++ digB n = ⟨(domL n).toArray⟩ := by
  rcases upto16 h1 h2 with rfl | rfl | rfl | rfl | rfl | rfl | rfl | rfl | rfl | rfl | rfl | rfl | rfl | rfl | rfl | rfl
  all_goals kernel_rfl
theorem digB_size (n : Int) : (digB n).size ≤ 2 := by
  unfold digB
  split <;> simp [ByteArray.size]
theorem role_any (o n : ByteArray) (w : World) :
    Calls Try.prog 62 #[.agg #[.string o, .string n]] w fun e w' => e = .returned (.bool (roleL o.data.toList n.data.toList)) ∧ Below w.heap.size w w' := by
  have HM := hid (fun w => may_any n w)
  have HN := hid (fun w => nnum_any o w)
  obtain ⟨m, hm⟩ : ∃ m, mayL n.data.toList = m := ⟨_, rfl⟩
  obtain ⟨k, hk⟩ : ∃ k, numL o.data.toList = k := ⟨_, rfl⟩
  rw [hm] at HM
  rw [hk] at HN
  have HR : Hid (roleL o.data.toList n.data.toList = (m && decide (k ≠ 0))) := hid (by unfold roleL; rw [hm, hk])
  clear hm hk
  go_enter Try.func62, Try.ntmps62
  obtain ⟨w0, hw0⟩ : ∃ w0, w0 = w.alloc (.cells #[.string o, .string n] 51) := ⟨_, rfl⟩
  have hr0 : w0.heap[w.heap.size]? = some (.cells #[.string o, .string n] 51 (0, 0)) := by rw [hw0]; exact heap_alloc_new w _
  have b0 : Below w.heap.size w w0 := by rw [hw0]; exact (Below.refl _ _).alloc (Nat.le_refl _) _
  go_wp2_with fail
  rw [← hw0]
  clear hw0
  refine (HN.out w0).mono ?_
  rintro er w1 ⟨rfl, bb⟩
  have hr1 := (bb.block w.heap.size (Array.getElem?_eq_some_iff.1 hr0).1).trans hr0
  have b1 := b0.trans (bb.mono b0.size)
  have c1 : w1.cell? ⟨w.heap.size, 1, none⟩ = some (.string n) := by rw [cell_of_row w1 _ 1 _ _ (0, 0) hr1]; rfl
  clear bb b0 hr0 hr1
  by_cases hk : k = 0
  · subst hk
    have HF : Hid (roleL o.data.toList n.data.toList = false) := hid (by rw [HR.out]; simp)
    go_wp2
    go_ret
    exact ⟨by rw [HF.out]; rfl, b1⟩
  · have hk' : (0 : Int) < (k : Int) := by omega
    have HF : Hid (roleL o.data.toList n.data.toList = m) := hid (by rw [HR.out]; simp [hk])
    go_wp2_with fail
    refine (HM.out _).mono ?_
    rintro er w2 ⟨rfl, bb⟩
    have b2 := b1.trans (bb.mono b1.size)
    clear bb b1 c1
    go_wp2
    go_ret
    exact ⟨by rw [HF.out]; rfl, b2⟩
end Go.Proofs.Ytkimhdcngagmaaa.Sh
