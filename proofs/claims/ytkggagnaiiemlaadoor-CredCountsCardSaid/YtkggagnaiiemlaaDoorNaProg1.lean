/-
  The program's own letter, digit, May and Number, by contract.
-/
import Derived.Test.YtkggagnaiiemlaaDoorNaUtf
namespace Go.Proofs.YtkggagnaiiemlaaDoor.Sh
open Go Go.RowKit

theorem letter_any (R : Nat) (hR : R ≤ 2147483647) (w : World) : Calls Tryd.prog 58 #[.int .i32 (R : Int)] w fun e w' => e = .returned (.bool (letN R)) ∧ w = w' := by
  by_cases h0 : 97 ≤ R
  · have h0' : 97 ≤ (R : Int) := by omega
    by_cases h1 : R ≤ 122
    · have h1' : (R : Int) ≤ 122 := by omega
      have HE : Hid (letN R = true) := hid (by unfold letN; simp; omega)
      go_enter Tryd.func58, Tryd.ntmps58
      go_wp2
      go_ret
      exact ⟨by rw [HE.out]; rfl, rfl⟩
    · have h1' : ¬ (R : Int) ≤ 122 := by omega
      have HE : Hid (letN R = false) := hid (by unfold letN; simp; omega)
      go_enter Tryd.func58, Tryd.ntmps58
      go_wp2
      go_ret
      exact ⟨by rw [HE.out]; rfl, rfl⟩
  · have h0' : ¬ 97 ≤ (R : Int) := by omega
    have HE : Hid (letN R = false) := hid (by unfold letN; simp; omega)
    go_enter Tryd.func58, Tryd.ntmps58
    go_wp2
    go_ret
    exact ⟨by rw [HE.out]; rfl, rfl⟩
theorem digit_any (R : Nat) (hR : R ≤ 2147483647) (w : World) : Calls Tryd.prog 59 #[.int .i32 (R : Int)] w fun e w' => e = .returned (.bool (digN R)) ∧ w = w' := by
  by_cases h0 : 48 ≤ R
  · have h0' : 48 ≤ (R : Int) := by omega
    by_cases h1 : R ≤ 57
    · have h1' : (R : Int) ≤ 57 := by omega
      have HE : Hid (digN R = true) := hid (by unfold digN; simp; omega)
      go_enter Tryd.func59, Tryd.ntmps59
      go_wp2
      go_ret
      exact ⟨by rw [HE.out]; rfl, rfl⟩
    · have h1' : ¬ (R : Int) ≤ 57 := by omega
      have HE : Hid (digN R = false) := hid (by unfold digN; simp; omega)
      go_enter Tryd.func59, Tryd.ntmps59
      go_wp2
      go_ret
      exact ⟨by rw [HE.out]; rfl, rfl⟩
  · have h0' : ¬ 48 ≤ (R : Int) := by omega
    have HE : Hid (digN R = false) := hid (by unfold digN; simp; omega)
    go_enter Tryd.func59, Tryd.ntmps59
    go_wp2
    go_ret
    exact ⟨by rw [HE.out]; rfl, rfl⟩

set_option maxHeartbeats 2000000 in
theorem may_any (s : ByteArray) (w : World) : Calls Tryd.prog 39 #[.string s] w fun e w' => e = .returned (.bool (mayL s.data.toList)) ∧ Below w.heap.size w w' := by
  obtain ⟨l, hl⟩ : ∃ l, s.data.toList = l := ⟨_, rfl⟩
  have hsz := size_list s
  rw [hl] at hsz ⊢
  have HL := hid hl
  have HSZ := hid hsz
  clear hl hsz
  go_enter Tryd.func39, Tryd.ntmps39
  go_wp2
  go_loopw [] (fun wr => ∃ k : Nat, k ≤ s.size ∧ Hid (∀ j x, j < k → l[j]? = some x → (letter x = true ∨ (0 < j ∧ digit x = true))) ∧ wr = w.iter s k) (fun wr => s.size - wr.iterPos w.heap.size)
  case atStart => exact ⟨0, by omega, hid (fun j x h => by omega), rfl⟩
  case round =>
    obtain ⟨k, hk, HP, rfl⟩ := hrel
    by_cases hlt : k < s.size
    · obtain ⟨x, hx⟩ : ∃ x, l[k]? = some x := ⟨_, List.getElem?_eq_getElem (by rw [HSZ.out]; exact hlt)⟩
      obtain ⟨R, Z, hN, hkZ, hZ, hR, hlow, hhigh, _⟩ := next_at s (k := k) (x := x) (by rw [HL.out]; exact hx)
      have hnx := hN Tryd.prog w
      have HX := hid hx
      have h1 := letN_of (fun h => (hlow h).1) hhigh
      have h2 := digN_of (fun h => (hlow h).1) hhigh
      have HZ : Hid (letter x = true ∨ digit x = true → Z = k + 1) := hid (fun h => (hlow (by unfold letter digit at h; simp at h; omega)).2)
      obtain ⟨b1, hb1⟩ : ∃ b, letter x = b := ⟨_, rfl⟩
      obtain ⟨b2, hb2⟩ : ∃ b, digit x = b := ⟨_, rfl⟩
      have C1 : Hid (∀ w, Calls Tryd.prog 58 #[.int .i32 (R : Int)] w fun e w' => e = .returned (.bool b1) ∧ w = w') := hid (fun w => by rw [← hb1, ← h1]; exact letter_any R hR w)
      have C2 : Hid (∀ w, Calls Tryd.prog 59 #[.int .i32 (R : Int)] w fun e w' => e = .returned (.bool b2) ∧ w = w') := hid (fun w => by rw [← hb2, ← h2]; exact digit_any R hR w)
      have HB1 := hid hb1
      have HB2 := hid hb2
      have hk00 : (0 : Int) ≤ (k : Int) := Int.natCast_nonneg _
      clear hx h1 h2 hb1 hb2 hlow hhigh hN
      go_wp2_with fail
      refine (C1.out _).mono ?_
      rintro er w2 ⟨rfl, rfl⟩
      cases b1 with
      | true =>
        have HO : Hid (∀ j x, j < k + 1 → l[j]? = some x → (letter x = true ∨ (0 < j ∧ digit x = true))) := hid (fun j z hj hz => by
          rcases Nat.lt_or_ge j k with h | h
          · exact HP.out j z h hz
          · obtain rfl : j = k := by omega
            rw [HX.out] at hz
            injection hz with hz
            subst hz
            exact .inl HB1.out)
        obtain rfl := HZ.out (.inl HB1.out)
        go_wp2
        go_roundw
        case rel => exact ⟨k + 1, by omega, HO, rfl⟩
        case measure => simp [World.iterPos_iter]; omega
      | false =>
        by_cases hk0 : k = 0
        · subst hk0
          have HF : Hid (mayL l = false) := hid (may_bad HX.out HB1.out (.inl rfl))
          go_wp2
          go_ret
          exact ⟨by rw [HF.out]; rfl, iter_below _ _ _⟩
        · have hk0' : (0 : Int) < (k : Int) := by omega
          go_wp2_with fail
          refine (C2.out _).mono ?_
          rintro er w2 ⟨rfl, rfl⟩
          cases b2 with
          | true =>
            have HO : Hid (∀ j x, j < k + 1 → l[j]? = some x → (letter x = true ∨ (0 < j ∧ digit x = true))) := hid (fun j z hj hz => by
              rcases Nat.lt_or_ge j k with h | h
              · exact HP.out j z h hz
              · obtain rfl : j = k := by omega
                rw [HX.out] at hz
                injection hz with hz
                subst hz
                exact .inr ⟨by omega, HB2.out⟩)
            obtain rfl := HZ.out (.inr HB2.out)
            go_wp2
            go_roundw
            case rel => exact ⟨k + 1, by omega, HO, rfl⟩
            case measure => simp [World.iterPos_iter]; omega
          | false =>
            have HF : Hid (mayL l = false) := hid (may_bad HX.out HB1.out (.inr HB2.out))
            go_wp2
            go_ret
            exact ⟨by rw [HF.out]; rfl, iter_below _ _ _⟩
    · obtain rfl : k = s.size := by omega
      have hnx := fun ty => run_next_end (P := Tryd.prog) w s s.size ty hlt
      have HT : Hid (mayL l = (decide (1 ≤ l.length) && decide (l.length ≤ 8))) := hid (may_end fun j x hx => HP.out j x (by have := (List.getElem?_eq_some_iff.1 hx).1; rwa [HSZ.out] at this) hx)
      by_cases g1 : 1 ≤ s.size
      · have g1' : (1 : Int) ≤ (s.size : Int) := by omega
        by_cases g8 : s.size ≤ 8
        · have g8' : (s.size : Int) ≤ 8 := by omega
          have HF : Hid (mayL l = true) := hid (by rw [HT.out, HSZ.out]; simp; omega)
          go_wp2
          go_ret
          exact ⟨by rw [HF.out]; rfl, iter_below _ _ _⟩
        · have g8' : ¬ (s.size : Int) ≤ 8 := by omega
          have HF : Hid (mayL l = false) := hid (by rw [HT.out, HSZ.out]; simp; omega)
          go_wp2
          go_ret
          exact ⟨by rw [HF.out]; rfl, iter_below _ _ _⟩
      · have g1' : ¬ (1 : Int) ≤ (s.size : Int) := by omega
        have HF : Hid (mayL l = false) := hid (by rw [HT.out, HSZ.out]; simp; omega)
        go_wp2
        go_ret
        exact ⟨by rw [HF.out]; rfl, iter_below _ _ _⟩
end Go.Proofs.YtkggagnaiiemlaaDoor.Sh
