/-
  The document's own May, Number, Domain.
-/
import Derived.Test.YtkggagnaiiemlaaDoorBaStr
import Derived.Test.YtkggagnaiiemlaaDoorNaMath
import Derived.Lib.Strings
import Derived.Laws.RangeAny
namespace Go.Proofs.YtkggagnaiiemlaaDoor.Sh
open Go Go.RowKit

/-- A byte of a text. -/
theorem sget (s : ByteArray) {j : Nat} {x : UInt8} (hx : s.data.toList[j]? = some x) : ∃ h : j < s.size, s[j]'h = x := by
  have h : j < s.data.toList.length := (List.getElem?_eq_some_iff.1 hx).1
  rw [size_list] at h
  refine ⟨h, ?_⟩
  have h2 := (List.getElem?_eq_some_iff.1 hx).2
  rw [← h2]
  rfl
def okName (y : UInt8) : Bool := letter y || digit y
theorem mayL_cons (x : UInt8) (t : List UInt8) : mayL (x :: t) = (letter x && t.all okName && decide (t.length ≤ 7)) := rfl

set_option maxHeartbeats 1000000 in
theorem refMay_any (s : ByteArray) (w : World) :
    Calls Tryd.prog 41 #[.string s] w fun e w' => e = .returned (.bool (mayL s.data.toList)) ∧ w = w' := by
  obtain ⟨l, hl⟩ : ∃ l, s.data.toList = l := ⟨_, rfl⟩
  have hsz := size_list s
  rw [hl] at hsz ⊢
  cases l with
  | nil =>
    have h1 : (s.size : Int) < 1 := by simp at hsz; omega
    go_enter Tryd.func41, Tryd.ntmps41
    go_wp2
    go_ret
    exact ⟨rfl, rfl⟩
  | cons x t =>
    have h1 : ¬ (s.size : Int) < 1 := by simp at hsz; omega
    have h10 : (0 : Int) < (s.size : Int) := by omega
    by_cases h8 : 8 < s.size
    · have h8' : (8 : Int) < (s.size : Int) := by omega
      have HE : Hid (mayL (x :: t) = false) := hid (by rw [mayL_cons]; have : ¬ t.length ≤ 7 := by simp at hsz; omega
                                                       simp [this])
      clear hsz hl
      go_enter Tryd.func41, Tryd.ntmps41
      go_wp2
      go_ret
      exact ⟨by rw [HE.out]; rfl, rfl⟩
    · have h8' : ¬ (8 : Int) < (s.size : Int) := by omega
      obtain ⟨h0, hx0⟩ := sget s (j := 0) (x := x) (by rw [hl]; rfl)
      have hx8 := lt8 x
      have HL := hid hl
      have HSZ := hid hsz
      clear hl hsz
      by_cases hlo : x.toNat < 97
      · have hlo' : (x.toNat : Int) < 97 := by omega
        have HE : Hid (mayL (x :: t) = false) := hid (by rw [mayL_cons]; have : letter x = false := by unfold letter; simp; omega
                                                         simp [this])
        go_enter Tryd.func41, Tryd.ntmps41
        go_wp2
        go_ret
        exact ⟨by rw [HE.out]; rfl, rfl⟩
      by_cases hhi : 122 < x.toNat
      · have hlo' : ¬ (x.toNat : Int) < 97 := by omega
        have hhi' : 122 < (x.toNat : Int) := by omega
        have HE : Hid (mayL (x :: t) = false) := hid (by rw [mayL_cons]; have : letter x = false := by unfold letter; simp; omega
                                                         simp [this])
        go_enter Tryd.func41, Tryd.ntmps41
        go_wp2
        go_ret
        exact ⟨by rw [HE.out]; rfl, rfl⟩
      have hlo' : ¬ (x.toNat : Int) < 97 := by omega
      have hhi' : ¬ 122 < (x.toNat : Int) := by omega
      have HE : Hid (mayL (x :: t) = t.all okName) := hid (by
        rw [mayL_cons]
        have e1 : letter x = true := by unfold letter; simp; omega
        have e2 : t.length ≤ 7 := by have := HSZ.out; simp at this; omega
        simp [e1, e2])
      have HTN : Hid (t.length + 1 = s.size) := hid (by have := HSZ.out; simpa using this)
      go_enter Tryd.func41, Tryd.ntmps41
      go_wp2
      go_loopw [3] (fun i wr => ∃ k : Nat, i = .int .i64 (k : Int) ∧ 1 ≤ k ∧ k ≤ s.size ∧ Hid ((t.take (k - 1)).all okName = true) ∧ w = wr) (fun i _ => s.size - (intOf i).toNat)
      case atStart => exact ⟨1, rfl, by omega, by omega, hid (by simp), rfl⟩
      case round =>
        obtain ⟨k, rfl, hk1, hk, HP, rfl⟩ := hrel
        by_cases hlt : k < s.size
        · obtain ⟨y, hy⟩ : ∃ y, t[k - 1]? = some y := ⟨_, List.getElem?_eq_getElem (by have := HTN.out; omega)⟩
          obtain ⟨hk2, hsy⟩ := sget s (j := k) (x := y) (by rw [HL.out, show k = k - 1 + 1 by omega, List.getElem?_cons_succ]; exact hy)
          have hy8 := lt8 y
          have hlt' : (k : Int) < (s.size : Int) := by omega
          have hk0 : (0 : Int) ≤ (k : Int) := Int.natCast_nonneg _
          have hok : okName y = true → (t.take (k + 1 - 1)).all okName = true := fun h => by
            rw [show k + 1 - 1 = k - 1 + 1 by omega, take_snoc_of hy, List.all_append, HP.out]
            simp [h]
          have hno : okName y = false → t.all okName = false := fun h => by
            rw [List.all_eq_false]
            exact ⟨y, List.mem_of_getElem? hy, by simp [h]⟩
          clear hy
          by_cases ha : y.toNat < 48
          · have fa0 : ¬ 97 ≤ (y.toNat : Int) := by omega
            have fa1 : ¬ 48 ≤ (y.toNat : Int) := by omega
            have HF : Hid (t.all okName = false) := hid (hno (by unfold okName letter digit; simp; omega))
            clear hok hno
            go_wp2
            go_ret
            exact ⟨by rw [HE.out, HF.out]; rfl, rfl⟩
          by_cases hb : y.toNat ≤ 57
          · have fb0 : ¬ 97 ≤ (y.toNat : Int) := by omega
            have fb1 : 48 ≤ (y.toNat : Int) := by omega
            have fb2 : (y.toNat : Int) ≤ 57 := by omega
            have HO : Hid ((t.take (k + 1 - 1)).all okName = true) := hid (hok (by unfold okName letter digit; simp; omega))
            clear hok hno
            go_wp2
            go_roundw
            case rel => exact ⟨k + 1, by go_num, by omega, by omega, HO, trivial⟩
            case measure => simp [intOf]; omega
          by_cases hc : y.toNat < 97
          · have fc0 : ¬ 97 ≤ (y.toNat : Int) := by omega
            have fc1 : 48 ≤ (y.toNat : Int) := by omega
            have fc2 : ¬ (y.toNat : Int) ≤ 57 := by omega
            have HF : Hid (t.all okName = false) := hid (hno (by unfold okName letter digit; simp; omega))
            clear hok hno
            go_wp2
            go_ret
            exact ⟨by rw [HE.out, HF.out]; rfl, rfl⟩
          by_cases hd : y.toNat ≤ 122
          · have fd0 : 97 ≤ (y.toNat : Int) := by omega
            have fd1 : (y.toNat : Int) ≤ 122 := by omega
            have fd2 : 48 ≤ (y.toNat : Int) := by omega
            have fd3 : ¬ (y.toNat : Int) ≤ 57 := by omega
            have HO : Hid ((t.take (k + 1 - 1)).all okName = true) := hid (hok (by unfold okName letter digit; simp; omega))
            clear hok hno
            go_wp2
            go_roundw
            case rel => exact ⟨k + 1, by go_num, by omega, by omega, HO, trivial⟩
            case measure => simp [intOf]; omega
          have fe0 : 97 ≤ (y.toNat : Int) := by omega
          have fe1 : ¬ (y.toNat : Int) ≤ 122 := by omega
          have fe2 : 48 ≤ (y.toNat : Int) := by omega
          have fe3 : ¬ (y.toNat : Int) ≤ 57 := by omega
          have HF : Hid (t.all okName = false) := hid (hno (by unfold okName letter digit; simp; omega))
          clear hok hno
          go_wp2
          go_ret
          exact ⟨by rw [HE.out, HF.out]; rfl, rfl⟩
        · obtain rfl : k = s.size := by omega
          have HO : Hid (t.all okName = true) := hid (by
            have := HP.out
            rwa [List.take_of_length_le (by have := HTN.out; omega)] at this)
          have hlt' : ¬ (s.size : Int) < (s.size : Int) := by omega
          go_wp2
          go_ret
          exact ⟨by rw [HE.out, HO.out]; rfl, rfl⟩
end Go.Proofs.YtkggagnaiiemlaaDoor.Sh
