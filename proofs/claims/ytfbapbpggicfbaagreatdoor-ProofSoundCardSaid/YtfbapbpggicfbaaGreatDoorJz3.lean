/-
  Names, domains and roles: what the document asks, on lists of bytes. Plain lemmas; nothing of the program.
-/
import Derived.WalkKit
import Derived.Test.YtfbapbpggicfbaaGreatDoorJz2
import Derived.Lib.Strings
import Derived.Laws.RangeAny
set_option linter.unusedVariables false
set_option linter.unusedSimpArgs false
namespace Go.Proofs.YtfbapbpggicfbaaGreatDoor.Sh

def letter (x : UInt8) : Bool := 97 ≤ x.toNat && x.toNat ≤ 122
def digit (x : UInt8) : Bool := 48 ≤ x.toNat && x.toNat ≤ 57
/-- A name. -/
def mayL (l : List UInt8) : Bool := match l with
  | [] => false
  | x :: t => letter x && t.all (fun y => letter y || digit y) && decide (t.length ≤ 7)
/-- The domain of a name, 0 if there is none. -/
def numL (l : List UInt8) : Nat := match l with
  | [d, x] => if d = 100 ∧ 49 ≤ x.toNat ∧ x.toNat ≤ 57 then x.toNat - 48 else 0
  | [d, x, y] => if d = 100 ∧ 49 ≤ x.toNat ∧ x.toNat ≤ 57 ∧ 48 ≤ y.toNat ∧ y.toNat ≤ 57 ∧ 10 * (x.toNat - 48) + (y.toNat - 48) ≤ 16 then 10 * (x.toNat - 48) + (y.toNat - 48) else 0
  | _ => 0
/-- The name of a domain, none if there is none. -/
def domL (n : Int) : List UInt8 :=
  if n < 1 ∨ 16 < n then []
  else if n < 10 then [100, UInt8.ofNat (48 + n.toNat)]
  else [100, 49, UInt8.ofNat (38 + n.toNat)]
def roleL (o n : List UInt8) : Bool := mayL n && decide (numL o ≠ 0)
/-- A text cut at its first '.'. -/
def cutDot : List UInt8 → Option (List UInt8 × List UInt8)
  | [] => none
  | x :: t => if x = 46 then some ([], t) else (cutDot t).map fun p => (x :: p.1, p.2)
/-- The role of a text. -/
def readL (l : List UInt8) : Option (List UInt8 × List UInt8) := (cutDot l).filter fun p => roleL p.1 p.2

theorem numL_domL (n : Int) (h1 : 1 ≤ n) (h2 : n ≤ 16) : numL (domL n) = n.toNat := by
  obtain ⟨k, rfl⟩ := Int.eq_ofNat_of_zero_le (show 0 ≤ n by omega)
  have hk1 : 1 ≤ k := by omega
  have hk2 : k ≤ 16 := by omega
  match k, hk1, hk2 with
  | 1, _, _ | 2, _, _ | 3, _, _ | 4, _, _ | 5, _, _ | 6, _, _ | 7, _, _ | 8, _, _ | 9, _, _ | 10, _, _ | 11, _, _ | 12, _, _ | 13, _, _ | 14, _, _ | 15, _, _ | 16, _, _ => decide +kernel
theorem domL_may (n : Int) (h1 : 1 ≤ n) (h2 : n ≤ 16) : mayL (domL n) = true := by
  obtain ⟨k, rfl⟩ := Int.eq_ofNat_of_zero_le (show 0 ≤ n by omega)
  have hk1 : 1 ≤ k := by omega
  have hk2 : k ≤ 16 := by omega
  match k, hk1, hk2 with
  | 1, _, _ | 2, _, _ | 3, _, _ | 4, _, _ | 5, _, _ | 6, _, _ | 7, _, _ | 8, _, _ | 9, _, _ | 10, _, _ | 11, _, _ | 12, _, _ | 13, _, _ | 14, _, _ | 15, _, _ | 16, _, _ => decide +kernel
theorem domL_none (n : Int) (h : n < 1 ∨ 16 < n) : domL n = [] := if_pos h
/-- No other name is a domain's. -/
theorem domL_numL (l : List UInt8) (h : numL l ≠ 0) : domL (numL l : Int) = l ∧ 1 ≤ numL l ∧ numL l ≤ 16 := by
  match l with
  | [] => exact absurd rfl h
  | [_] => exact absurd rfl h
  | [d, x] =>
    have hx : x.toNat < 256 := x.toNat_lt
    by_cases hc : d = 100 ∧ 49 ≤ x.toNat ∧ x.toNat ≤ 57
    · have e : numL [d, x] = x.toNat - 48 := if_pos hc
      rw [e]
      refine ⟨?_, by omega, by omega⟩
      unfold domL
      rw [if_neg (by omega), if_pos (by omega), hc.1]
      congr 2
      apply UInt8.toNat_inj.1
      rw [UInt8.toNat_ofNat']
      omega
    · exact absurd (if_neg hc) h
  | [d, x, y] =>
    have hy : y.toNat < 256 := y.toNat_lt
    by_cases hc : d = 100 ∧ 49 ≤ x.toNat ∧ x.toNat ≤ 57 ∧ 48 ≤ y.toNat ∧ y.toNat ≤ 57 ∧ 10 * (x.toNat - 48) + (y.toNat - 48) ≤ 16
    · have e : numL [d, x, y] = 10 * (x.toNat - 48) + (y.toNat - 48) := if_pos hc
      rw [e]
      refine ⟨?_, by omega, by omega⟩
      unfold domL
      have hx : x = 49 := UInt8.toNat_inj.1 (by show x.toNat = 49; omega)
      rw [if_neg (by omega), if_neg (by omega), hc.1, hx]
      congr 3
      apply UInt8.toNat_inj.1
      rw [UInt8.toNat_ofNat']
      subst hx
      have h49 : (49 : UInt8).toNat = 49 := rfl
      rw [h49] at hc ⊢
      omega
    · exact absurd (if_neg hc) h
  | _ :: _ :: _ :: _ :: _ => exact absurd rfl h
theorem domL_dot (n : Nat) (h2 : n ≤ 16) : ∀ x ∈ domL (n : Int), x ≠ 46 := by
  have h : ∀ k : Fin 17, ∀ x ∈ domL (k.val : Int), x ≠ 46 := by decide +kernel
  exact h ⟨n, by omega⟩
/-- No name has a '.'. -/
theorem no_dot_num {l : List UInt8} (h : numL l ≠ 0) : ∀ x ∈ l, x ≠ 46 := by
  obtain ⟨h1, _, h3⟩ := domL_numL l h
  rw [← h1]
  exact domL_dot _ h3
theorem cutDot_join (o n : List UInt8) (h : ∀ x ∈ o, x ≠ 46) : cutDot (o ++ 46 :: n) = some (o, n) := by
  induction o with
  | nil => rfl
  | cons x t ih =>
    have hx : x ≠ 46 := h x (by simp)
    simp only [List.cons_append, cutDot]
    rw [if_neg hx, ih (fun y hy => h y (by simp [hy]))]
    rfl
theorem cutDot_some {l o n : List UInt8} (h : cutDot l = some (o, n)) : l = o ++ 46 :: n ∧ ∀ x ∈ o, x ≠ 46 := by
  induction l generalizing o n with
  | nil => simp [cutDot] at h
  | cons x t ih =>
    simp only [cutDot] at h
    split at h
    · rename_i hx
      simp only [Option.some.injEq, Prod.mk.injEq] at h
      obtain ⟨rfl, rfl⟩ := h
      exact ⟨by rw [hx]; rfl, fun _ h => absurd h (by simp)⟩
    · rename_i hx
      rw [Option.map_eq_some_iff] at h
      obtain ⟨⟨a, b⟩, h1, h2⟩ := h
      simp only [Prod.mk.injEq] at h2
      obtain ⟨rfl, rfl⟩ := h2
      obtain ⟨h3, h4⟩ := ih h1
      refine ⟨by rw [h3]; rfl, fun y hy => ?_⟩
      rcases List.mem_cons.1 hy with rfl | hy
      · exact hx
      · exact h4 y hy
theorem cutDot_none {l : List UInt8} : cutDot l = none ↔ ∀ x ∈ l, x ≠ 46 := by
  induction l with
  | nil => simp [cutDot]
  | cons x t ih =>
    simp only [cutDot]
    by_cases hx : x = 46
    · simp [hx]
    · rw [if_neg hx]
      simp [ih, hx]
/-- A role is read from its text. -/
theorem readL_text {o n : List UInt8} (h : roleL o n = true) : readL (o ++ 46 :: n) = some (o, n) := by
  have h2 := h
  unfold roleL at h2
  simp only [Bool.and_eq_true, decide_eq_true_eq] at h2
  unfold readL
  rw [cutDot_join o n (no_dot_num h2.2)]
  simp [Option.filter, h]
/-- No other text has it. -/
theorem readL_some {l o n : List UInt8} (h : readL l = some (o, n)) : l = o ++ 46 :: n ∧ roleL o n = true := by
  unfold readL at h
  rw [Option.filter_eq_some_iff] at h
  exact ⟨(cutDot_some h.1).1, h.2⟩
/-- Of a text with its first '.' at i. -/
theorem cutDot_at {l : List UInt8} {i : Nat} (h : ∀ x ∈ l.take i, x ≠ 46) (hi : l[i]? = some 46) : cutDot l = some (l.take i, l.drop (i + 1)) := by
  have hl : l = l.take i ++ 46 :: l.drop (i + 1) := by
    have h2 : i < l.length := (List.getElem?_eq_some_iff.1 hi).1
    have h3 : l[i] = 46 := (List.getElem?_eq_some_iff.1 hi).2
    rw [← h3, List.getElem_cons_drop, List.take_append_drop]
  conv => lhs; rw [hl]
  exact cutDot_join _ _ h
end Go.Proofs.YtfbapbpggicfbaaGreatDoor.Sh
/-
  The document's own May, Number, Domain.
-/
namespace Go.Proofs.YtfbapbpggicfbaaGreatDoor.Sh
open Go Go.RowKit

/-- A byte of a text. -/
theorem sget (s : ByteArray) {j : Nat} {x : UInt8} (hx : s.data.toList[j]? = some x) : ∃ h : j < s.size, s[j]'h = x := by
  have h : j < s.data.toList.length := (List.getElem?_eq_some_iff.1 hx).1
  rw [size_list] at h
  refine ⟨h, ?_⟩
  have h2 := (List.getElem?_eq_some_iff.1 hx).2
  rw [← h2]
  rfl
def okName (y : UInt8) : Bool := letter y || digit y
theorem mayL_cons (x : UInt8) (t : List UInt8) : mayL (x :: t) = (letter x && t.all okName && decide (t.length ≤ 7)) := rfl

set_option maxHeartbeats 1000000 in
theorem refMay_any (s : ByteArray) (w : World) :
    Calls Tryz.prog 73 #[.string s] w fun e w' => e = .returned (.bool (mayL s.data.toList)) ∧ w = w' := by
  obtain ⟨l, hl⟩ : ∃ l, s.data.toList = l := ⟨_, rfl⟩
  have hsz := size_list s
  rw [hl] at hsz ⊢
  cases l with
  | nil =>
    have h1 : (s.size : Int) < 1 := by simp at hsz; omega
    go_enter Tryz.func73, Tryz.ntmps73
    go_wp2
    go_ret
    exact ⟨rfl, rfl⟩
  | cons x t =>
    have h1 : ¬ (s.size : Int) < 1 := by simp at hsz; omega
    have h10 : (0 : Int) < (s.size : Int) := by omega
    by_cases h8 : 8 < s.size
    · have h8' : (8 : Int) < (s.size : Int) := by omega
      have HE : Hid (mayL (x :: t) = false) := hid (by rw [mayL_cons]; have : ¬ t.length ≤ 7 := by simp at hsz; omega
                                                       simp [this])
      clear hsz hl
      go_enter Tryz.func73, Tryz.ntmps73
      go_wp2
      go_ret
      exact ⟨by rw [HE.out]; rfl, rfl⟩
    · have h8' : ¬ (8 : Int) < (s.size : Int) := by omega
      obtain ⟨h0, hx0⟩ := sget s (j := 0) (x := x) (by rw [hl]; rfl)
      have hx8 := lt8 x
      have HL := hid hl
      have HSZ := hid hsz
      clear hl hsz
      by_cases hlo : x.toNat < 97
      · have hlo' : (x.toNat : Int) < 97 := by omega
        have HE : Hid (mayL (x :: t) = false) := hid (by rw [mayL_cons]; have : letter x = false := by unfold letter; simp; omega
                                                         simp [this])
        go_enter Tryz.func73, Tryz.ntmps73
        go_wp2
        go_ret
        exact ⟨by rw [HE.out]; rfl, rfl⟩
      by_cases hhi : 122 < x.toNat
      · have hlo' : ¬ (x.toNat : Int) < 97 := by omega
        have hhi' : 122 < (x.toNat : Int) := by omega
        have HE : Hid (mayL (x :: t) = false) := hid (by rw [mayL_cons]; have : letter x = false := by unfold letter; simp; omega
                                                         simp [this])
        go_enter Tryz.func73, Tryz.ntmps73
        go_wp2
        go_ret
        exact ⟨by rw [HE.out]; rfl, rfl⟩
      have hlo' : ¬ (x.toNat : Int) < 97 := by omega
      have hhi' : ¬ 122 < (x.toNat : Int) := by omega
      have HE : Hid (mayL (x :: t) = t.all okName) := hid (by
        rw [mayL_cons]
        have e1 : letter x = true := by unfold letter; simp; omega
        have e2 : t.length ≤ 7 := by have := HSZ.out; simp at this; omega
        simp [e1, e2])
      have HTN : Hid (t.length + 1 = s.size) := hid (by have := HSZ.out; simpa using this)
      go_enter Tryz.func73, Tryz.ntmps73
      go_wp2
      go_loopw [3] (fun i wr => ∃ k : Nat, i = .int .i64 (k : Int) ∧ 1 ≤ k ∧ k ≤ s.size ∧ Hid ((t.take (k - 1)).all okName = true) ∧ w = wr) (fun i _ => s.size - (intOf i).toNat)
      case atStart => exact ⟨1, rfl, by omega, by omega, hid (by simp), rfl⟩
      case round =>
        obtain ⟨k, rfl, hk1, hk, HP, rfl⟩ := hrel
        by_cases hlt : k < s.size
        · obtain ⟨y, hy⟩ : ∃ y, t[k - 1]? = some y := ⟨_, List.getElem?_eq_getElem (by have := HTN.out; omega)⟩
          obtain ⟨hk2, hsy⟩ := sget s (j := k) (x := y) (by rw [HL.out, show k = k - 1 + 1 by omega, List.getElem?_cons_succ]; exact hy)
          have hy8 := lt8 y
          have hlt' : (k : Int) < (s.size : Int) := by omega
          have hk0 : (0 : Int) ≤ (k : Int) := Int.natCast_nonneg _
          have hok : okName y = true → (t.take (k + 1 - 1)).all okName = true := fun h => by
            rw [show k + 1 - 1 = k - 1 + 1 by omega, take_snoc_of hy, List.all_append, HP.out]
            simp [h]
          have hno : okName y = false → t.all okName = false := fun h => by
            rw [List.all_eq_false]
            exact ⟨y, List.mem_of_getElem? hy, by simp [h]⟩
          clear hy
          by_cases ha : y.toNat < 48
          · have fa0 : ¬ 97 ≤ (y.toNat : Int) := by omega
            have fa1 : ¬ 48 ≤ (y.toNat : Int) := by omega
            have HF : Hid (t.all okName = false) := hid (hno (by unfold okName letter digit; simp; omega))
            clear hok hno
            go_wp2
            go_ret
            exact ⟨by rw [HE.out, HF.out]; rfl, rfl⟩
          by_cases hb : y.toNat ≤ 57
          · have fb0 : ¬ 97 ≤ (y.toNat : Int) := by omega
            have fb1 : 48 ≤ (y.toNat : Int) := by omega
            have fb2 : (y.toNat : Int) ≤ 57 := by omega
            have HO : Hid ((t.take (k + 1 - 1)).all okName = true) := hid (hok (by unfold okName letter digit; simp; omega))
            clear hok hno
            go_wp2
            go_roundw
            case rel => exact ⟨k + 1, by go_num, by omega, by omega, HO, trivial⟩
            case measure => simp [intOf]; omega
          by_cases hc : y.toNat < 97
          · have fc0 : ¬ 97 ≤ (y.toNat : Int) := by omega
            have fc1 : 48 ≤ (y.toNat : Int) := by omega
            have fc2 : ¬ (y.toNat : Int) ≤ 57 := by omega
            have HF : Hid (t.all okName = false) := hid (hno (by unfold okName letter digit; simp; omega))
            clear hok hno
            go_wp2
            go_ret
            exact ⟨by rw [HE.out, HF.out]; rfl, rfl⟩
          by_cases hd : y.toNat ≤ 122
          · have fd0 : 97 ≤ (y.toNat : Int) := by omega
            have fd1 : (y.toNat : Int) ≤ 122 := by omega
            have fd2 : 48 ≤ (y.toNat : Int) := by omega
            have fd3 : ¬ (y.toNat : Int) ≤ 57 := by omega
            have HO : Hid ((t.take (k + 1 - 1)).all okName = true) := hid (hok (by unfold okName letter digit; simp; omega))
            clear hok hno
            go_wp2
            go_roundw
            case rel => exact ⟨k + 1, by go_num, by omega, by omega, HO, trivial⟩
            case measure => simp [intOf]; omega
          have fe0 : 97 ≤ (y.toNat : Int) := by omega
          have fe1 : ¬ (y.toNat : Int) ≤ 122 := by omega
          have fe2 : 48 ≤ (y.toNat : Int) := by omega
          have fe3 : ¬ (y.toNat : Int) ≤ 57 := by omega
          have HF : Hid (t.all okName = false) := hid (hno (by unfold okName letter digit; simp; omega))
          clear hok hno
          go_wp2
          go_ret
          exact ⟨by rw [HE.out, HF.out]; rfl, rfl⟩
        · obtain rfl : k = s.size := by omega
          have HO : Hid (t.all okName = true) := hid (by
            have := HP.out
            rwa [List.take_of_length_le (by have := HTN.out; omega)] at this)
          have hlt' : ¬ (s.size : Int) < (s.size : Int) := by omega
          go_wp2
          go_ret
          exact ⟨by rw [HE.out, HO.out]; rfl, rfl⟩
end Go.Proofs.YtfbapbpggicfbaaGreatDoor.Sh
/-
  The document's own Number and Domain.
-/
namespace Go.Proofs.YtfbapbpggicfbaaGreatDoor.Sh
open Go Go.RowKit

theorem numL_two (d x : UInt8) : numL [d, x] = if d = 100 ∧ 49 ≤ x.toNat ∧ x.toNat ≤ 57 then x.toNat - 48 else 0 := rfl
theorem numL_three (d x y : UInt8) : numL [d, x, y] = if d = 100 ∧ 49 ≤ x.toNat ∧ x.toNat ≤ 57 ∧ 48 ≤ y.toNat ∧ y.toNat ≤ 57 ∧ 10 * (x.toNat - 48) + (y.toNat - 48) ≤ 16 then 10 * (x.toNat - 48) + (y.toNat - 48) else 0 := rfl
theorem ne100 {d : UInt8} (h : ¬ d.toNat = 100) : ¬ d = 100 := fun e => h (by rw [e]; rfl)

set_option maxHeartbeats 2000000 in
theorem refNnum_any (s : ByteArray) (w : World) :
    Calls Tryz.prog 79 #[.string s] w fun e w' => e = .returned (.int .i64 (numL s.data.toList : Int)) ∧ w = w' := by
  obtain ⟨l, hl⟩ : ∃ l, s.data.toList = l := ⟨_, rfl⟩
  have hsz := size_list s
  rw [hl] at hsz ⊢
  match l with
  | [] =>
    have h1 : (s.size : Int) < 2 := by simp at hsz; omega
    have HE : Hid (numL [] = 0) := hid rfl
    go_enter Tryz.func79, Tryz.ntmps79
    go_wp2
    go_ret
    exact ⟨by rw [HE.out]; rfl, rfl⟩
  | [d] =>
    have h1 : (s.size : Int) < 2 := by simp at hsz; omega
    have HE : Hid (numL [d] = 0) := hid rfl
    go_enter Tryz.func79, Tryz.ntmps79
    go_wp2
    go_ret
    exact ⟨by rw [HE.out]; rfl, rfl⟩
  | d :: x :: y :: z :: t =>
    have h1 : ¬ (s.size : Int) < 2 := by simp at hsz; omega
    have h3 : (3 : Int) < (s.size : Int) := by simp at hsz; omega
    have HE : Hid (numL (d :: x :: y :: z :: t) = 0) := hid rfl
    clear hl hsz
    go_enter Tryz.func79, Tryz.ntmps79
    go_wp2
    go_ret
    exact ⟨by rw [HE.out]; rfl, rfl⟩
  | [d, x] =>
    have hs2 : (s.size : Int) = 2 := by simp at hsz; omega
    obtain ⟨p0, e0⟩ := sget s (j := 0) (x := d) (by rw [hl]; rfl)
    obtain ⟨p1, e1⟩ := sget s (j := 1) (x := x) (by rw [hl]; rfl)
    have hd8 := lt8 d
    have hx8 := lt8 x
    clear hl hsz
    by_cases hd : ¬ d.toNat = 100
    · have HE : Hid (numL [d, x] = 0) := hid (by rw [numL_two]; exact if_neg (fun h => ne100 hd h.1))
      have ghd0 : ¬ (d.toNat : Int) = 100 := by omega
      go_enter Tryz.func79, Tryz.ntmps79
      go_wp2
      go_ret
      exact ⟨by rw [HE.out]; rfl, rfl⟩
    have khd0 : (d.toNat : Int) = 100 := by omega
    by_cases hx : x.toNat < 49
    · have HE : Hid (numL [d, x] = 0) := hid (by rw [numL_two]; exact if_neg (by omega))
      have ghx0 : (x.toNat : Int) < 49 := by omega
      go_enter Tryz.func79, Tryz.ntmps79
      go_wp2
      go_ret
      exact ⟨by rw [HE.out]; rfl, rfl⟩
    have khx0 : ¬ (x.toNat : Int) < 49 := by omega
    by_cases hxx : 57 < x.toNat
    · have HE : Hid (numL [d, x] = 0) := hid (by rw [numL_two]; exact if_neg (by omega))
      have ghxx0 : 57 < (x.toNat : Int) := by omega
      go_enter Tryz.func79, Tryz.ntmps79
      go_wp2
      go_ret
      exact ⟨by rw [HE.out]; rfl, rfl⟩
    have khxx0 : ¬ 57 < (x.toNat : Int) := by omega
    have HE : Hid (numL [d, x] = x.toNat - 48) := hid (by rw [numL_two]; exact if_pos ⟨UInt8.toNat_inj.1 (by show d.toNat = 100; omega), by omega, by omega⟩)
    have h16 : ¬ (16 : Int) < (x.toNat : Int) - 48 := by omega
    have ux : ((x.toNat : Int) - 48) % 256 = (x.toNat : Int) - 48 := by omega
    go_enter Tryz.func79, Tryz.ntmps79
    go_wp2
    go_ret
    exact ⟨ret_int (by rw [HE.out]; omega), rfl⟩
  | [d, x, y] =>
    have hs3 : (s.size : Int) = 3 := by simp at hsz; omega
    obtain ⟨p0, e0⟩ := sget s (j := 0) (x := d) (by rw [hl]; rfl)
    obtain ⟨p1, e1⟩ := sget s (j := 1) (x := x) (by rw [hl]; rfl)
    obtain ⟨p2, e2⟩ := sget s (j := 2) (x := y) (by rw [hl]; rfl)
    have hd8 := lt8 d
    have hx8 := lt8 x
    have hy8 := lt8 y
    clear hl hsz
    by_cases hd : ¬ d.toNat = 100
    · have HE : Hid (numL [d, x, y] = 0) := hid (by rw [numL_three]; exact if_neg (fun h => ne100 hd h.1))
      have ghd0 : ¬ (d.toNat : Int) = 100 := by omega
      go_enter Tryz.func79, Tryz.ntmps79
      go_wp2
      go_ret
      exact ⟨by rw [HE.out]; rfl, rfl⟩
    have khd0 : (d.toNat : Int) = 100 := by omega
    by_cases hx : x.toNat < 49
    · have HE : Hid (numL [d, x, y] = 0) := hid (by rw [numL_three]; exact if_neg (by omega))
      have ghx0 : (x.toNat : Int) < 49 := by omega
      go_enter Tryz.func79, Tryz.ntmps79
      go_wp2
      go_ret
      exact ⟨by rw [HE.out]; rfl, rfl⟩
    have khx0 : ¬ (x.toNat : Int) < 49 := by omega
    by_cases hxx : 57 < x.toNat
    · have HE : Hid (numL [d, x, y] = 0) := hid (by rw [numL_three]; exact if_neg (by omega))
      have ghxx0 : 57 < (x.toNat : Int) := by omega
      go_enter Tryz.func79, Tryz.ntmps79
      go_wp2
      go_ret
      exact ⟨by rw [HE.out]; rfl, rfl⟩
    have khxx0 : ¬ 57 < (x.toNat : Int) := by omega
    by_cases hy : y.toNat < 48
    · have HE : Hid (numL [d, x, y] = 0) := hid (by rw [numL_three]; exact if_neg (by omega))
      have ghy0 : (y.toNat : Int) < 48 := by omega
      have ux : ((x.toNat : Int) - 48) % 256 = (x.toNat : Int) - 48 := by omega
      go_enter Tryz.func79, Tryz.ntmps79
      go_wp2
      go_ret
      exact ⟨by rw [HE.out]; rfl, rfl⟩
    have khy0 : ¬ (y.toNat : Int) < 48 := by omega
    by_cases hyy : 57 < y.toNat
    · have HE : Hid (numL [d, x, y] = 0) := hid (by rw [numL_three]; exact if_neg (by omega))
      have ghyy0 : 57 < (y.toNat : Int) := by omega
      have ux : ((x.toNat : Int) - 48) % 256 = (x.toNat : Int) - 48 := by omega
      go_enter Tryz.func79, Tryz.ntmps79
      go_wp2
      go_ret
      exact ⟨by rw [HE.out]; rfl, rfl⟩
    have khyy0 : ¬ 57 < (y.toNat : Int) := by omega
    by_cases hbig : 16 < 10 * (x.toNat - 48) + (y.toNat - 48)
    · have HE : Hid (numL [d, x, y] = 0) := hid (by rw [numL_three]; exact if_neg (by omega))
      have ghbig0 : (16 : Int) < 10 * ((x.toNat : Int) - 48) + ((y.toNat : Int) - 48) := by omega
      have ux : ((x.toNat : Int) - 48) % 256 = (x.toNat : Int) - 48 := by omega
      have uy : ((y.toNat : Int) - 48) % 256 = (y.toNat : Int) - 48 := by omega
      go_enter Tryz.func79, Tryz.ntmps79
      go_wp2
      go_ret
      exact ⟨by rw [HE.out]; rfl, rfl⟩
    have khbig0 : ¬ (16 : Int) < 10 * ((x.toNat : Int) - 48) + ((y.toNat : Int) - 48) := by omega
    have HE : Hid (numL [d, x, y] = 10 * (x.toNat - 48) + (y.toNat - 48)) := hid (by rw [numL_three]; exact if_pos ⟨UInt8.toNat_inj.1 (by show d.toNat = 100; omega), by omega, by omega, by omega, by omega, by omega⟩)
    have ux : ((x.toNat : Int) - 48) % 256 = (x.toNat : Int) - 48 := by omega
    have uy : ((y.toNat : Int) - 48) % 256 = (y.toNat : Int) - 48 := by omega
    go_enter Tryz.func79, Tryz.ntmps79
    go_wp2
    go_ret
    exact ⟨ret_int (by rw [HE.out]; omega), rfl⟩
end Go.Proofs.YtfbapbpggicfbaaGreatDoor.Sh
/-
  The document's own Domain, Text, Less.
-/
namespace Go.Proofs.YtfbapbpggicfbaaGreatDoor.Sh
open Go Go.RowKit

theorem conv_one (w : World) (x : UInt8) (z : Int) (hz : z = (x.toNat : Int)) (src t : TypeId) (fr : Nat × Nat) (c : Nat) (hs : Tryz.prog.underlying src = some (.slice 5)) :
    (convert src 9 (.slice (some ⟨w.heap.size, 0, none⟩) 1 c)).run Tryz.prog (w.alloc (.cells #[.int .u8 z] t fr)) = .ok (.string ⟨[x].toArray⟩) (w.alloc (.cells #[.int .u8 z] t fr)) := by
  subst hz
  refine run_convert_bytes_back _ src 9 5 _ c [x] hs Tryz.underlying5 Tryz.underlying9 (fun j hj => ?_)
  obtain ⟨ad, he, hc⟩ := reads_one w x t fr (by simp [bv])
  obtain rfl := Option.some.inj he
  have hj0 : j = 0 := by simp at hj; omega
  subst hj0
  exact hc 0 _ rfl
theorem refDomain_any (n : Int) (h0 : -9223372036854775808 ≤ n) (h1 : n < 9223372036854775808) (w : World) :
    Calls Tryz.prog 93 #[.int .i64 n] w fun e w' => e = .returned (.string ⟨(domL n).toArray⟩) ∧ Below w.heap.size w w' := by
  by_cases hlo : n < 1
  · have HE := hid (domL_none n (.inl hlo))
    go_enter Tryz.func93, Tryz.ntmps93
    go_wp2
    go_ret
    exact ⟨by rw [HE.out]; rfl, Below.refl _ _⟩
  by_cases hhi : 16 < n
  · have HE := hid (domL_none n (.inr hhi))
    go_enter Tryz.func93, Tryz.ntmps93
    go_wp2
    go_ret
    exact ⟨by rw [HE.out]; rfl, Below.refl _ _⟩
  have e1 : (48 + n) % 256 = 48 + n := by omega
  by_cases h9 : n < 10
  · obtain ⟨x, hx⟩ : ∃ x, x = UInt8.ofNat (48 + n.toNat) := ⟨_, rfl⟩
    have hz : 48 + n = (x.toNat : Int) := by rw [hx, UInt8.toNat_ofNat']; omega
    have HE : Hid (domL n = [100, x]) := hid (by unfold domL; rw [if_neg (by omega), if_pos h9, hx])
    have hcv := conv_one w x (48 + n) hz 141 5 (0, 0) 1 Tryz.underlying141
    clear hx hz
    go_enter Tryz.func93, Tryz.ntmps93
    go_wp2
    go_ret
    exact ⟨by rw [HE.out]; rfl, (Below.refl _ _).alloc (Nat.le_refl _) _⟩
  · obtain ⟨x, hx⟩ : ∃ x, x = UInt8.ofNat (38 + n.toNat) := ⟨_, rfl⟩
    have hz : 48 + n - 10 = (x.toNat : Int) := by rw [hx, UInt8.toNat_ofNat']; omega
    have e2 : (48 + n - 10) % 256 = 48 + n - 10 := by omega
    have HE : Hid (domL n = [100, 49, x]) := hid (by unfold domL; rw [if_neg (by omega), if_neg h9, hx])
    have hcv := conv_one w x (48 + n - 10) hz 141 5 (0, 0) 1 Tryz.underlying141
    clear hx hz
    go_enter Tryz.func93, Tryz.ntmps93
    go_wp2
    go_ret
    exact ⟨by rw [HE.out]; rfl, (Below.refl _ _).alloc (Nat.le_refl _) _⟩

/-- The text of a role. -/
def textB (o n : ByteArray) : ByteArray := o ++ ⟨#[46]⟩ ++ n
theorem textB_list (o n : ByteArray) : (textB o n).data.toList = o.data.toList ++ 46 :: n.data.toList := by
  unfold textB
  simp [ByteArray.data_append]
theorem refRole_any (o n : ByteArray) (w : World) :
    Calls Tryz.prog 74 #[.agg #[.string o, .string n]] w fun e w' => e = .returned (.bool (roleL o.data.toList n.data.toList)) ∧ Below w.heap.size w w' := by
  have HM := hid (fun w => refMay_any n w)
  have HN := hid (fun w => refNnum_any o w)
  obtain ⟨m, hm⟩ : ∃ m, mayL n.data.toList = m := ⟨_, rfl⟩
  obtain ⟨k, hk⟩ : ∃ k, numL o.data.toList = k := ⟨_, rfl⟩
  rw [hm] at HM
  rw [hk] at HN
  have HR : Hid (roleL o.data.toList n.data.toList = (m && decide (k ≠ 0))) := hid (by unfold roleL; rw [hm, hk])
  clear hm hk
  go_enter Tryz.func74, Tryz.ntmps74
  go_wp2_with fail
  refine (HM.out _).mono ?_
  rintro er w2 ⟨rfl, rfl⟩
  cases m with
  | false =>
    go_wp2
    go_ret
    exact ⟨by rw [HR.out]; rfl, (Below.refl _ _).alloc (Nat.le_refl _) _⟩
  | true =>
    go_wp2_with fail
    refine (HN.out _).mono ?_
    rintro er w2 ⟨rfl, rfl⟩
    by_cases hk : k = 0
    · subst hk
      go_wp2
      go_ret
      exact ⟨by rw [HR.out]; rfl, (Below.refl _ _).alloc (Nat.le_refl _) _⟩
    · have hk' : ¬ (k : Int) = 0 := by omega
      have HK : Hid (decide (k ≠ 0) = true) := hid (by simp [hk])
      go_wp2
      go_ret
      exact ⟨by rw [HR.out, HK.out]; simp [hk], (Below.refl _ _).alloc (Nat.le_refl _) _⟩
end Go.Proofs.YtfbapbpggicfbaaGreatDoor.Sh
