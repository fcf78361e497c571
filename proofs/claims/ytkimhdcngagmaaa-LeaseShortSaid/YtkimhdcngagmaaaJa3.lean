/-
  The document's own May, Number, Domain.
-/
import Derived.Test.YtkimhdcngagmaaaJa2
import Derived.Lib.Strings
import Derived.Laws.RangeAny
set_option linter.unusedVariables false
set_option linter.unusedSimpArgs false
namespace Go.Proofs.Ytkimhdcngagmaaa.Sh
open Go Go.RowKit

/-- A byte of a text. -/
theorem sget (s : ByteArray) {j : Nat} {x : UInt8} (hx : s.data.toList[j]? = some x) : ∃ h : j < s.size, s[j]'h = x := by
  have h : j < s.data.toList.length := (List.getElem?_eq_some_iff.1 hx).1
  rw [size_list] at h
  refine ⟨h, ?_⟩
  have h2 := (List.getElem?_eq_some_iff.1 hx).2
  rw [← h2]
  rfl
def okName (y : UInt8) : Bool := letter y || digit y
theorem mayL_cons (x : UInt8) (t : List UInt8) : mayL (x :: t) = (letter x && t.all okName && decide (t.length ≤ 7)) := rfl

set_option maxHeartbeats 1000000 in
theorem refMay_any (s : ByteArray) (w : World) :
    Calls Try.prog 48 #[.string s] w fun e w' => e = .returned (.bool (mayL s.data.toList)) ∧ w = w' := by
  obtain ⟨l, hl⟩ : ∃ l, s.data.toList = l := ⟨_, rfl⟩
  have hsz := size_list s
  rw [hl] at hsz ⊢
  cases l with
  | nil =>
    have h1 : (s.size : Int) < 1 := by simp at hsz; omega
    go_enter Try.func48, Try.ntmps48
    go_wp2
    go_ret
    exact ⟨rfl, rfl⟩
  | cons x t =>
    have h1 : ¬ (s.size : Int) < 1 := by simp at hsz; omega
    have h10 : (0 : Int) < (s.size : Int) := by omega
    by_cases h8 : 8 < s.size
    · have h8' : (8 : Int) < (s.size : Int) := by omega
      have HE : Hid (mayL (x :: t) = false) := hid (by rw [mayL_cons]; have : ¬ t.length ≤ 7 := by simp at hsz; omega
                                                       simp [this])
      clear hsz hl
      go_enter Try.func48, Try.ntmps48
      go_wp2
      go_ret
      exact ⟨by rw [HE.out]; rfl, rfl⟩
    · have h8' : ¬ (8 : Int) < (s.size : Int) := by omega
      obtain ⟨h0, hx0⟩ := sget s (j := 0) (x := x) (by rw [hl]; rfl)
      have hx8 := lt8 x
      have HL := hid hl
      have HSZ := hid hsz
      clear hl hsz
      by_cases hlo : x.toNat < 97
      · have hlo' : (x.toNat : Int) < 97 := by omega
        have HE : Hid (mayL (x :: t) = false) := hid (by rw [mayL_cons]; have : letter x = false := by unfold letter; simp; omega
                                                         simp [this])
        go_enter Try.func48, Try.ntmps48
        go_wp2
        go_ret
        exact ⟨by rw [HE.out]; rfl, rfl⟩
      by_cases hhi : 122 < x.toNat
      · have hlo' : ¬ (x.toNat : Int) < 97 := by omega
        have hhi' : 122 < (x.toNat : Int) := by omega
        have HE : Hid (mayL (x :: t) = false) := hid (by rw [mayL_cons]; have : letter x = false := by unfold letter; simp; omega
                                                         simp [this])
        go_enter Try.func48, Try.ntmps48
        go_wp2
        go_ret
        exact ⟨by rw [HE.out]; rfl, rfl⟩
      have hlo' : ¬ (x.toNat : Int) < 97 := by omega
      have hhi' : ¬ 122 < (x.toNat : Int) := by omega
      have HE : Hid (mayL (x :: t) = t.all okName) := hid (by
        rw [mayL_cons]
        have e1 : letter x = true := by unfold letter; simp; omega
        have e2 : t.length ≤ 7 := by have := HSZ.out; simp at this; omega
        simp [e1, e2])
      have HTN : Hid (t.length + 1 = s.size) := hid (by have := HSZ.out; simpa using this)
      go_enter Try.func48, Try.ntmps48
      go_wp2
      go_loopw [3] (fun i wr => ∃ k : Nat, i = .int .i64 (k : Int) ∧ 1 ≤ k ∧ k ≤ s.size ∧ Hid ((t.take (k - 1)).all okName = true) ∧ w = wr) (fun i _ => s.size - (intOf i).toNat)
      case atStart => exact ⟨1, rfl, by omega, by omega, hid (by simp), rfl⟩
      case round =>
        obtain ⟨k, rfl, hk1, hk, HP, rfl⟩ := hrel
        by_cases hlt : k < s.size
        · obtain ⟨y, hy⟩ : ∃ y, t[k - 1]? = some y := ⟨_, List.getElem?_eq_getElem (by have := HTN.out; omega)⟩
          obtain ⟨hk2, hsy⟩ := sget s (j := k) (x := y) (by rw [HL.out, show k = k - 1 + 1 by omega, List.getElem?_cons_succ]; exact hy)
          have hy8 := lt8 y
          have hlt' : (k : Int) < (s.size : Int) := by omega
          have hk0 : (0 : Int) ≤ (k : Int) := Int.natCast_nonneg _
          have hok : okName y = true → (t.take (k + 1 - 1)).all okName = true := fun h => by
            rw [show k + 1 - 1 = k - 1 + 1 by omega, take_snoc_of hy, List.all_append, HP.out]
            simp [h]
          have hno : okName y = false → t.all okName = false := fun h => by
            rw [List.all_eq_false]
            exact ⟨y, List.mem_of_getElem? hy, by simp [h]⟩
          clear hy
          by_cases ha : y.toNat < 48
          · have fa0 : ¬ 97 ≤ (y.toNat : Int) := by omega
            have fa1 : ¬ 48 ≤ (y.toNat : Int) := by omega
            have HF : Hid (t.all okName = false) := hid (hno (by unfold okName letter digit; simp; omega))
            clear hok hno
            go_wp2
            go_ret
            exact ⟨by rw [HE.out, HF.out]; rfl, rfl⟩
          by_cases hb : y.toNat ≤ 57
          · have fb0 : ¬ 97 ≤ (y.toNat : Int) := by omega
            have fb1 : 48 ≤ (y.toNat : Int) := by omega
            have fb2 : (y.toNat : Int) ≤ 57 := by omega
            have HO : Hid ((t.take (k + 1 - 1)).all okName = true) := hid (hok (by unfold okName letter digit; simp; omega))
            clear hok hno
            go_wp2
            go_roundw
            case rel => exact ⟨k + 1, by go_num, by omega, by omega, HO, trivial⟩
            case measure => simp [intOf]; omega
          by_cases hc : y.toNat < 97
          · have fc0 : ¬ 97 ≤ (y.toNat : Int) := by omega
            have fc1 : 48 ≤ (y.toNat : Int) := by omega
            have fc2 : ¬ (y.toNat : Int) ≤ 57 := by omega
            have HF : Hid (t.all okName = false) := hid (hno (by unfold okName letter digit; simp; omega))
            clear hok hno
            go_wp2
            go_ret
            exact ⟨by rw [HE.out, HF.out]; rfl, rfl⟩
          by_cases hd : y.toNat ≤ 122
          · have fd0 : 97 ≤ (y.toNat : Int) := by omega
            have fd1 : (y.toNat : Int) ≤ 122 := by omega
            have fd2 : 48 ≤ (y.toNat : Int) := by omega
            have fd3 : ¬ (y.toNat : Int) ≤ 57 := by omega
            have HO : Hid ((t.take (k + 1 - 1)).all okName = true) := hid (hok (by unfold okName letter digit; simp; omega))
            clear hok hno
            go_wp2
            go_roundw
            case rel => exact ⟨k + 1, by go_num, by omega, by omega, HO, trivial⟩
            case measure => simp [intOf]; omega
          have fe0 : 97 ≤ (y.toNat : Int) := by omega
          have fe1 : ¬ (y.toNat : Int) ≤ 122 := by omega
          have fe2 : 48 ≤ (y.toNat : Int) := by omega
          have fe3 : ¬ (y.toNat : Int) ≤ 57 := by omega
          have HF : Hid (t.all okName = false) := hid (hno (by unfold okName letter digit; simp; omega))
          clear hok hno
          go_wp2
          go_ret
          exact ⟨by rw [HE.out, HF.out]; rfl, rfl⟩
        · obtain rfl : k = s.size := by omega
          have HO : Hid (t.all okName = true) := hid (by
            have := HP.out
            rwa [List.take_of_length_le (by have := HTN.out; omega)] at this)
          have hlt' : ¬ (s.size : Int) < (s.size : Int) := by omega
          go_wp2
          go_ret
          exact ⟨by rw [HE.out, HO.out]; rfl, rfl⟩
end Go.Proofs.Ytkimhdcngagmaaa.Sh
/-
  The document's own Number and Domain.
-/
namespace Go.Proofs.Ytkimhdcngagmaaa.Sh
open Go Go.RowKit

theorem numL_two (d x : UInt8) : numL [d, x] = if d = 100 ∧ 49 ≤ x.toNat ∧ x.toNat ≤ 57 then x.toNat - 48 else 0 := rfl
theorem numL_three (d x y : UInt8) : numL [d, x, y] = if d = 100 ∧ 49 ≤ x.toNat ∧ x.toNat ≤ 57 ∧ 48 ≤ y.toNat ∧ y.toNat ≤ 57 ∧ 10 * (x.toNat - 48) + (y.toNat - 48) ≤ 16 then 10 * (x.toNat - 48) + (y.toNat - 48) else 0 := rfl
theorem ne100 {d : UInt8} (h : ¬ d.toNat = 100) : ¬ d = 100 := fun e => h (by rw [e]; rfl)

set_option maxHeartbeats 2000000 in
theorem refNnum_any (s : ByteArray) (w : World) :
    Calls Try.prog 58 #[.string s] w fun e w' => e = .returned (.int .i64 (numL s.data.toList : Int)) ∧ w = w' := by
  obtain ⟨l, hl⟩ : ∃ l, s.data.toList = l := ⟨_, rfl⟩
  have hsz := size_list s
  rw [hl] at hsz ⊢
  match l with
  | [] =>
    have h1 : (s.size : Int) < 2 := by simp at hsz; omega
    have HE : Hid (numL [] = 0) := hid rfl
    go_enter Try.func58, Try.ntmps58
    go_wp2
    go_ret
    exact ⟨by rw [HE.out]; rfl, rfl⟩
  | [d] =>
    have h1 : (s.size : Int) < 2 := by simp at hsz; omega
    have HE : Hid (numL [d] = 0) := hid rfl
    go_enter Try.func58, Try.ntmps58
    go_wp2
    go_ret
    exact ⟨by rw [HE.out]; rfl, rfl⟩
  | d :: x :: y :: z :: t =>
    have h1 : ¬ (s.size : Int) < 2 := by simp at hsz; omega
    have h3 : (3 : Int) < (s.size : Int) := by simp at hsz; omega
    have HE : Hid (numL (d :: x :: y :: z :: t) = 0) := hid rfl
    clear hl hsz
    go_enter Try.func58, Try.ntmps58
    go_wp2
    go_ret
    exact ⟨by rw [HE.out]; rfl, rfl⟩
  | [d, x] =>
    have hs2 : (s.size : Int) = 2 := by simp at hsz; omega
    obtain ⟨p0, e0⟩ := sget s (j := 0) (x := d) (by rw [hl]; rfl)
    obtain ⟨p1, e1⟩ := sget s (j := 1) (x := x) (by rw [hl]; rfl)
    have hd8 := lt8 d
    have hx8 := lt8 x
    clear hl hsz
    by_cases hd : ¬ d.toNat = 100
    · have HE : Hid (numL [d, x] = 0) := hid (by rw [numL_two]; exact if_neg (fun h => ne100 hd h.1))
      have ghd0 : ¬ (d.toNat : Int) = 100 := by omega
      go_enter Try.func58, Try.ntmps58
      go_wp2
      go_ret
      exact ⟨by rw [HE.out]; rfl, rfl⟩
    have khd0 : (d.toNat : Int) = 100 := by omega
    by_cases hx : x.toNat < 49
    · have HE : Hid (numL [d, x] = 0) := hid (by rw [numL_two]; exact if_neg (by omega))
      have ghx0 : (x.toNat : Int) < 49 := by omega
      go_enter Try.func58, Try.ntmps58
      go_wp2
      go_ret
      exact ⟨by rw [HE.out]; rfl, rfl⟩
    have khx0 : ¬ (x.toNat : Int) < 49 := by omega
    by_cases hxx : 57 < x.toNat
    · have HE : Hid (numL [d, x] = 0) := hid (by rw [numL_two]; exact if_neg (by omega))
      have ghxx0 : 57 < (x.toNat : Int) := by omega
      go_enter Try.func58, Try.ntmps58
      go_wp2
      go_ret
      exact ⟨by rw [HE.out]; rfl, rfl⟩
    have khxx0 : ¬ 57 < (x.toNat : Int) := by omega
    have HE : Hid (numL [d, x] = x.toNat - 48) := hid (by rw [numL_two]; exact if_pos ⟨UInt8.toNat_inj.1 (by show d.toNat = 100; omega), by omega, by omega⟩)
    have h16 : ¬ (16 : Int) < (x.toNat : Int) - 48 := by omega
    have ux : ((x.toNat : Int) - 48) % 256 = (x.toNat : Int) - 48 := by omega
    go_enter Try.func58, Try.ntmps58
    go_wp2
    go_ret
    exact ⟨ret_int (by rw [HE.out]; omega), rfl⟩
  | [d, x, y] =>
    have hs3 : (s.size : Int) = 3 := by simp at hsz; omega
    obtain ⟨p0, e0⟩ := sget s (j := 0) (x := d) (by rw [hl]; rfl)
    obtain ⟨p1, e1⟩ := sget s (j := 1) (x := x) (by rw [hl]; rfl)
    obtain ⟨p2, e2⟩ := sget s (j := 2) (x := y) (by rw [hl]; rfl)
    have hd8 := lt8 d
    have hx8 := lt8 x
    have hy8 := lt8 y
    clear hl hsz
    by_cases hd : ¬ d.toNat = 100
    · have HE : Hid (numL [d, x, y] = 0) := hid (by rw [numL_three]; exact if_neg (fun h => ne100 hd h.1))
      have ghd0 : ¬ (d.toNat : Int) = 100 := by omega
      go_enter Try.func58, Try.ntmps58
      go_wp2
      go_ret
      exact ⟨by rw [HE.out]; rfl, rfl⟩
    have khd0 : (d.toNat : Int) = 100 := by omega
    by_cases hx : x.toNat < 49
    · have HE : Hid (numL [d, x, y] = 0) := hid (by rw [numL_three]; exact if_neg (by omega))
      have ghx0 : (x.toNat : Int) < 49 := by omega
      go_enter Try.func58, Try.ntmps58
      go_wp2
      go_ret
      exact ⟨by rw [HE.out]; rfl, rfl⟩
    have khx0 : ¬ (x.toNat : Int) < 49 := by omega
    by_cases hxx : 57 < x.toNat
    · have HE : Hid (numL [d, x, y] = 0) := hid (by rw [numL_three]; exact if_neg (by omega))
      have ghxx0 : 57 < (x.toNat : Int) := by omega
      go_enter Try.func58, Try.ntmps58
      go_wp2
      go_ret
      exact ⟨by rw [HE.out]; rfl, rfl⟩
    have khxx0 : ¬ 57 < (x.toNat : Int) := by omega
    by_cases hy : y.toNat < 48
    · have HE : Hid (numL [d, x, y] = 0) := hid (by rw [numL_three]; exact if_neg (by omega))
      have ghy0 : (y.toNat : Int) < 48 := by omega
      have ux : ((x.toNat : Int) - 48) % 256 = (x.toNat : Int) - 48 := by omega
      go_enter Try.func58, Try.ntmps58
      go_wp2
      go_ret
      exact ⟨by rw [HE.out]; rfl, rfl⟩
    have khy0 : ¬ (y.toNat : Int) < 48 := by omega
    by_cases hyy : 57 < y.toNat
    · have HE : Hid (numL [d, x, y] = 0) := hid (by rw [numL_three]; exact if_neg (by omega))
      have ghyy0 : 57 < (y.toNat : Int) := by omega
      have ux : ((x.toNat : Int) - 48) % 256 = (x.toNat : Int) - 48 := by omega
      go_enter Try.func58, Try.ntmps58
      go_wp2
      go_ret
      exact ⟨by rw [HE.out]; rfl, rfl⟩
    have khyy0 : ¬ 57 < (y.toNat : Int) := by omega
    by_cases hbig : 16 < 10 * (x.toNat - 48) + (y.toNat - 48)
    · have HE : Hid (numL [d, x, y] = 0) := hid (by rw [numL_three]; exact if_neg (by omega))
      have ghbig0 : (16 : Int) < 10 * ((x.toNat : Int) - 48) + ((y.toNat : Int) - 48) := by omega
      have ux : ((x.toNat : Int) - 48) % 256 = (x.toNat : Int) - 48 := by omega
      have uy : ((y.toNat : Int) - 48) % 256 = (y.toNat : Int) - 48 := by omega
      go_enter Try.func58, Try.ntmps58
      go_wp2
      go_ret
      exact ⟨by rw [HE.out]; rfl, rfl⟩
    have khbig0 : ¬ (16 : Int) < 10 * ((x.toNat : Int) - 48) + ((y.toNat : Int) - 48) := by omega
    have HE : Hid (numL [d, x, y] = 10 * (x.toNat - 48) + (y.toNat - 48)) := hid (by rw [numL_three]; exact if_pos ⟨UInt8.toNat_inj.1 (by show d.toNat = 100; omega), by omega, by omega, by omega, by omega, by omega⟩)
    have ux : ((x.toNat : Int) - 48) % 256 = (x.toNat : Int) - 48 := by omega
    have uy : ((y.toNat : Int) - 48) % 256 = (y.toNat : Int) - 48 := by omega
    go_enter Try.func58, Try.ntmps58
    go_wp2
    go_ret
    exact ⟨ret_int (by rw [HE.out]; omega), rfl⟩
end Go.Proofs.Ytkimhdcngagmaaa.Sh
/-
  The document's own Domain, Text, Less.
-/
namespace Go.Proofs.Ytkimhdcngagmaaa.Sh
open Go Go.RowKit

theorem conv_one (w : World) (x : UInt8) (z : Int) (hz : z = (x.toNat : Int)) (src t : TypeId) (fr : Nat × Nat) (c : Nat) (hs : Try.prog.underlying src = some (.slice 5)) :
    (convert src 9 (.slice (some ⟨w.heap.size, 0, none⟩) 1 c)).run Try.prog (w.alloc (.cells #[.int .u8 z] t fr)) = .ok (.string ⟨[x].toArray⟩) (w.alloc (.cells #[.int .u8 z] t fr)) := by
  subst hz
  refine run_convert_bytes_back _ src 9 5 _ c [x] hs Try.underlying5 Try.underlying9 (fun j hj => ?_)
  obtain ⟨ad, he, hc⟩ := reads_one w x t fr (by simp [bv])
  obtain rfl := Option.some.inj he
  have hj0 : j = 0 := by simp at hj; omega
  subst hj0
  exact hc 0 _ rfl
/-- The text of a role. -/
def textB (o n : ByteArray) : ByteArray := o ++ ⟨#[46]⟩ ++ n
theorem textB_list (o n : ByteArray) : (textB o n).data.toList = o.data.toList ++ 46 :: n.data.toList := by
  unfold textB
  simp [ByteArray.data_append]
theorem refRole_any (o n : ByteArray) (w : World) :
    Calls Try.prog 49 #[.agg #[.string o, .string n]] w fun e w' => e = .returned (.bool (roleL o.data.toList n.data.toList)) ∧ Below w.heap.size w w' := by
  have HM := hid (fun w => refMay_any n w)
  have HN := hid (fun w => refNnum_any o w)
  obtain ⟨m, hm⟩ : ∃ m, mayL n.data.toList = m := ⟨_, rfl⟩
  obtain ⟨k, hk⟩ : ∃ k, numL o.data.toList = k := ⟨_, rfl⟩
  rw [hm] at HM
  rw [hk] at HN
  have HR : Hid (roleL o.data.toList n.data.toList = (m && decide (k ≠ 0))) := hid (by unfold roleL; rw [hm, hk])
  clear hm hk
  go_enter Try.func49, Try.ntmps49
  go_wp2_with fail
  refine (HM.out _).mono ?_
  rintro er w2 ⟨rfl, rfl⟩
  cases m with
  | false =>
    go_wp2
    go_ret
    exact ⟨by rw [HR.out]; rfl, (Below.refl _ _).alloc (Nat.le_refl _) _⟩
  | true =>
    go_wp2_with fail
    refine (HN.out _).mono ?_
    rintro er w2 ⟨rfl, rfl⟩
    by_cases hk : k = 0
    · subst hk
      go_wp2
      go_ret
      exact ⟨by rw [HR.out]; rfl, (Below.refl _ _).alloc (Nat.le_refl _) _⟩
    · have hk' : ¬ (k : Int) = 0 := by omega
      have HK : Hid (decide (k ≠ 0) = true) := hid (by simp [hk])
      go_wp2
      go_ret
      exact ⟨by rw [HR.out, HK.out]; simp [hk], (Below.refl _ _).alloc (Nat.le_refl _) _⟩
end Go.Proofs.Ytkimhdcngagmaaa.Sh
/-
  Credentials: what the document asks, in plain functions; the round trip, and the texts. Nothing of the program's own text.
-/
namespace Go.Proofs.Ytkimhdcngagmaaa.Sh
open Go Go.RowKit

def E0 : ByteArray := ⟨#[]⟩
structure Crd where
  d : Int
  q : Int
  nm : ByteArray
  kd : Int
  wh : ByteArray
  ao : ByteArray
  an : ByteArray
  bo : ByteArray
  bn : ByteArray
/-- The nine cells of a credential. -/
def Crd.cells (c : Crd) : List Value := [.int .i64 c.d, .int .i64 c.q, .string c.nm, .int .i64 c.kd, .string c.wh, .string c.ao, .string c.an, .string c.bo, .string c.bn]
def Crd.zero : Crd := ⟨0, 0, E0, 0, E0, E0, E0, E0, E0⟩
def mayB (s : ByteArray) : Bool := mayL s.data.toList
def roleB (o n : ByteArray) : Bool := roleL o.data.toList n.data.toList
theorem e0_list : E0.data.toList = [] := rfl
theorem ba_eq {a b : ByteArray} (h : a.data.toList = b.data.toList) : a = b := by
  rw [← Lib.mk_data a, ← Lib.mk_data b, h]
theorem mk_toList (l : List UInt8) : (⟨l.toArray⟩ : ByteArray).data.toList = l := rfl
theorem mayB_e0 : mayB E0 = false := rfl
theorem roleB_e0 (n : ByteArray) : roleB E0 n = false := by unfold roleB roleL; simp [e0_list, numL]
/-- What its kind asks. -/
def kindOk (c : Crd) : Bool :=
  if c.kd = 1 then mayB c.wh && decide (c.ao = E0 ∧ c.an = E0) && decide (c.bo = E0 ∧ c.bn = E0)
  else decide (c.wh = E0) && (if c.kd = 2 then roleB c.ao c.an && decide (c.bo = E0 ∧ c.bn = E0)
    else if c.kd = 3 then (mayB c.an && decide (c.ao = E0)) && (mayB c.bn && decide (c.bo = E0))
    else if c.kd = 4 then roleB c.ao c.an && roleB c.bo c.bn else false)
def headOk (c : Crd) : Bool := decide (1 ≤ c.d ∧ c.d ≤ 16 ∧ 1 ≤ c.q ∧ c.q ≤ 4000) && mayB c.nm
def mayC (c : Crd) : Bool := headOk c && kindOk c
/-- Its text. -/
def domB (d : Int) : ByteArray := ⟨(domL d).toArray⟩
/-! ### a step of reading -/
section
variable (d q : Int) (nm : ByteArray) (l : List UInt8) (p : Nat) (e : Int)
end

/-! ### forward -/
theorem mayL_size {s : ByteArray} (h : mayL s.data.toList = true) : s.size ≤ 8 := by
  rw [← size_list]
  cases hl : s.data.toList with
  | nil => simp
  | cons x t =>
    rw [hl, mayL_cons] at h
    simp only [Bool.and_eq_true, decide_eq_true_eq] at h
    simp; omega
theorem may_head {c : Crd} (h : mayC c = true) : 1 ≤ c.d ∧ c.d ≤ 16 ∧ 1 ≤ c.q ∧ c.q ≤ 4000 ∧ mayL c.nm.data.toList = true := by
  unfold mayC headOk mayB at h
  simp only [Bool.and_eq_true, decide_eq_true_eq] at h
  exact ⟨h.1.1.1, h.1.1.2.1, h.1.1.2.2.1, h.1.1.2.2.2, h.1.2⟩
theorem may_kind {c : Crd} (h : mayC c = true) : (c.kd = 1 ∧ mayL c.wh.data.toList = true ∧ c.ao = E0 ∧ c.an = E0 ∧ c.bo = E0 ∧ c.bn = E0) ∨
    (c.kd = 2 ∧ c.wh = E0 ∧ roleL c.ao.data.toList c.an.data.toList = true ∧ c.bo = E0 ∧ c.bn = E0) ∨
    (c.kd = 3 ∧ c.wh = E0 ∧ c.ao = E0 ∧ mayL c.an.data.toList = true ∧ c.bo = E0 ∧ mayL c.bn.data.toList = true) ∨
    (c.kd = 4 ∧ c.wh = E0 ∧ roleL c.ao.data.toList c.an.data.toList = true ∧ roleL c.bo.data.toList c.bn.data.toList = true) := by
  unfold mayC at h
  rw [Bool.and_eq_true] at h
  have h := h.2
  unfold kindOk mayB roleB at h
  split at h
  · simp only [Bool.and_eq_true, decide_eq_true_eq] at h
    rename_i hk
    exact .inl ⟨hk, h.1.1, h.1.2.1, h.1.2.2, h.2.1, h.2.2⟩
  · rw [Bool.and_eq_true, decide_eq_true_eq] at h
    obtain ⟨hw, h⟩ := h
    split at h
    · simp only [Bool.and_eq_true, decide_eq_true_eq] at h
      rename_i hk
      exact .inr (.inl ⟨hk, hw, h.1, h.2.1, h.2.2⟩)
    · split at h
      · simp only [Bool.and_eq_true, decide_eq_true_eq] at h
        rename_i hk
        exact .inr (.inr (.inl ⟨hk, hw, h.1.2, h.1.1, h.2.2, h.2.1⟩))
      · split at h
        · simp only [Bool.and_eq_true] at h
          rename_i hk
          exact .inr (.inr (.inr ⟨hk, hw, h.1, h.2⟩))
        · cases h
end Go.Proofs.Ytkimhdcngagmaaa.Sh
/-
  Credentials: what is read was put; texts apart. Plain lemmas.
-/
namespace Go.Proofs.Ytkimhdcngagmaaa.Sh
open Go Go.RowKit

/-! ### texts apart -/
theorem may_bytes {l : List UInt8} (h : mayL l = true) : ∀ x ∈ l, letter x = true ∨ digit x = true := by
  cases l with
  | nil => intro x hx; cases hx
  | cons y t =>
    rw [mayL_cons] at h
    simp only [Bool.and_eq_true, decide_eq_true_eq, List.all_eq_true] at h
    intro x hx
    rcases List.mem_cons.1 hx with rfl | hx
    · exact .inl h.1.1
    · have := h.1.2 x hx
      unfold okName at this
      rwa [Bool.or_eq_true] at this
theorem may_count {l : List UInt8} (h : mayL l = true) (s : UInt8) (hs : letter s = false) (hs2 : digit s = false) : l.count s = 0 := by
  rw [List.count_eq_zero]
  intro hm
  rcases may_bytes h s hm with k | k
  · rw [hs] at k; cases k
  · rw [hs2] at k; cases k
theorem dom_count (d : Int) (h1 : 1 ≤ d) (h2 : d ≤ 16) (s : UInt8) (hs : letter s = false) (hs2 : digit s = false) : (domL d).count s = 0 := may_count (domL_may d h1 h2) s hs hs2
end Go.Proofs.Ytkimhdcngagmaaa.Sh
/-
  Credentials: unlike ones have unlike texts, but for their Seq. Plain lemmas.
-/
namespace Go.Proofs.Ytkimhdcngagmaaa.Sh
open Go Go.RowKit

theorem l46 : letter 46 = false := rfl
theorem d46 : digit 46 = false := rfl
theorem l32 : letter 32 = false := rfl
theorem d32 : digit 32 = false := rfl
theorem domL_inj {d d' : Int} (h1 : 1 ≤ d) (h2 : d ≤ 16) (h3 : 1 ≤ d') (h4 : d' ≤ 16) (e : domL d = domL d') : d = d' := by
  have a := numL_domL d h1 h2
  have b := numL_domL d' h3 h4
  rw [e, b] at a
  omega
end Go.Proofs.Ytkimhdcngagmaaa.Sh
