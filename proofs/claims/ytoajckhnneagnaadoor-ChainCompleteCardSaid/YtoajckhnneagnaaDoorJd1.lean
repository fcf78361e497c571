/-
  Words on memory for walks over bytes: a slice of bytes that reads as a list, nil let in; rows of the call's own; what bytes and small numbers come to. Plain lemmas; nothing of the program but its row of uint8.
-/
import Derived.Test.YtoajckhnneagnaaDoorRows
import Derived.WalkKit
import Derived.Deep.Draws
import Derived.Deep.AppendLies
import Derived.Laws.CopyOwn
import Derived.Laws.IdiomStrings
import Derived.Lib.BufferRead
import Derived.Deep.MidRow
import Derived.Laws.BitsAllLaws
import Derived.Laws.BitsLemmas
import Derived.WalkSpells
import Derived.WalkLawsBesides
import Derived.Deep.QuietTactic
import Derived.BigQuiet
import Derived.Deep.RegionHeld3
import Derived.Laws.ByValue
import Derived.Laws.Rows
import Derived.Maps.AppendAt
import Derived.Lib.AppendStr
import Derived.Lib.Strings
import Derived.Laws.RangeAny
set_option linter.unusedVariables false
set_option linter.unusedSimpArgs false
namespace Go.Proofs.YtoajckhnneagnaaDoor.Sh
open Go Go.RowKit
theorem lt8 (x : UInt8) : x.toNat < 256 := x.toNat_lt


def bv (l : List UInt8) : List Value := l.map fun x => Value.int .u8 x.toNat
theorem block_add (a : Addr) (n : Nat) : (a.add n).block = a.block := by unfold Addr.add; split <;> rfl
theorem add_add (a : Addr) (i j : Nat) : (a.add i).add j = a.add (i + j) := by
  unfold Addr.add
  by_cases hi : i = 0 <;> by_cases hj : j = 0 <;> simp [hi, hj, Nat.add_assoc]
theorem add_zero (a : Addr) : a.add 0 = a := by simp [Addr.add]

theorem add_pos (a : Addr) (n : Nat) (h : 0 < n) : a.add n = ⟨a.block, a.off + n, none⟩ := by
  unfold Addr.add
  rw [if_neg (by omega)]

section
variable {w w' : World} {B B' : Nat} {A : Option Addr} {l : List UInt8}
end

theorem below_setCells {B : Nat} {a : World} {b : Nat} (hb : B ≤ b) : ∀ (vs : List Value) (o : Nat) (w : World), Below B a w → Below B a (w.setCells b o vs)
  | [], _, _, h => h
  | v :: r, o, _, h => below_setCells hb r (o + 1) _ (h.setCell (p := ⟨b, o, none⟩) hb v)
theorem results_mid {P : Program} {fn : Func} {p : Tmp} {ty : TypeId} (h : fn.results = #[.cell p ty]) (tmps : Array Value) (w : World) (b o : Nat) (cs : List Value) (d : TypeDesc)
    (hp : tmps.getD p undef = .pointer (some ⟨b, o, none⟩)) (hc : w.rangeAt b o cs) (hu : P.underlying ty = some d) (hd : d.isRow = true) (hi : (P.info? ty).map (·.size) = some cs.length) :
    (results fn tmps).run P w = .ok (.agg cs.toArray) w := by
  have hp' : tmps[p]?.getD undef = .pointer (some ⟨b, o, none⟩) := by simpa using hp
  simp [results, h, hp', asAddr, run_loadVar_mid w b o ty cs d hc hu hd hi]
theorem range_row {w : World} {g : Nat} {cs : List Value} {t : TypeId} (h : w.heap[g]? = some (.cells cs.toArray t (0, 0))) : w.rangeAt g 0 cs := fun j v hv => by
  rw [Nat.zero_add, cell_of_row w g j _ t (0, 0) h]
  simpa using hv
theorem hid {p : Prop} (h : p) : Hid p := h
theorem below_drewN {B : Nat} {a w : World} (h : Below B a w) (n : Nat) : Below B a (w.drewN n) := ⟨h.os, h.tape, h.output, h.size, h.block⟩

theorem ret_int {k : IntKind} {a b : Int} (h : a = b) : Ending.returned (.int k a) = .returned (.int k b) := by rw [h]

theorem wrap_in (n : Int) (h : 0 ≤ n ∧ n < 9223372036854775808) : IntKind.i64.wrap n = n := IntWalk.i64_in _ (by omega)
theorem take_snoc_of {α : Type} {l : List α} {k : Nat} {x : α} (h : l[k]? = some x) : l.take (k + 1) = l.take k ++ [x] := by
  rw [List.take_add_one, h]; rfl

theorem le_alloc {w : World} {n : Nat} (h : n ≤ w.heap.size) (o : Obj) : n ≤ (w.alloc o).heap.size := by
  rw [World.size_alloc]; exact Nat.le_succ_of_le h
def lenV : Value → Nat
  | .slice _ n _ => n
  | _ => 0
end Go.Proofs.YtoajckhnneagnaaDoor.Sh
namespace Go.Proofs.YtoajckhnneagnaaDoor.Sh
open Go Go.RowKit

theorem own_mono' {w : World} {b b' : Nat} {e : TypeId} {size n : Nat} {v : Value} {xs : List Value} (h : w.ownsRow b e size v n xs) (hb : b' ≤ b) : w.ownsRow b' e size v n xs :=
  ⟨h.1, h.2.imp id fun ⟨g, cap, cur, hv, hg, r⟩ => ⟨g, cap, cur, hv, Nat.le_trans hb hg, r⟩⟩

def Reads (w : World) (A : Option Addr) (us : List Value) : Prop := 0 < us.length → ∃ ad, A = some ad ∧ ∀ j u, us[j]? = some u → w.cell? (ad.add j) = some u
theorem reads_new (w : World) (cs : Array Value) (t : TypeId) (fr : Nat × Nat) : Reads (w.alloc (.cells cs t fr)) (some ⟨w.heap.size, 0, none⟩) cs.toList := fun _ =>
  ⟨_, rfl, World.news_of_block (cs := cs) (t := t) (fr := fr) (heap_alloc_new w _)⟩
theorem reads_newd (w : World) (cs : Array Value) (t : TypeId) (fr : Nat × Nat) : Reads (w.alloc (.cells cs t fr)).drew (some ⟨w.heap.size, 0, none⟩) cs.toList := reads_new w cs t fr
section
variable {P : Program} {w : World}
theorem run_app_zero {t ty e : TypeId} (i : TypeInfo) (ht : P.underlying t = some (.slice e)) (hi : P.info? e = some i) {base : Nat} {v : Value} {n : Nat} {xs : List Value} {size : Nat} (hown : w.ownsRow base e size v n xs) (c : Nat) :
    (Builtin.append_ #[t, t] ty #[v, .slice none 0 c]).run P w = .ok v w := by
  rcases hown.2 with ⟨rfl, rfl⟩ | ⟨g, cap, cur, rfl, _, _, hnc, _⟩
  · simp [Builtin.append_, run_underlying ht, sizeOf, typeInfo, hi, Builtin.lenOf, Builtin.firstCells]
  · simp [Builtin.append_, run_underlying ht, sizeOf, typeInfo, hi, Builtin.lenOf, Builtin.firstCells, hnc, storeCells]

end

theorem reads_one (w : World) (x : UInt8) (t : TypeId) (fr : Nat × Nat) : Reads (w.alloc (.cells #[.int .u8 x.toNat] t fr)) (some ⟨w.heap.size, 0, none⟩) (bv [x]) := reads_new w #[.int .u8 x.toNat] t fr

end Go.Proofs.YtoajckhnneagnaaDoor.Sh
namespace Go.Proofs.YtoajckhnneagnaaDoor.Sh
open Go Go.RowKit

theorem size_list (s : ByteArray) : s.data.toList.length = s.size := by rw [Array.length_toList]; rfl

end Go.Proofs.YtoajckhnneagnaaDoor.Sh
namespace Go.Proofs.YtoajckhnneagnaaDoor.Sh

def letter (x : UInt8) : Bool := 97 ≤ x.toNat && x.toNat ≤ 122
def digit (x : UInt8) : Bool := 48 ≤ x.toNat && x.toNat ≤ 57
def mayL (l : List UInt8) : Bool := match l with
  | [] => false
  | x :: t => letter x && t.all (fun y => letter y || digit y) && decide (t.length ≤ 7)
def numL (l : List UInt8) : Nat := match l with
  | [d, x] => if d = 100 ∧ 49 ≤ x.toNat ∧ x.toNat ≤ 57 then x.toNat - 48 else 0
  | [d, x, y] => if d = 100 ∧ 49 ≤ x.toNat ∧ x.toNat ≤ 57 ∧ 48 ≤ y.toNat ∧ y.toNat ≤ 57 ∧ 10 * (x.toNat - 48) + (y.toNat - 48) ≤ 16 then 10 * (x.toNat - 48) + (y.toNat - 48) else 0
  | _ => 0
def domL (n : Int) : List UInt8 :=
  if n < 1 ∨ 16 < n then []
  else if n < 10 then [100, UInt8.ofNat (48 + n.toNat)]
  else [100, 49, UInt8.ofNat (38 + n.toNat)]
def roleL (o n : List UInt8) : Bool := mayL n && decide (numL o ≠ 0)
theorem numL_domL (n : Int) (h1 : 1 ≤ n) (h2 : n ≤ 16) : numL (domL n) = n.toNat := by
  obtain ⟨k, rfl⟩ := Int.eq_ofNat_of_zero_le (show 0 ≤ n by omega)
  have hk1 : 1 ≤ k := by omega
  have hk2 : k ≤ 16 := by omega
  match k, hk1, hk2 with
  | 1, _, _ | 2, _, _ | 3, _, _ | 4, _, _ | 5, _, _ | 6, _, _ | 7, _, _ | 8, _, _ | 9, _, _ | 10, _, _ | 11, _, _ | 12, _, _ | 13, _, _ | 14, _, _ | 15, _, _ | 16, _, _ => decide +kernel
theorem domL_none (n : Int) (h : n < 1 ∨ 16 < n) : domL n = [] := if_pos h
theorem domL_numL (l : List UInt8) (h : numL l ≠ 0) : domL (numL l : Int) = l ∧ 1 ≤ numL l ∧ numL l ≤ 16 := by
  match l with
  | [] => exact absurd rfl h
  | [_] => exact absurd rfl h
  | [d, x] =>
    have hx : x.toNat < 256 := x.toNat_lt
    by_cases hc : d = 100 ∧ 49 ≤ x.toNat ∧ x.toNat ≤ 57
    · have e : numL [d, x] = x.toNat - 48 := if_pos hc
      rw [e]
      refine ⟨?_, by omega, by omega⟩
      unfold domL
      rw [if_neg (by omega), if_pos (by omega), hc.1]
      congr 2
      apply UInt8.toNat_inj.1
      rw [UInt8.toNat_ofNat']
      omega
    · exact absurd (if_neg hc) h
  | [d, x, y] =>
    have hy : y.toNat < 256 := y.toNat_lt
    by_cases hc : d = 100 ∧ 49 ≤ x.toNat ∧ x.toNat ≤ 57 ∧ 48 ≤ y.toNat ∧ y.toNat ≤ 57 ∧ 10 * (x.toNat - 48) + (y.toNat - 48) ≤ 16
    · have e : numL [d, x, y] = 10 * (x.toNat - 48) + (y.toNat - 48) := if_pos hc
      rw [e]
      refine ⟨?_, by omega, by omega⟩
      unfold domL
      have hx : x = 49 := UInt8.toNat_inj.1 (by show x.toNat = 49; omega)
      rw [if_neg (by omega), if_neg (by omega), hc.1, hx]
      congr 3
      apply UInt8.toNat_inj.1
      rw [UInt8.toNat_ofNat']
      subst hx
      have h49 : (49 : UInt8).toNat = 49 := rfl
      rw [h49] at hc ⊢
      omega
    · exact absurd (if_neg hc) h
  | _ :: _ :: _ :: _ :: _ => exact absurd rfl h
end Go.Proofs.YtoajckhnneagnaaDoor.Sh
namespace Go.Proofs.YtoajckhnneagnaaDoor.Sh
open Go Go.RowKit

theorem sget (s : ByteArray) {j : Nat} {x : UInt8} (hx : s.data.toList[j]? = some x) : ∃ h : j < s.size, s[j]'h = x := by
  have h : j < s.data.toList.length := (List.getElem?_eq_some_iff.1 hx).1
  rw [size_list] at h
  refine ⟨h, ?_⟩
  have h2 := (List.getElem?_eq_some_iff.1 hx).2
  rw [← h2]
  rfl
def okName (y : UInt8) : Bool := letter y || digit y
theorem mayL_cons (x : UInt8) (t : List UInt8) : mayL (x :: t) = (letter x && t.all okName && decide (t.length ≤ 7)) := rfl

set_option maxHeartbeats 1000000 in
theorem refMay_any (s : ByteArray) (w : World) :
    Calls Tryd.prog 61 #[.string s] w fun e w' => e = .returned (.bool (mayL s.data.toList)) ∧ w = w' := by
  obtain ⟨l, hl⟩ : ∃ l, s.data.toList = l := ⟨_, rfl⟩
  have hsz := size_list s
  rw [hl] at hsz ⊢
  cases l with
  | nil =>
    have h1 : (s.size : Int) < 1 := by simp at hsz; omega
    go_enter Tryd.func61, Tryd.ntmps61
    go_wp2
    go_ret
    exact ⟨rfl, rfl⟩
  | cons x t =>
    have h1 : ¬ (s.size : Int) < 1 := by simp at hsz; omega
    have h10 : (0 : Int) < (s.size : Int) := by omega
    by_cases h8 : 8 < s.size
    · have h8' : (8 : Int) < (s.size : Int) := by omega
      have HE : Hid (mayL (x :: t) = false) := hid (by rw [mayL_cons]; have : ¬ t.length ≤ 7 := by simp at hsz; omega
                                                       simp [this])
      clear hsz hl
      go_enter Tryd.func61, Tryd.ntmps61
      go_wp2
      go_ret
      exact ⟨by rw [HE.out]; rfl, rfl⟩
    · have h8' : ¬ (8 : Int) < (s.size : Int) := by omega
      obtain ⟨h0, hx0⟩ := sget s (j := 0) (x := x) (by rw [hl]; rfl)
      have hx8 := lt8 x
      have HL := hid hl
      have HSZ := hid hsz
      clear hl hsz
      by_cases hlo : x.toNat < 97
      · have hlo' : (x.toNat : Int) < 97 := by omega
        have HE : Hid (mayL (x :: t) = false) := hid (by rw [mayL_cons]; have : letter x = false := by unfold letter; simp; omega
                                                         simp [this])
        go_enter Tryd.func61, Tryd.ntmps61
        go_wp2
        go_ret
        exact ⟨by rw [HE.out]; rfl, rfl⟩
      by_cases hhi : 122 < x.toNat
      · have hlo' : ¬ (x.toNat : Int) < 97 := by omega
        have hhi' : 122 < (x.toNat : Int) := by omega
        have HE : Hid (mayL (x :: t) = false) := hid (by rw [mayL_cons]; have : letter x = false := by unfold letter; simp; omega
                                                         simp [this])
        go_enter Tryd.func61, Tryd.ntmps61
        go_wp2
        go_ret
        exact ⟨by rw [HE.out]; rfl, rfl⟩
      have hlo' : ¬ (x.toNat : Int) < 97 := by omega
      have hhi' : ¬ 122 < (x.toNat : Int) := by omega
      have HE : Hid (mayL (x :: t) = t.all okName) := hid (by
        rw [mayL_cons]
        have e1 : letter x = true := by unfold letter; simp; omega
        have e2 : t.length ≤ 7 := by have := HSZ.out; simp at this; omega
        simp [e1, e2])
      have HTN : Hid (t.length + 1 = s.size) := hid (by have := HSZ.out; simpa using this)
      go_enter Tryd.func61, Tryd.ntmps61
      go_wp2
      go_loopw [3] (fun i wr => ∃ k : Nat, i = .int .i64 (k : Int) ∧ 1 ≤ k ∧ k ≤ s.size ∧ Hid ((t.take (k - 1)).all okName = true) ∧ w = wr) (fun i _ => s.size - (intOf i).toNat)
      case atStart => exact ⟨1, rfl, by omega, by omega, hid (by simp), rfl⟩
      case round =>
        obtain ⟨k, rfl, hk1, hk, HP, rfl⟩ := hrel
        by_cases hlt : k < s.size
        · obtain ⟨y, hy⟩ : ∃ y, t[k - 1]? = some y := ⟨_, List.getElem?_eq_getElem (by have := HTN.out; omega)⟩
          obtain ⟨hk2, hsy⟩ := sget s (j := k) (x := y) (by rw [HL.out, show k = k - 1 + 1 by omega, List.getElem?_cons_succ]; exact hy)
          have hy8 := lt8 y
          have hlt' : (k : Int) < (s.size : Int) := by omega
          have hk0 : (0 : Int) ≤ (k : Int) := Int.natCast_nonneg _
          have hok : okName y = true → (t.take (k + 1 - 1)).all okName = true := fun h => by
            rw [show k + 1 - 1 = k - 1 + 1 by omega, take_snoc_of hy, List.all_append, HP.out]
            simp [h]
          have hno : okName y = false → t.all okName = false := fun h => by
            rw [List.all_eq_false]
            exact ⟨y, List.mem_of_getElem? hy, by simp [h]⟩
          clear hy
          by_cases ha : y.toNat < 48
          · have fa0 : ¬ 97 ≤ (y.toNat : Int) := by omega
            have fa1 : ¬ 48 ≤ (y.toNat : Int) := by omega
            have HF : Hid (t.all okName = false) := hid (hno (by unfold okName letter digit; simp; omega))
            clear hok hno
            go_wp2
            go_ret
            exact ⟨by rw [HE.out, HF.out]; rfl, rfl⟩
          by_cases hb : y.toNat ≤ 57
          · have fb0 : ¬ 97 ≤ (y.toNat : Int) := by omega
            have fb1 : 48 ≤ (y.toNat : Int) := by omega
            have fb2 : (y.toNat : Int) ≤ 57 := by omega
            have HO : Hid ((t.take (k + 1 - 1)).all okName = true) := hid (hok (by unfold okName letter digit; simp; omega))
            clear hok hno
            go_wp2
            go_roundw
            case rel => exact ⟨k + 1, by go_num, by omega, by omega, HO, trivial⟩
            case measure => simp [intOf]; omega
          by_cases hc : y.toNat < 97
          · have fc0 : ¬ 97 ≤ (y.toNat : Int) := by omega
            have fc1 : 48 ≤ (y.toNat : Int) := by omega
            have fc2 : ¬ (y.toNat : Int) ≤ 57 := by omega
            have HF : Hid (t.all okName = false) := hid (hno (by unfold okName letter digit; simp; omega))
            clear hok hno
            go_wp2
            go_ret
            exact ⟨by rw [HE.out, HF.out]; rfl, rfl⟩
          by_cases hd : y.toNat ≤ 122
          · have fd0 : 97 ≤ (y.toNat : Int) := by omega
            have fd1 : (y.toNat : Int) ≤ 122 := by omega
            have fd2 : 48 ≤ (y.toNat : Int) := by omega
            have fd3 : ¬ (y.toNat : Int) ≤ 57 := by omega
            have HO : Hid ((t.take (k + 1 - 1)).all okName = true) := hid (hok (by unfold okName letter digit; simp; omega))
            clear hok hno
            go_wp2
            go_roundw
            case rel => exact ⟨k + 1, by go_num, by omega, by omega, HO, trivial⟩
            case measure => simp [intOf]; omega
          have fe0 : 97 ≤ (y.toNat : Int) := by omega
          have fe1 : ¬ (y.toNat : Int) ≤ 122 := by omega
          have fe2 : 48 ≤ (y.toNat : Int) := by omega
          have fe3 : ¬ (y.toNat : Int) ≤ 57 := by omega
          have HF : Hid (t.all okName = false) := hid (hno (by unfold okName letter digit; simp; omega))
          clear hok hno
          go_wp2
          go_ret
          exact ⟨by rw [HE.out, HF.out]; rfl, rfl⟩
        · obtain rfl : k = s.size := by omega
          have HO : Hid (t.all okName = true) := hid (by
            have := HP.out
            rwa [List.take_of_length_le (by have := HTN.out; omega)] at this)
          have hlt' : ¬ (s.size : Int) < (s.size : Int) := by omega
          go_wp2
          go_ret
          exact ⟨by rw [HE.out, HO.out]; rfl, rfl⟩
end Go.Proofs.YtoajckhnneagnaaDoor.Sh
namespace Go.Proofs.YtoajckhnneagnaaDoor.Sh
open Go Go.RowKit

theorem numL_two (d x : UInt8) : numL [d, x] = if d = 100 ∧ 49 ≤ x.toNat ∧ x.toNat ≤ 57 then x.toNat - 48 else 0 := rfl
theorem numL_three (d x y : UInt8) : numL [d, x, y] = if d = 100 ∧ 49 ≤ x.toNat ∧ x.toNat ≤ 57 ∧ 48 ≤ y.toNat ∧ y.toNat ≤ 57 ∧ 10 * (x.toNat - 48) + (y.toNat - 48) ≤ 16 then 10 * (x.toNat - 48) + (y.toNat - 48) else 0 := rfl
theorem ne100 {d : UInt8} (h : ¬ d.toNat = 100) : ¬ d = 100 := fun e => h (by rw [e]; rfl)

set_option maxHeartbeats 2000000 in
theorem refNnum_any (s : ByteArray) (w : World) :
    Calls Tryd.prog 52 #[.string s] w fun e w' => e = .returned (.int .i64 (numL s.data.toList : Int)) ∧ w = w' := by
  obtain ⟨l, hl⟩ : ∃ l, s.data.toList = l := ⟨_, rfl⟩
  have hsz := size_list s
  rw [hl] at hsz ⊢
  match l with
  | [] =>
    have h1 : (s.size : Int) < 2 := by simp at hsz; omega
    have HE : Hid (numL [] = 0) := hid rfl
    go_enter Tryd.func52, Tryd.ntmps52
    go_wp2
    go_ret
    exact ⟨by rw [HE.out]; rfl, rfl⟩
  | [d] =>
    have h1 : (s.size : Int) < 2 := by simp at hsz; omega
    have HE : Hid (numL [d] = 0) := hid rfl
    go_enter Tryd.func52, Tryd.ntmps52
    go_wp2
    go_ret
    exact ⟨by rw [HE.out]; rfl, rfl⟩
  | d :: x :: y :: z :: t =>
    have h1 : ¬ (s.size : Int) < 2 := by simp at hsz; omega
    have h3 : (3 : Int) < (s.size : Int) := by simp at hsz; omega
    have HE : Hid (numL (d :: x :: y :: z :: t) = 0) := hid rfl
    clear hl hsz
    go_enter Tryd.func52, Tryd.ntmps52
    go_wp2
    go_ret
    exact ⟨by rw [HE.out]; rfl, rfl⟩
  | [d, x] =>
    have hs2 : (s.size : Int) = 2 := by simp at hsz; omega
    obtain ⟨p0, e0⟩ := sget s (j := 0) (x := d) (by rw [hl]; rfl)
    obtain ⟨p1, e1⟩ := sget s (j := 1) (x := x) (by rw [hl]; rfl)
    have hd8 := lt8 d
    have hx8 := lt8 x
    clear hl hsz
    by_cases hd : ¬ d.toNat = 100
    · have HE : Hid (numL [d, x] = 0) := hid (by rw [numL_two]; exact if_neg (fun h => ne100 hd h.1))
      have ghd0 : ¬ (d.toNat : Int) = 100 := by omega
      go_enter Tryd.func52, Tryd.ntmps52
      go_wp2
      go_ret
      exact ⟨by rw [HE.out]; rfl, rfl⟩
    have khd0 : (d.toNat : Int) = 100 := by omega
    by_cases hx : x.toNat < 49
    · have HE : Hid (numL [d, x] = 0) := hid (by rw [numL_two]; exact if_neg (by omega))
      have ghx0 : (x.toNat : Int) < 49 := by omega
      go_enter Tryd.func52, Tryd.ntmps52
      go_wp2
      go_ret
      exact ⟨by rw [HE.out]; rfl, rfl⟩
    have khx0 : ¬ (x.toNat : Int) < 49 := by omega
    by_cases hxx : 57 < x.toNat
    · have HE : Hid (numL [d, x] = 0) := hid (by rw [numL_two]; exact if_neg (by omega))
      have ghxx0 : 57 < (x.toNat : Int) := by omega
      go_enter Tryd.func52, Tryd.ntmps52
      go_wp2
      go_ret
      exact ⟨by rw [HE.out]; rfl, rfl⟩
    have khxx0 : ¬ 57 < (x.toNat : Int) := by omega
    have HE : Hid (numL [d, x] = x.toNat - 48) := hid (by rw [numL_two]; exact if_pos ⟨UInt8.toNat_inj.1 (by show d.toNat = 100; omega), by omega, by omega⟩)
    have h16 : ¬ (16 : Int) < (x.toNat : Int) - 48 := by omega
    have ux : ((x.toNat : Int) - 48) % 256 = (x.toNat : Int) - 48 := by omega
    go_enter Tryd.func52, Tryd.ntmps52
    go_wp2
    go_ret
    exact ⟨ret_int (by rw [HE.out]; omega), rfl⟩
  | [d, x, y] =>
    have hs3 : (s.size : Int) = 3 := by simp at hsz; omega
    obtain ⟨p0, e0⟩ := sget s (j := 0) (x := d) (by rw [hl]; rfl)
    obtain ⟨p1, e1⟩ := sget s (j := 1) (x := x) (by rw [hl]; rfl)
    obtain ⟨p2, e2⟩ := sget s (j := 2) (x := y) (by rw [hl]; rfl)
    have hd8 := lt8 d
    have hx8 := lt8 x
    have hy8 := lt8 y
    clear hl hsz
    by_cases hd : ¬ d.toNat = 100
    · have HE : Hid (numL [d, x, y] = 0) := hid (by rw [numL_three]; exact if_neg (fun h => ne100 hd h.1))
      have ghd0 : ¬ (d.toNat : Int) = 100 := by omega
      go_enter Tryd.func52, Tryd.ntmps52
      go_wp2
      go_ret
      exact ⟨by rw [HE.out]; rfl, rfl⟩
    have khd0 : (d.toNat : Int) = 100 := by omega
    by_cases hx : x.toNat < 49
    · have HE : Hid (numL [d, x, y] = 0) := hid (by rw [numL_three]; exact if_neg (by omega))
      have ghx0 : (x.toNat : Int) < 49 := by omega
      go_enter Tryd.func52, Tryd.ntmps52
      go_wp2
      go_ret
      exact ⟨by rw [HE.out]; rfl, rfl⟩
    have khx0 : ¬ (x.toNat : Int) < 49 := by omega
    by_cases hxx : 57 < x.toNat
    · have HE : Hid (numL [d, x, y] = 0) := hid (by rw [numL_three]; exact if_neg (by omega))
      have ghxx0 : 57 < (x.toNat : Int) := by omega
      go_enter Tryd.func52, Tryd.ntmps52
      go_wp2
      go_ret
      exact ⟨by rw [HE.out]; rfl, rfl⟩
    have khxx0 : ¬ 57 < (x.toNat : Int) := by omega
    by_cases hy : y.toNat < 48
    · have HE : Hid (numL [d, x, y] = 0) := hid (by rw [numL_three]; exact if_neg (by omega))
      have ghy0 : (y.toNat : Int) < 48 := by omega
      have ux : ((x.toNat : Int) - 48) % 256 = (x.toNat : Int) - 48 := by omega
      go_enter Tryd.func52, Tryd.ntmps52
      go_wp2
      go_ret
      exact ⟨by rw [HE.out]; rfl, rfl⟩
    have khy0 : ¬ (y.toNat : Int) < 48 := by omega
    by_cases hyy : 57 < y.toNat
    · have HE : Hid (numL [d, x, y] = 0) := hid (by rw [numL_three]; exact if_neg (by omega))
      have ghyy0 : 57 < (y.toNat : Int) := by omega
      have ux : ((x.toNat : Int) - 48) % 256 = (x.toNat : Int) - 48 := by omega
      go_enter Tryd.func52, Tryd.ntmps52
      go_wp2
      go_ret
      exact ⟨by rw [HE.out]; rfl, rfl⟩
    have khyy0 : ¬ 57 < (y.toNat : Int) := by omega
    by_cases hbig : 16 < 10 * (x.toNat - 48) + (y.toNat - 48)
    · have HE : Hid (numL [d, x, y] = 0) := hid (by rw [numL_three]; exact if_neg (by omega))
      have ghbig0 : (16 : Int) < 10 * ((x.toNat : Int) - 48) + ((y.toNat : Int) - 48) := by omega
      have ux : ((x.toNat : Int) - 48) % 256 = (x.toNat : Int) - 48 := by omega
      have uy : ((y.toNat : Int) - 48) % 256 = (y.toNat : Int) - 48 := by omega
      go_enter Tryd.func52, Tryd.ntmps52
      go_wp2
      go_ret
      exact ⟨by rw [HE.out]; rfl, rfl⟩
    have khbig0 : ¬ (16 : Int) < 10 * ((x.toNat : Int) - 48) + ((y.toNat : Int) - 48) := by omega
    have HE : Hid (numL [d, x, y] = 10 * (x.toNat - 48) + (y.toNat - 48)) := hid (by rw [numL_three]; exact if_pos ⟨UInt8.toNat_inj.1 (by show d.toNat = 100; omega), by omega, by omega, by omega, by omega, by omega⟩)
    have ux : ((x.toNat : Int) - 48) % 256 = (x.toNat : Int) - 48 := by omega
    have uy : ((y.toNat : Int) - 48) % 256 = (y.toNat : Int) - 48 := by omega
    go_enter Tryd.func52, Tryd.ntmps52
    go_wp2
    go_ret
    exact ⟨ret_int (by rw [HE.out]; omega), rfl⟩
end Go.Proofs.YtoajckhnneagnaaDoor.Sh
namespace Go.Proofs.YtoajckhnneagnaaDoor.Sh
open Go Go.RowKit

theorem conv_one (w : World) (x : UInt8) (z : Int) (hz : z = (x.toNat : Int)) (src t : TypeId) (fr : Nat × Nat) (c : Nat) (hs : Tryd.prog.underlying src = some (.slice 5)) :
    (convert src 9 (.slice (some ⟨w.heap.size, 0, none⟩) 1 c)).run Tryd.prog (w.alloc (.cells #[.int .u8 z] t fr)) = .ok (.string ⟨[x].toArray⟩) (w.alloc (.cells #[.int .u8 z] t fr)) := by
  subst hz
  refine run_convert_bytes_back _ src 9 5 _ c [x] hs Tryd.underlying5 Tryd.underlying9 (fun j hj => ?_)
  obtain ⟨ad, he, hc⟩ := reads_one w x t fr (by simp [bv])
  obtain rfl := Option.some.inj he
  have hj0 : j = 0 := by simp at hj; omega
  subst hj0
  exact hc 0 _ rfl
theorem refDomain_any (n : Int) (h0 : -9223372036854775808 ≤ n) (h1 : n < 9223372036854775808) (w : World) :
    Calls Tryd.prog 71 #[.int .i64 n] w fun e w' => e = .returned (.string ⟨(domL n).toArray⟩) ∧ Below w.heap.size w w' := by
  by_cases hlo : n < 1
  · have HE := hid (domL_none n (.inl hlo))
    go_enter Tryd.func71, Tryd.ntmps71
    go_wp2
    go_ret
    exact ⟨by rw [HE.out]; rfl, Below.refl _ _⟩
  by_cases hhi : 16 < n
  · have HE := hid (domL_none n (.inr hhi))
    go_enter Tryd.func71, Tryd.ntmps71
    go_wp2
    go_ret
    exact ⟨by rw [HE.out]; rfl, Below.refl _ _⟩
  have e1 : (48 + n) % 256 = 48 + n := by omega
  by_cases h9 : n < 10
  · obtain ⟨x, hx⟩ : ∃ x, x = UInt8.ofNat (48 + n.toNat) := ⟨_, rfl⟩
    have hz : 48 + n = (x.toNat : Int) := by rw [hx, UInt8.toNat_ofNat']; omega
    have HE : Hid (domL n = [100, x]) := hid (by unfold domL; rw [if_neg (by omega), if_pos h9, hx])
    have hcv := conv_one w x (48 + n) hz 125 5 (0, 0) 1 Tryd.underlying125
    clear hx hz
    go_enter Tryd.func71, Tryd.ntmps71
    go_wp2
    go_ret
    exact ⟨by rw [HE.out]; rfl, (Below.refl _ _).alloc (Nat.le_refl _) _⟩
  · obtain ⟨x, hx⟩ : ∃ x, x = UInt8.ofNat (38 + n.toNat) := ⟨_, rfl⟩
    have hz : 48 + n - 10 = (x.toNat : Int) := by rw [hx, UInt8.toNat_ofNat']; omega
    have e2 : (48 + n - 10) % 256 = 48 + n - 10 := by omega
    have HE : Hid (domL n = [100, 49, x]) := hid (by unfold domL; rw [if_neg (by omega), if_neg h9, hx])
    have hcv := conv_one w x (48 + n - 10) hz 125 5 (0, 0) 1 Tryd.underlying125
    clear hx hz
    go_enter Tryd.func71, Tryd.ntmps71
    go_wp2
    go_ret
    exact ⟨by rw [HE.out]; rfl, (Below.refl _ _).alloc (Nat.le_refl _) _⟩

theorem refRole_any (o n : ByteArray) (w : World) :
    Calls Tryd.prog 62 #[.agg #[.string o, .string n]] w fun e w' => e = .returned (.bool (roleL o.data.toList n.data.toList)) ∧ Below w.heap.size w w' := by
  have HM := hid (fun w => refMay_any n w)
  have HN := hid (fun w => refNnum_any o w)
  obtain ⟨m, hm⟩ : ∃ m, mayL n.data.toList = m := ⟨_, rfl⟩
  obtain ⟨k, hk⟩ : ∃ k, numL o.data.toList = k := ⟨_, rfl⟩
  rw [hm] at HM
  rw [hk] at HN
  have HR : Hid (roleL o.data.toList n.data.toList = (m && decide (k ≠ 0))) := hid (by unfold roleL; rw [hm, hk])
  clear hm hk
  go_enter Tryd.func62, Tryd.ntmps62
  go_wp2_with fail
  refine (HM.out _).mono ?_
  rintro er w2 ⟨rfl, rfl⟩
  cases m with
  | false =>
    go_wp2
    go_ret
    exact ⟨by rw [HR.out]; rfl, (Below.refl _ _).alloc (Nat.le_refl _) _⟩
  | true =>
    go_wp2_with fail
    refine (HN.out _).mono ?_
    rintro er w2 ⟨rfl, rfl⟩
    by_cases hk : k = 0
    · subst hk
      go_wp2
      go_ret
      exact ⟨by rw [HR.out]; rfl, (Below.refl _ _).alloc (Nat.le_refl _) _⟩
    · have hk' : ¬ (k : Int) = 0 := by omega
      have HK : Hid (decide (k ≠ 0) = true) := hid (by simp [hk])
      go_wp2
      go_ret
      exact ⟨by rw [HR.out, HK.out]; simp [hk], (Below.refl _ _).alloc (Nat.le_refl _) _⟩
end Go.Proofs.YtoajckhnneagnaaDoor.Sh
namespace Go.Proofs.YtoajckhnneagnaaDoor.Sh
open Go Go.RowKit

def E0 : ByteArray := ⟨#[]⟩
structure Crd where
  d : Int
  q : Int
  nm : ByteArray
  kd : Int
  wh : ByteArray
  ao : ByteArray
  an : ByteArray
  bo : ByteArray
  bn : ByteArray
def Crd.cells (c : Crd) : List Value := [.int .i64 c.d, .int .i64 c.q, .string c.nm, .int .i64 c.kd, .string c.wh, .string c.ao, .string c.an, .string c.bo, .string c.bn]
def Crd.zero : Crd := ⟨0, 0, E0, 0, E0, E0, E0, E0, E0⟩
def mayB (s : ByteArray) : Bool := mayL s.data.toList
def roleB (o n : ByteArray) : Bool := roleL o.data.toList n.data.toList
theorem ba_eq {a b : ByteArray} (h : a.data.toList = b.data.toList) : a = b := by
  rw [← Lib.mk_data a, ← Lib.mk_data b, h]
def kindOk (c : Crd) : Bool :=
  if c.kd = 1 then mayB c.wh && decide (c.ao = E0 ∧ c.an = E0) && decide (c.bo = E0 ∧ c.bn = E0)
  else decide (c.wh = E0) && (if c.kd = 2 then roleB c.ao c.an && decide (c.bo = E0 ∧ c.bn = E0)
    else if c.kd = 3 then (mayB c.an && decide (c.ao = E0)) && (mayB c.bn && decide (c.bo = E0))
    else if c.kd = 4 then roleB c.ao c.an && roleB c.bo c.bn else false)
def headOk (c : Crd) : Bool := decide (1 ≤ c.d ∧ c.d ≤ 16 ∧ 1 ≤ c.q ∧ c.q ≤ 4000) && mayB c.nm
def mayC (c : Crd) : Bool := headOk c && kindOk c
def domB (d : Int) : ByteArray := ⟨(domL d).toArray⟩
section
variable (d q : Int) (nm : ByteArray) (l : List UInt8) (p : Nat) (e : Int)
end

theorem mayL_size {s : ByteArray} (h : mayL s.data.toList = true) : s.size ≤ 8 := by
  rw [← size_list]
  cases hl : s.data.toList with
  | nil => simp
  | cons x t =>
    rw [hl, mayL_cons] at h
    simp only [Bool.and_eq_true, decide_eq_true_eq] at h
    simp; omega
theorem may_head {c : Crd} (h : mayC c = true) : 1 ≤ c.d ∧ c.d ≤ 16 ∧ 1 ≤ c.q ∧ c.q ≤ 4000 ∧ mayL c.nm.data.toList = true := by
  unfold mayC headOk mayB at h
  simp only [Bool.and_eq_true, decide_eq_true_eq] at h
  exact ⟨h.1.1.1, h.1.1.2.1, h.1.1.2.2.1, h.1.1.2.2.2, h.1.2⟩
theorem may_kind {c : Crd} (h : mayC c = true) : (c.kd = 1 ∧ mayL c.wh.data.toList = true ∧ c.ao = E0 ∧ c.an = E0 ∧ c.bo = E0 ∧ c.bn = E0) ∨
    (c.kd = 2 ∧ c.wh = E0 ∧ roleL c.ao.data.toList c.an.data.toList = true ∧ c.bo = E0 ∧ c.bn = E0) ∨
    (c.kd = 3 ∧ c.wh = E0 ∧ c.ao = E0 ∧ mayL c.an.data.toList = true ∧ c.bo = E0 ∧ mayL c.bn.data.toList = true) ∨
    (c.kd = 4 ∧ c.wh = E0 ∧ roleL c.ao.data.toList c.an.data.toList = true ∧ roleL c.bo.data.toList c.bn.data.toList = true) := by
  unfold mayC at h
  rw [Bool.and_eq_true] at h
  have h := h.2
  unfold kindOk mayB roleB at h
  split at h
  · simp only [Bool.and_eq_true, decide_eq_true_eq] at h
    rename_i hk
    exact .inl ⟨hk, h.1.1, h.1.2.1, h.1.2.2, h.2.1, h.2.2⟩
  · rw [Bool.and_eq_true, decide_eq_true_eq] at h
    obtain ⟨hw, h⟩ := h
    split at h
    · simp only [Bool.and_eq_true, decide_eq_true_eq] at h
      rename_i hk
      exact .inr (.inl ⟨hk, hw, h.1, h.2.1, h.2.2⟩)
    · split at h
      · simp only [Bool.and_eq_true, decide_eq_true_eq] at h
        rename_i hk
        exact .inr (.inr (.inl ⟨hk, hw, h.1.2, h.1.1, h.2.2, h.2.1⟩))
      · split at h
        · simp only [Bool.and_eq_true] at h
          rename_i hk
          exact .inr (.inr (.inr ⟨hk, hw, h.1, h.2⟩))
        · cases h
end Go.Proofs.YtoajckhnneagnaaDoor.Sh
namespace Go.Proofs.YtoajckhnneagnaaDoor.Sh
open Go Go.RowKit

end Go.Proofs.YtoajckhnneagnaaDoor.Sh
namespace Go.Proofs.YtoajckhnneagnaaDoor.Sh
open Go Go.RowKit

end Go.Proofs.YtoajckhnneagnaaDoor.Sh
