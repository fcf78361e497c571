/-
  Strings as bytes: append(b, s...), []byte(s).
-/
import Derived.Test.YtghejdlijcmbbaaDoorJm2
import Derived.Lib.AppendStr
import Derived.WalkKit
import Derived.Lib.Strings
import Derived.Laws.RangeAny
set_option linter.unusedVariables false
set_option linter.unusedSimpArgs false
namespace Go.Proofs.YtghejdlijcmbbaaDoor.Sh
open Go Go.RowKit

theorem strCells_bv (s : ByteArray) : Lib.strCells s = bv s.data.toList := rfl
theorem size_list (s : ByteArray) : s.data.toList.length = s.size := by rw [Array.length_toList]; rfl

/-- 'append(b, s...)', s a string. -/
theorem wpList_appS {ops : Array Oper} {rest : List Oper} {o : Oper} {a : Act} {w : World} {Q : Exit → Act → World → Prop} (hgd : o.guard = none) (s x : Operand)
    (ho : o.op = .call { callee := .builtin .append, args := #[s, x], argTypes := #[124, 9] })
    (B : Nat) (v : Value) (n : Nat) (l : List UInt8) (hown : OwnB w B v n l) (hs : a.eval s = v)
    (k : ByteArray) (hx : a.eval x = .string k) (hb : n + k.size ≤ 70368744177664) (hbase : B ≤ w.heap.size) (w0 : World) (hbel : Below B w0 w) (n' : Nat) (hn : n + k.size = n')
    (h : ∀ A' c' w', OwnB w' B (.slice A' n' c') n' (l ++ k.data.toList) → w.grownBy w' v.ownBlock → Below B w0 w' → wpList Tryd.prog ops Q rest (a.put o.dst (.slice A' n' c')) w') : wpList Tryd.prog ops Q (o :: rest) a w := by
  subst hn
  obtain ⟨i0, hi0, hz0, hz1, hz2⟩ := info_parts info_u8
  refine wpList_plain hgd fun K hK => ?_
  obtain ⟨v', w', hrun, h2, h3, _⟩ := Lib.run_append_own_string (P := Tryd.prog) w B 124 9 o.type 5 i0 Tryd.underlying124 Tryd.underlying9 hi0 hz0 hz1 hz2 v n (bv l) hown k (by unfold maxLen; omega) (by omega) hbase
  obtain ⟨A', c', rfl, _⟩ := own_slice h2
  unfold Oper.wp execOp
  simp only [ho, resolve, invoke, builtin, Sem.run_bind, Sem.run_pure, Result.andThen_ok, List.map_toArray, List.map_cons, List.map_nil, hs, hx, hrun]
  exact hK _ _ (h A' c' w' (by unfold OwnB; rw [bv_append]; exact h2) h3 (below_app hown hbel hbase h3))

/-- '[]byte(s)'. -/
theorem run_conv (w : World) (s : ByteArray) (hm : s.size ≤ 9223372036854775807) :
    ∃ c w', (convert 9 124 (.string s)).run Tryd.prog w = .ok (.slice (some ⟨w.heap.size, 0, none⟩) s.size c) w' ∧ s.size ≤ c ∧ c ≤ 9223372036854775807 ∧ w.heap.size < w'.heap.size ∧ Byt w' w'.heap.size (some ⟨w.heap.size, 0, none⟩) s.data.toList ∧ Below w.heap.size w w' := by
  have hr := run_bytes_of_string (P := Tryd.prog) w 9 124 5 s Tryd.underlying9 Tryd.underlying124 Tryd.underlying5
  refine ⟨_, _, hr, grownCap_ge _ _ _ _, ?_, by simp, fun _ => ⟨_, rfl, by simp, fun j x hx => ?_⟩, ((Below.refl _ _).drew).alloc (w := w.drew) (Nat.le_refl _) _⟩
  · have h := grownCap_le_maxLen w s.size 0 5 (by unfold maxLen; exact hm)
    unfold maxLen at h
    exact h
  · refine World.news_of_block (cs := bytesRow s (grownCap w s.size 0 5)) (t := 5) (heap_alloc_new w.drew _) j _ ?_
    have hj : j < s.data.size := by have := (List.getElem?_eq_some_iff.1 hx).1; simpa using this
    simp only [bytesRow, Array.toList_append, Array.toList_map]
    rw [List.getElem?_append_left (by simpa using hj)]
    simp [hx]
theorem wpList_conv {ops : Array Oper} {rest : List Oper} {o : Oper} {a : Act} {w : World} {Q : Exit → Act → World → Prop} (hgd : o.guard = none) (x : Operand)
    (ho : o.op = .convert 9 124 x) (s : ByteArray) (hx : a.eval x = .string s) (hm : s.size ≤ 9223372036854775807)
    (h : ∀ c w', s.size ≤ c → c ≤ 9223372036854775807 → w.heap.size < w'.heap.size → Byt w' w'.heap.size (some ⟨w.heap.size, 0, none⟩) s.data.toList → Below w.heap.size w w' → wpList Tryd.prog ops Q rest (a.put o.dst (.slice (some ⟨w.heap.size, 0, none⟩) s.size c)) w') : wpList Tryd.prog ops Q (o :: rest) a w := by
  refine wpList_plain hgd fun K hK => ?_
  obtain ⟨c, w', hr, h1, h2, h3, h4, h5⟩ := run_conv w s hm
  unfold Oper.wp execOp
  simp only [ho, hx, Sem.run_bind, Sem.run_pure, hr, Result.andThen_ok]
  exact hK _ _ (h c w' h1 h2 h3 h4 h5)
end Go.Proofs.YtghejdlijcmbbaaDoor.Sh
/-
  Names, domains and roles: what the document asks, on lists of bytes. Plain lemmas; nothing of the program.
-/
namespace Go.Proofs.YtghejdlijcmbbaaDoor.Sh

def letter (x : UInt8) : Bool := 97 ≤ x.toNat && x.toNat ≤ 122
def digit (x : UInt8) : Bool := 48 ≤ x.toNat && x.toNat ≤ 57
/-- A name. -/
def mayL (l : List UInt8) : Bool := match l with
  | [] => false
  | x :: t => letter x && t.all (fun y => letter y || digit y) && decide (t.length ≤ 7)
/-- The domain of a name, 0 if there is none. -/
def numL (l : List UInt8) : Nat := match l with
  | [d, x] => if d = 100 ∧ 49 ≤ x.toNat ∧ x.toNat ≤ 57 then x.toNat - 48 else 0
  | [d, x, y] => if d = 100 ∧ 49 ≤ x.toNat ∧ x.toNat ≤ 57 ∧ 48 ≤ y.toNat ∧ y.toNat ≤ 57 ∧ 10 * (x.toNat - 48) + (y.toNat - 48) ≤ 16 then 10 * (x.toNat - 48) + (y.toNat - 48) else 0
  | _ => 0
/-- The name of a domain, none if there is none. -/
def domL (n : Int) : List UInt8 :=
  if n < 1 ∨ 16 < n then []
  else if n < 10 then [100, UInt8.ofNat (48 + n.toNat)]
  else [100, 49, UInt8.ofNat (38 + n.toNat)]
def roleL (o n : List UInt8) : Bool := mayL n && decide (numL o ≠ 0)
/-- A text cut at its first '.'. -/
def cutDot : List UInt8 → Option (List UInt8 × List UInt8)
  | [] => none
  | x :: t => if x = 46 then some ([], t) else (cutDot t).map fun p => (x :: p.1, p.2)
/-- The role of a text. -/
def readL (l : List UInt8) : Option (List UInt8 × List UInt8) := (cutDot l).filter fun p => roleL p.1 p.2

theorem numL_domL (n : Int) (h1 : 1 ≤ n) (h2 : n ≤ 16) : numL (domL n) = n.toNat := by
  obtain ⟨k, rfl⟩ := Int.eq_ofNat_of_zero_le (show 0 ≤ n by omega)
  have hk1 : 1 ≤ k := by omega
  have hk2 : k ≤ 16 := by omega
  match k, hk1, hk2 with
  | 1, _, _ | 2, _, _ | 3, _, _ | 4, _, _ | 5, _, _ | 6, _, _ | 7, _, _ | 8, _, _ | 9, _, _ | 10, _, _ | 11, _, _ | 12, _, _ | 13, _, _ | 14, _, _ | 15, _, _ | 16, _, _ => decide +kernel
theorem domL_may (n : Int) (h1 : 1 ≤ n) (h2 : n ≤ 16) : mayL (domL n) = true := by
  obtain ⟨k, rfl⟩ := Int.eq_ofNat_of_zero_le (show 0 ≤ n by omega)
  have hk1 : 1 ≤ k := by omega
  have hk2 : k ≤ 16 := by omega
  match k, hk1, hk2 with
  | 1, _, _ | 2, _, _ | 3, _, _ | 4, _, _ | 5, _, _ | 6, _, _ | 7, _, _ | 8, _, _ | 9, _, _ | 10, _, _ | 11, _, _ | 12, _, _ | 13, _, _ | 14, _, _ | 15, _, _ | 16, _, _ => decide +kernel
theorem domL_none (n : Int) (h : n < 1 ∨ 16 < n) : domL n = [] := if_pos h
/-- No other name is a domain's. -/
theorem domL_numL (l : List UInt8) (h : numL l ≠ 0) : domL (numL l : Int) = l ∧ 1 ≤ numL l ∧ numL l ≤ 16 := by
  match l with
  | [] => exact absurd rfl h
  | [_] => exact absurd rfl h
  | [d, x] =>
    have hx : x.toNat < 256 := x.toNat_lt
    by_cases hc : d = 100 ∧ 49 ≤ x.toNat ∧ x.toNat ≤ 57
    · have e : numL [d, x] = x.toNat - 48 := if_pos hc
      rw [e]
      refine ⟨?_, by omega, by omega⟩
      unfold domL
      rw [if_neg (by omega), if_pos (by omega), hc.1]
      congr 2
      apply UInt8.toNat_inj.1
      rw [UInt8.toNat_ofNat']
      omega
    · exact absurd (if_neg hc) h
  | [d, x, y] =>
    have hy : y.toNat < 256 := y.toNat_lt
    by_cases hc : d = 100 ∧ 49 ≤ x.toNat ∧ x.toNat ≤ 57 ∧ 48 ≤ y.toNat ∧ y.toNat ≤ 57 ∧ 10 * (x.toNat - 48) + (y.toNat - 48) ≤ 16
    · have e : numL [d, x, y] = 10 * (x.toNat - 48) + (y.toNat - 48) := if_pos hc
      rw [e]
      refine ⟨?_, by omega, by omega⟩
      unfold domL
      have hx : x = 49 := UInt8.toNat_inj.1 (by show x.toNat = 49; omega)
      rw [if_neg (by omega), if_neg (by omega), hc.1, hx]
      congr 3
      apply UInt8.toNat_inj.1
      rw [UInt8.toNat_ofNat']
      subst hx
      have h49 : (49 : UInt8).toNat = 49 := rfl
      rw [h49] at hc ⊢
      omega
    · exact absurd (if_neg hc) h
  | _ :: _ :: _ :: _ :: _ => exact absurd rfl h
theorem domL_dot (n : Nat) (h2 : n ≤ 16) : ∀ x ∈ domL (n : Int), x ≠ 46 := by
  have h : ∀ k : Fin 17, ∀ x ∈ domL (k.val : Int), x ≠ 46 := by decide +kernel
  exact h ⟨n, by omega⟩
/-- No name has a '.'. -/
theorem no_dot_num {l : List UInt8} (h : numL l ≠ 0) : ∀ x ∈ l, x ≠ 46 := by
  obtain ⟨h1, _, h3⟩ := domL_numL l h
  rw [← h1]
  exact domL_dot _ h3
theorem cutDot_join (o n : List UInt8) (h : ∀ x ∈ o, x ≠ 46) : cutDot (o ++ 46 :: n) = some (o, n) := by
  induction o with
  | nil => rfl
  | cons x t ih =>
    have hx : x ≠ 46 := h x (by simp)
    simp only [List.cons_append, cutDot]
    rw [if_neg hx, ih (fun y hy => h y (by simp [hy]))]
    rfl
theorem cutDot_some {l o n : List UInt8} (h : cutDot l = some (o, n)) : l = o ++ 46 :: n ∧ ∀ x ∈ o, x ≠ 46 := by
  induction l generalizing o n with
  | nil => simp [cutDot] at h
  | cons x t ih =>
    simp only [cutDot] at h
    split at h
    · rename_i hx
      simp only [Option.some.injEq, Prod.mk.injEq] at h
      obtain ⟨rfl, rfl⟩ := h
      exact ⟨by rw [hx]; rfl, fun _ h => absurd h (by simp)⟩
    · rename_i hx
      rw [Option.map_eq_some_iff] at h
      obtain ⟨⟨a, b⟩, h1, h2⟩ := h
      simp only [Prod.mk.injEq] at h2
      obtain ⟨rfl, rfl⟩ := h2
      obtain ⟨h3, h4⟩ := ih h1
      refine ⟨by rw [h3]; rfl, fun y hy => ?_⟩
      rcases List.mem_cons.1 hy with rfl | hy
      · exact hx
      · exact h4 y hy
theorem cutDot_none {l : List UInt8} : cutDot l = none ↔ ∀ x ∈ l, x ≠ 46 := by
  induction l with
  | nil => simp [cutDot]
  | cons x t ih =>
    simp only [cutDot]
    by_cases hx : x = 46
    · simp [hx]
    · rw [if_neg hx]
      simp [ih, hx]
/-- A role is read from its text. -/
theorem readL_text {o n : List UInt8} (h : roleL o n = true) : readL (o ++ 46 :: n) = some (o, n) := by
  have h2 := h
  unfold roleL at h2
  simp only [Bool.and_eq_true, decide_eq_true_eq] at h2
  unfold readL
  rw [cutDot_join o n (no_dot_num h2.2)]
  simp [Option.filter, h]
/-- No other text has it. -/
theorem readL_some {l o n : List UInt8} (h : readL l = some (o, n)) : l = o ++ 46 :: n ∧ roleL o n = true := by
  unfold readL at h
  rw [Option.filter_eq_some_iff] at h
  exact ⟨(cutDot_some h.1).1, h.2⟩
/-- Of a text with its first '.' at i. -/
theorem cutDot_at {l : List UInt8} {i : Nat} (h : ∀ x ∈ l.take i, x ≠ 46) (hi : l[i]? = some 46) : cutDot l = some (l.take i, l.drop (i + 1)) := by
  have hl : l = l.take i ++ 46 :: l.drop (i + 1) := by
    have h2 : i < l.length := (List.getElem?_eq_some_iff.1 hi).1
    have h3 : l[i] = 46 := (List.getElem?_eq_some_iff.1 hi).2
    rw [← h3, List.getElem_cons_drop, List.take_append_drop]
  conv => lhs; rw [hl]
  exact cutDot_join _ _ h
end Go.Proofs.YtghejdlijcmbbaaDoor.Sh
/-
  The document's own May, Number, Domain.
-/
namespace Go.Proofs.YtghejdlijcmbbaaDoor.Sh
open Go Go.RowKit

/-- A byte of a text. -/
theorem sget (s : ByteArray) {j : Nat} {x : UInt8} (hx : s.data.toList[j]? = some x) : ∃ h : j < s.size, s[j]'h = x := by
  have h : j < s.data.toList.length := (List.getElem?_eq_some_iff.1 hx).1
  rw [size_list] at h
  refine ⟨h, ?_⟩
  have h2 := (List.getElem?_eq_some_iff.1 hx).2
  rw [← h2]
  rfl
def okName (y : UInt8) : Bool := letter y || digit y
theorem mayL_cons (x : UInt8) (t : List UInt8) : mayL (x :: t) = (letter x && t.all okName && decide (t.length ≤ 7)) := rfl

end Go.Proofs.YtghejdlijcmbbaaDoor.Sh
/-
  The document's own Number and Domain.
-/
namespace Go.Proofs.YtghejdlijcmbbaaDoor.Sh
open Go Go.RowKit

theorem numL_two (d x : UInt8) : numL [d, x] = if d = 100 ∧ 49 ≤ x.toNat ∧ x.toNat ≤ 57 then x.toNat - 48 else 0 := rfl
theorem numL_three (d x y : UInt8) : numL [d, x, y] = if d = 100 ∧ 49 ≤ x.toNat ∧ x.toNat ≤ 57 ∧ 48 ≤ y.toNat ∧ y.toNat ≤ 57 ∧ 10 * (x.toNat - 48) + (y.toNat - 48) ≤ 16 then 10 * (x.toNat - 48) + (y.toNat - 48) else 0 := rfl
theorem ne100 {d : UInt8} (h : ¬ d.toNat = 100) : ¬ d = 100 := fun e => h (by rw [e]; rfl)

end Go.Proofs.YtghejdlijcmbbaaDoor.Sh
/-
  The document's own Domain, Text, Less.
-/
namespace Go.Proofs.YtghejdlijcmbbaaDoor.Sh
open Go Go.RowKit

theorem conv_one (w : World) (x : UInt8) (z : Int) (hz : z = (x.toNat : Int)) (src t : TypeId) (fr : Nat × Nat) (c : Nat) (hs : Tryd.prog.underlying src = some (.slice 5)) :
    (convert src 9 (.slice (some ⟨w.heap.size, 0, none⟩) 1 c)).run Tryd.prog (w.alloc (.cells #[.int .u8 z] t fr)) = .ok (.string ⟨[x].toArray⟩) (w.alloc (.cells #[.int .u8 z] t fr)) := by
  subst hz
  refine run_convert_bytes_back _ src 9 5 _ c [x] hs Tryd.underlying5 Tryd.underlying9 (fun j hj => ?_)
  obtain ⟨ad, he, hc⟩ := reads_one w x t fr (by simp [bv])
  obtain rfl := Option.some.inj he
  have hj0 : j = 0 := by simp at hj; omega
  subst hj0
  exact hc 0 _ rfl
/-- The text of a role. -/
def textB (o n : ByteArray) : ByteArray := o ++ ⟨#[46]⟩ ++ n
theorem textB_list (o n : ByteArray) : (textB o n).data.toList = o.data.toList ++ 46 :: n.data.toList := by
  unfold textB
  simp [ByteArray.data_append]
end Go.Proofs.YtghejdlijcmbbaaDoor.Sh
/-
  Credentials: what the document asks, in plain functions; the round trip, and the texts. Nothing of the program's own text.
-/
namespace Go.Proofs.YtghejdlijcmbbaaDoor.Sh
open Go Go.RowKit

def E0 : ByteArray := ⟨#[]⟩
structure Crd where
  d : Int
  q : Int
  nm : ByteArray
  kd : Int
  wh : ByteArray
  ao : ByteArray
  an : ByteArray
  bo : ByteArray
  bn : ByteArray
/-- The nine cells of a credential. -/
def Crd.cells (c : Crd) : List Value := [.int .i64 c.d, .int .i64 c.q, .string c.nm, .int .i64 c.kd, .string c.wh, .string c.ao, .string c.an, .string c.bo, .string c.bn]
def Crd.zero : Crd := ⟨0, 0, E0, 0, E0, E0, E0, E0, E0⟩
def mayB (s : ByteArray) : Bool := mayL s.data.toList
def roleB (o n : ByteArray) : Bool := roleL o.data.toList n.data.toList
theorem e0_list : E0.data.toList = [] := rfl
theorem ba_eq {a b : ByteArray} (h : a.data.toList = b.data.toList) : a = b := by
  rw [← Lib.mk_data a, ← Lib.mk_data b, h]
theorem mk_toList (l : List UInt8) : (⟨l.toArray⟩ : ByteArray).data.toList = l := rfl
theorem mayB_e0 : mayB E0 = false := rfl
theorem roleB_e0 (n : ByteArray) : roleB E0 n = false := by unfold roleB roleL; simp [e0_list, numL]
/-- What its kind asks. -/
def kindOk (c : Crd) : Bool :=
  if c.kd = 1 then mayB c.wh && decide (c.ao = E0 ∧ c.an = E0) && decide (c.bo = E0 ∧ c.bn = E0)
  else decide (c.wh = E0) && (if c.kd = 2 then roleB c.ao c.an && decide (c.bo = E0 ∧ c.bn = E0)
    else if c.kd = 3 then (mayB c.an && decide (c.ao = E0)) && (mayB c.bn && decide (c.bo = E0))
    else if c.kd = 4 then roleB c.ao c.an && roleB c.bo c.bn else false)
def headOk (c : Crd) : Bool := decide (1 ≤ c.d ∧ c.d ≤ 16 ∧ 1 ≤ c.q ∧ c.q ≤ 4000) && mayB c.nm
def mayC (c : Crd) : Bool := headOk c && kindOk c
/-- Its text. -/
def domB (d : Int) : ByteArray := ⟨(domL d).toArray⟩
/-! ### a step of reading -/
section
variable (d q : Int) (nm : ByteArray) (l : List UInt8) (p : Nat) (e : Int)
end

/-! ### forward -/
theorem mayL_size {s : ByteArray} (h : mayL s.data.toList = true) : s.size ≤ 8 := by
  rw [← size_list]
  cases hl : s.data.toList with
  | nil => simp
  | cons x t =>
    rw [hl, mayL_cons] at h
    simp only [Bool.and_eq_true, decide_eq_true_eq] at h
    simp; omega
theorem may_head {c : Crd} (h : mayC c = true) : 1 ≤ c.d ∧ c.d ≤ 16 ∧ 1 ≤ c.q ∧ c.q ≤ 4000 ∧ mayL c.nm.data.toList = true := by
  unfold mayC headOk mayB at h
  simp only [Bool.and_eq_true, decide_eq_true_eq] at h
  exact ⟨h.1.1.1, h.1.1.2.1, h.1.1.2.2.1, h.1.1.2.2.2, h.1.2⟩
theorem may_kind {c : Crd} (h : mayC c = true) : (c.kd = 1 ∧ mayL c.wh.data.toList = true ∧ c.ao = E0 ∧ c.an = E0 ∧ c.bo = E0 ∧ c.bn = E0) ∨
    (c.kd = 2 ∧ c.wh = E0 ∧ roleL c.ao.data.toList c.an.data.toList = true ∧ c.bo = E0 ∧ c.bn = E0) ∨
    (c.kd = 3 ∧ c.wh = E0 ∧ c.ao = E0 ∧ mayL c.an.data.toList = true ∧ c.bo = E0 ∧ mayL c.bn.data.toList = true) ∨
    (c.kd = 4 ∧ c.wh = E0 ∧ roleL c.ao.data.toList c.an.data.toList = true ∧ roleL c.bo.data.toList c.bn.data.toList = true) := by
  unfold mayC at h
  rw [Bool.and_eq_true] at h
  have h := h.2
  unfold kindOk mayB roleB at h
  split at h
  · simp only [Bool.and_eq_true, decide_eq_true_eq] at h
    rename_i hk
    exact .inl ⟨hk, h.1.1, h.1.2.1, h.1.2.2, h.2.1, h.2.2⟩
  · rw [Bool.and_eq_true, decide_eq_true_eq] at h
    obtain ⟨hw, h⟩ := h
    split at h
    · simp only [Bool.and_eq_true, decide_eq_true_eq] at h
      rename_i hk
      exact .inr (.inl ⟨hk, hw, h.1, h.2.1, h.2.2⟩)
    · split at h
      · simp only [Bool.and_eq_true, decide_eq_true_eq] at h
        rename_i hk
        exact .inr (.inr (.inl ⟨hk, hw, h.1.2, h.1.1, h.2.2, h.2.1⟩))
      · split at h
        · simp only [Bool.and_eq_true] at h
          rename_i hk
          exact .inr (.inr (.inr ⟨hk, hw, h.1, h.2⟩))
        · cases h
end Go.Proofs.YtghejdlijcmbbaaDoor.Sh
/-
  Credentials: what is read was put; texts apart. Plain lemmas.
-/
namespace Go.Proofs.YtghejdlijcmbbaaDoor.Sh
open Go Go.RowKit

/-! ### texts apart -/
theorem may_bytes {l : List UInt8} (h : mayL l = true) : ∀ x ∈ l, letter x = true ∨ digit x = true := by
  cases l with
  | nil => intro x hx; cases hx
  | cons y t =>
    rw [mayL_cons] at h
    simp only [Bool.and_eq_true, decide_eq_true_eq, List.all_eq_true] at h
    intro x hx
    rcases List.mem_cons.1 hx with rfl | hx
    · exact .inl h.1.1
    · have := h.1.2 x hx
      unfold okName at this
      rwa [Bool.or_eq_true] at this
theorem may_count {l : List UInt8} (h : mayL l = true) (s : UInt8) (hs : letter s = false) (hs2 : digit s = false) : l.count s = 0 := by
  rw [List.count_eq_zero]
  intro hm
  rcases may_bytes h s hm with k | k
  · rw [hs] at k; cases k
  · rw [hs2] at k; cases k
theorem dom_count (d : Int) (h1 : 1 ≤ d) (h2 : d ≤ 16) (s : UInt8) (hs : letter s = false) (hs2 : digit s = false) : (domL d).count s = 0 := may_count (domL_may d h1 h2) s hs hs2
end Go.Proofs.YtghejdlijcmbbaaDoor.Sh
/-
  Credentials: unlike ones have unlike texts, but for their Seq. Plain lemmas.
-/
namespace Go.Proofs.YtghejdlijcmbbaaDoor.Sh
open Go Go.RowKit

theorem l46 : letter 46 = false := rfl
theorem d46 : digit 46 = false := rfl
theorem l32 : letter 32 = false := rfl
theorem d32 : digit 32 = false := rfl
theorem domL_inj {d d' : Int} (h1 : 1 ≤ d) (h2 : d ≤ 16) (h3 : 1 ≤ d') (h4 : d' ≤ 16) (e : domL d = domL d') : d = d' := by
  have a := numL_domL d h1 h2
  have b := numL_domL d' h3 h4
  rw [e, b] at a
  omega
end Go.Proofs.YtghejdlijcmbbaaDoor.Sh
