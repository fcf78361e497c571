/-
  The program's own set: its struct of sixteen rows behind a pointer, each row in a block of its own; within, row, Clone, Contains, Row, Has, New, by contract.
-/
import Derived.Test.YtifoppnpgljphaaReGrw
import Derived.Deep.Cut
import Derived.KernelRfl
namespace Go.Proofs.Ytifoppnpgljphaa.Sh
open Go Go.RowKit

set_option linter.unusedSimpArgs false
set_option linter.unusedVariables false
/-- The program's set: g is its struct; its rows, each one's block its own, lie in blocks P. -/
structure RowsP (w : World) (P : Nat → Prop) (g : Nat) (hs : Nat → Hd) (cs : Array Value) (S : Nat → List Int) : Prop where
  heap : w.heap[g]? = some (.cells cs 55 (0, 0))
  size : cs.size = 16
  cell : ∀ i, i < 16 → cs[i]? = some (hs i).val
  len : ∀ i, i < 16 → (S i).length = (hs i).n
  own : ∀ i, i < 16 → Own (E := encN) w 0 3 (hs i).val (S i)
  blk : ∀ i b, i < 16 → (hs i).val.ownBlock = some b → P b
  apart : ∀ i j b, i < 16 → j < 16 → i ≠ j → (hs i).val.ownBlock = some b → (hs j).val.ownBlock ≠ some b
structure SetP (w : World) (P : Nat → Prop) (g : Nat) (S : Nat → List Int) : Prop where
  rows : ∃ (hs : Nat → Hd) (cs : Array Value), RowsP w P g hs cs S
  ng : ¬ P g
  ok : OkS S
theorem RowsP.lt {w : World} {P : Nat → Prop} {g : Nat} {hs : Nat → Hd} {cs : Array Value} {S : Nat → List Int} (h : RowsP w P g hs cs S) : g < w.heap.size := (Array.getElem?_eq_some_iff.1 h.heap).1
theorem SetP.lt {w : World} {P : Nat → Prop} {g : Nat} {S : Nat → List Int} (h : SetP w P g S) : g < w.heap.size := by
  obtain ⟨hs, cs, r⟩ := h.rows
  exact r.lt
theorem RowsP.kept {w w' : World} {P Q : Nat → Prop} {g : Nat} {hs : Nat → Hd} {cs : Array Value} {S : Nat → List Int} (h : RowsP w P g hs cs S) (hk : ∀ b, (P b ∨ b = g) → b < w.heap.size → w'.heap[b]? = w.heap[b]?) 
    (hq : ∀ b, P b → b < w.heap.size → Q b) : RowsP w' Q g hs cs S :=
  ⟨(hk g (.inr rfl) h.lt).trans h.heap, h.size, h.cell, h.len, fun i hi => (h.own i hi).kept fun b e => hk b (.inl (h.blk i b hi e)) ((h.own i hi).lt b e).2, fun i b hi e => hq b (h.blk i b hi e) ((h.own i hi).lt b e).2, h.apart⟩
theorem SetP.kept {w w' : World} {P Q : Nat → Prop} {g : Nat} {S : Nat → List Int} (h : SetP w P g S) (hk : ∀ b, (P b ∨ b = g) → b < w.heap.size → w'.heap[b]? = w.heap[b]?) (hs : w.heap.size ≤ w'.heap.size)
    (hq : ∀ b, P b → b < w.heap.size → Q b) (n1 : ¬ Q g) : SetP w' Q g S := by
  obtain ⟨hd, cs, r⟩ := h.rows
  exact ⟨⟨hd, cs, r.kept hk hq⟩, n1, h.ok⟩
theorem SetP.imp {w : World} {P Q : Nat → Prop} {g : Nat} {S : Nat → List Int} (h : SetP w P g S) (hq : ∀ b, P b → b < w.heap.size → Q b) (n1 : ¬ Q g) : SetP w Q g S := h.kept (fun _ _ _ => rfl) (Nat.le_refl _) hq n1
theorem Own.asFrs {w : World} {B : Nat} {A : Option Addr} {n c : Nat} {l : List Int} (h : Own (E := encN) w B 3 (.slice A n c) l) (hn : l.length = n) : n ≤ c ∧ c ≤ 9223372036854775807 ∧ Frs w B A n l := by
  obtain ⟨A', c', e, h1, h2, -⟩ := h.els
  simp only [Value.slice.injEq] at e
  obtain ⟨e1, e2, e3⟩ := e
  exact ⟨by omega, by omega, h.frs hn⟩
theorem within_any (n m : Int) (w : World) :
    Calls Try.prog 38 #[.int .i64 n, .int .i64 m] w fun e w' => e = .returned (.bool (decide (1 ≤ n ∧ n ≤ m))) ∧ w = w' := by
  by_cases h1 : 1 ≤ n
  · by_cases h2 : n ≤ m
    · rw [show decide (1 ≤ n ∧ n ≤ m) = true from decide_eq_true ⟨h1, h2⟩]
      go_enter Try.func38, Try.ntmps38
      go_wp2_with fail
      go_ret
      exact ⟨rfl, rfl⟩
    · rw [show decide (1 ≤ n ∧ n ≤ m) = false from decide_eq_false (fun h => h2 h.2)]
      go_enter Try.func38, Try.ntmps38
      go_wp2_with fail
      go_ret
      exact ⟨rfl, rfl⟩
  · rw [show decide (1 ≤ n ∧ n ≤ m) = false from decide_eq_false (fun h => h1 h.1)]
    go_enter Try.func38, Try.ntmps38
    go_wp2_with fail
    go_ret
    exact ⟨rfl, rfl⟩
theorem idxN_any (A : Option Addr) (l : List Int) (n c : Nat) (hn : l.length = n) (hm : n ≤ 1099511627776) (z : Int) (w : World) (h : Els encN w w.heap.size A l) :
    Calls Try.prog 43 #[.slice A n c, .int .i64 z] w fun e w' => ∃ i : Int, e = .returned (.int .i64 i) ∧ decide (0 ≤ i) = decide (z ∈ l) ∧ w = w' := by
  have HN := hid hn
  have HX := hid h
  clear h hn
  go_enter Try.func43, Try.ntmps43
  go_wp2_with fail
  go_loopw [8] (fun i wr => ∃ k : Nat, k ≤ n ∧ i = .int .i64 (k : Int) ∧ Hid (z ∉ l.take k) ∧ wr = w) (fun i _ => n - (intOf i).toNat)
  case atStart => exact ⟨0, Nat.zero_le _, rfl, hid (by simp), rfl⟩
  case round =>
    obtain ⟨k, hk, rfl, HP, hw⟩ := hrel
    have hw2 : w = wr := hw.symm
    subst hw2
    have hk0 : (0 : Int) ≤ (k : Int) := Int.natCast_nonneg _
    by_cases hlt : k < n
    · obtain ⟨x, hx⟩ : ∃ x, l[k]? = some x := ⟨_, List.getElem?_eq_getElem (by rw [HN.out]; exact hlt)⟩
      obtain ⟨ad, rfl, hab, ha⟩ := HX.out.num hx
      have HXX := hid hx
      have hk1 : (k : Int) < (n : Int) := by omega
      clear hx hab hw
      by_cases he : z = x
      · subst he
        have HE : Hid (decide ((0 : Int) ≤ (k : Int)) = decide (z ∈ l)) := hid (by rw [decide_eq_true hk0, decide_eq_true (List.mem_of_getElem? HXX.out)])
        go_wp2_with fail
        go_ret
        exact ⟨_, rfl, HE.out, rfl⟩
      · have h1 : (z == x) = false := beq_eq_false_iff_ne.2 he
        have HT : Hid (z ∉ l.take (k + 1)) := hid (by
          rw [take_snoc_of HXX.out, List.mem_append, not_or]
          exact ⟨HP.out, by simpa using he⟩)
        go_wp2_with fail
        go_roundw
        case rel => exact ⟨k + 1, by omega, by go_num, HT, by first | rfl | trivial⟩
        case measure => simp [intOf]; omega
    · obtain rfl : k = n := by omega
      have HE : Hid (decide ((0 : Int) ≤ (-1 : Int)) = decide (z ∈ l)) := hid (by
        have := HP.out
        rw [List.take_of_length_le (by rw [HN.out]; exact Nat.le_refl _)] at this
        rw [decide_eq_false this]; rfl)
      go_wp2_with fail
      go_ret
      exact ⟨_, rfl, (by first | exact HE.out | exact decide_eq_decide.1 HE.out), rfl⟩
theorem conN_any (A : Option Addr) (l : List Int) (n c : Nat) (hn : l.length = n) (hm : n ≤ 1099511627776) (z : Int) (w : World) (h : Els encN w w.heap.size A l) :
    Calls Try.prog 32 #[.slice A n c, .int .i64 z] w fun e w' => e = .returned (.bool (decide (z ∈ l))) ∧ w = w' := by
  have HC := hid (idxN_any A l n c hn hm z w h)
  clear hn hm h
  go_enter Try.func32, Try.ntmps32
  go_wp2_with fail
  refine HC.out.mono ?_
  rintro er w2 ⟨i, rfl, hi, hw⟩
  have hw2 : w = w2 := hw
  subst hw2
  have HI := hid hi
  clear hi hw
  go_wp2_with fail
  go_ret
  exact ⟨by rw [← HI.out]; rfl, rfl⟩
theorem eql_nilN (w : World) : (Go.binOp .eql 30 (.slice none 0 0) (.slice none 0 0)).run Try.prog w = .ok (.bool true) w := by kernel_rfl
theorem eql_someN (ad : Addr) (n c : Nat) (w : World) : (Go.binOp .eql 30 (.slice (some ad) n c) (.slice none 0 0)).run Try.prog w = .ok (.bool false) w := by kernel_rfl
theorem cloneNil_any (w : World) :
    Calls Try.prog 36 #[.slice none 0 0] w fun e w' => e = .returned (.slice none 0 0) ∧ w = w' := by
  have hq := eql_nilN
  go_enter Try.func36, Try.ntmps36
  go_wp2_with fail
  go_ret
  exact ⟨rfl, rfl⟩
theorem own_made0 (w : World) (B : Nat) (hB : B ≤ w.heap.size) : Own (E := encN) (w.alloc (.cells #[] 3)) B 3 (.slice (some ⟨w.heap.size, 0, none⟩) 0 0) [] :=
  ⟨rfl, .inr ⟨w.heap.size, 0, #[], rfl, hB, heap_alloc_new w _, Nat.le_refl _, by unfold maxLen; omega, by simp, by simp [ev]⟩⟩
theorem cloneSome_any (ad : Addr) (l : List Int) (n c : Nat) (hn : l.length = n) (hm : n ≤ 1000000000) (w : World) (h : Els encN w w.heap.size (some ad) l) :
    Calls Try.prog 36 #[.slice (some ad) n c] w fun e w' => ∃ A' c', e = .returned (.slice A' n c') ∧ Own (E := encN) w' w.heap.size 3 (.slice A' n c') l ∧ Below w.heap.size w w' := by
  have HN := hid hn
  have HB := hid ((Below.refl w.heap.size w).alloc (Nat.le_refl _) (.cells #[] 3))
  have HR := hid ((h.below HB.out).reads)
  have HO := hid (own_made0 w w.heap.size (Nat.le_refl _))
  have hs : w.heap.size ≤ (w.alloc (.cells #[] 3)).heap.size := HB.out.size
  clear hn h
  have hq := eql_someN
  go_enter Try.func36, Try.ntmps36
  go_wp2_with (at_builtin; refine wpList_appL (E := encN) rfl slN (.tmp 5) (.tmp 6) rfl (B := w.heap.size) (v := .slice (some ⟨w.heap.size, 0, none⟩) 0 0) (l := []) HO.out rfl (A := some ad) (m := n) (c := c) l rfl HN.out HR.out (by simp; omega) (by omega) hs ?_; intro A9 c9 w9 ho9 hg9 he9; simp only [List.length_nil, Nat.zero_add, List.nil_append] at ho9 ⊢; have HO9 := hid ho9; have HB9 := hid (HB.out.grown hg9 hs (fun g e => (World.ownsRow.lt HO.out g e).1)); clear ho9 hg9 he9)
  go_ret
  exact ⟨A9, c9, rfl, HO9.out, HB9.out⟩
/-- A clone of any row. -/
theorem clone_any {w : World} {B : Nat} (A : Option Addr) (l : List Int) (n c : Nat) (hn : l.length = n) (hm : n ≤ 1000000000) (h : Own (E := encN) w B 3 (.slice A n c) l) :
    Calls Try.prog 36 #[.slice A n c] w fun e w' => ∃ A' c', e = .returned (.slice A' n c') ∧ Own (E := encN) w' w.heap.size 3 (.slice A' n c') l ∧ Below w.heap.size w w' := by
  rcases A with _ | ad
  · obtain ⟨e1, e2⟩ : n = 0 ∧ c = 0 := by
      rcases h.2 with ⟨hv, h0⟩ | ⟨g, cap, cur, hv, _⟩
      · simp only [Value.slice.injEq] at hv; exact hv.2
      · simp at hv
    subst e1; subst e2
    have hl : l = [] := List.eq_nil_of_length_eq_zero hn
    subst hl
    exact (cloneNil_any w).mono fun e w' ⟨h1, h2⟩ => ⟨none, 0, h1, Own.nil _ _ _, by subst h2; exact Below.refl _ _⟩
  · exact cloneSome_any ad l n c hn hm w (own_els h)
/-- What row tells. -/
def rowHd (hs : Nat → Hd) (d : Int) : Hd := if 1 ≤ d ∧ d ≤ 16 then hs (d - 1).toNat else ⟨none, 0, 0⟩
theorem rowHd_own {w : World} {P : Nat → Prop} {g : Nat} {hs : Nat → Hd} {cs : Array Value} {S : Nat → List Int} (h : RowsP w P g hs cs S) (d : Int) : (rowS S d).length = (rowHd hs d).n ∧ Own (E := encN) w 0 3 (.slice (rowHd hs d).A (rowHd hs d).n (rowHd hs d).c) (rowS S d) := by
  by_cases hd : 1 ≤ d ∧ d ≤ 16
  · have e1 : rowHd hs d = hs (d - 1).toNat := if_pos hd
    have e2 : rowS S d = S (d - 1).toNat := by unfold rowS; rw [if_neg (by omega)]
    rw [e1, e2]
    exact ⟨h.len _ (by omega), h.own _ (by omega)⟩
  · have e1 : rowHd hs d = ⟨none, 0, 0⟩ := if_neg hd
    have e2 : rowS S d = [] := rowS_far (by omega)
    rw [e1, e2]
    exact ⟨rfl, Own.nil _ _ _⟩
theorem prow_any {w : World} {P : Nat → Prop} {g : Nat} {hs : Nat → Hd} {cs : Array Value} {S : Nat → List Int} (h : RowsP w P g hs cs S) (d : Int) :
    Calls Try.prog 33 #[.pointer (some ⟨g, 0, none⟩), .int .i64 d] w fun e w' => e = .returned (.slice (rowHd hs d).A (rowHd hs d).n (rowHd hs d).c) ∧ w = w' := by
  have HW := hid (within_any d 16 w)
  by_cases hd : 1 ≤ d ∧ d ≤ 16
  · obtain ⟨k, hk⟩ : ∃ k : Nat, d = (k : Int) + 1 := ⟨(d - 1).toNat, by omega⟩
    subst hk
    have hk16 : k < 16 := by omega
    have e1 : rowHd hs ((k : Int) + 1) = hs k := by unfold rowHd; rw [if_pos hd]; congr 1; omega
    rw [e1]
    rw [decide_eq_true hd] at HW
    obtain ⟨x, hx⟩ : ∃ x, hs k = x := ⟨_, rfl⟩
    have hc : w.cell? ⟨g, k, none⟩ = some (.slice x.A x.n x.c) := by
      rw [cell_of_row _ _ k _ _ (0, 0) h.heap]
      rw [← hx]; exact h.cell k hk16
    rw [hx]
    have e2 : (k : Int) + 1 - 1 = (k : Int) := by omega
    have hk0 : (0 : Int) ≤ (k : Int) := Int.natCast_nonneg _
    have hk1 : (k : Int) < 16 := by omega
    clear h hd e1 hx
    go_enter Try.func33, Try.ntmps33
    go_wp2_with fail
    refine HW.out.mono ?_
    rintro er w2 ⟨rfl, hw⟩
    have hw2 : w = w2 := hw
    subst hw2
    clear hw
    go_wp2_with fail
    go_ret
    exact ⟨rfl, rfl⟩
  · have e1 : rowHd hs d = ⟨none, 0, 0⟩ := if_neg hd
    rw [e1]
    rw [decide_eq_false hd] at HW
    clear h hd e1
    go_enter Try.func33, Try.ntmps33
    go_wp2_with fail
    refine HW.out.mono ?_
    rintro er w2 ⟨rfl, hw⟩
    have hw2 : w = w2 := hw
    subst hw2
    clear hw
    go_wp2_with fail
    go_ret
    exact ⟨rfl, rfl⟩
theorem row11_any {w : World} {P : Nat → Prop} {g : Nat} {S : Nat → List Int} (h : SetP w P g S) (d : Int) :
    Calls Try.prog 18 #[.pointer (some ⟨g, 0, none⟩), .int .i64 d] w fun e w' => ∃ (A : Option Addr) (n c : Nat), e = .returned (.slice A n c) ∧ n ≤ c ∧ c ≤ 9223372036854775807 ∧ Frs w' w.heap.size A n (rowS S d) ∧ Below w.heap.size w w' := by
  obtain ⟨hs, cs, r⟩ := h.rows
  obtain ⟨hl, ho⟩ := rowHd_own r d
  have HR := hid (prow_any r d)
  have hle := (rowS_ok h.ok d).len
  obtain ⟨x, hx⟩ : ∃ x, rowHd hs d = x := ⟨_, rfl⟩
  rw [hx] at HR hl ho
  have HC := hid (clone_any x.A (rowS S d) x.n x.c hl (by omega) ho)
  have HL := hid hl
  clear h r hx ho hl hle
  go_enter Try.func18, Try.ntmps18
  go_wp2_with fail
  refine HR.out.mono ?_
  rintro er w2 ⟨rfl, hw⟩
  have hw2 : w = w2 := hw
  subst hw2
  clear hw
  go_wp2_with fail
  refine HC.out.mono ?_
  rintro er w2 ⟨A', c', rfl, o, b⟩
  have HF := hid (o.asFrs HL.out)
  have HB := hid b
  clear o b
  go_wp2_with fail
  go_ret
  exact ⟨A', _, c', rfl, HF.out.1, HF.out.2.1, HF.out.2.2, HB.out⟩
open Classical in
set_option maxHeartbeats 2000000 in
theorem has11_any {w : World} {P : Nat → Prop} {g : Nat} {S : Nat → List Int} (h : SetP w P g S) (d q : Int) :
    Calls Try.prog 12 #[.pointer (some ⟨g, 0, none⟩), .agg #[.int .i64 d, .int .i64 q]] w fun e w' => e = .returned (.bool (decide (hasS S d q))) ∧ Below w.heap.size w w' := by
  obtain ⟨w1, hw1⟩ : ∃ y, y = w.alloc (.cells #[.int .i64 d, .int .i64 q] 29) := ⟨_, rfl⟩
  have HB1 : Hid (Below w.heap.size w w1) := hid (by rw [hw1]; exact (Below.refl w.heap.size w).alloc (Nat.le_refl _) _)
  have HBD : Hid (∀ k, Below w.heap.size w (w1.drewN k)) := hid (fun k => below_drewN HB1.out k)
  obtain ⟨hs, cs, r⟩ := h.rows
  have HR := hid (fun k => prow_any (r.kept (w' := w1.drewN k) (Q := P) (fun b _ hb => (HBD.out k).block b hb) (fun _ hp _ => hp)) d)
  obtain ⟨hl, ho⟩ := rowHd_own r d
  have hle := (rowS_ok h.ok d).len
  obtain ⟨x, hx⟩ : ∃ x, rowHd hs d = x := ⟨_, rfl⟩
  rw [hx] at HR hl ho
  have HC := hid (fun k => conN_any x.A (rowS S d) x.n x.c hl (by omega) q (w1.drewN k) (own_els (ho.below (HBD.out k))))
  have HE : Hid (decide (hasS S d q) = decide (q ∈ rowS S d)) := hid (by
    congr 1
    unfold hasS rowS
    by_cases hd : d < 1 ∨ 16 < d
    · rw [if_pos hd]; exact propext ⟨fun h => by omega, fun h => by simp at h⟩
    · rw [if_neg hd]; exact propext ⟨fun h => h.2.2, fun h => ⟨by omega, by omega, h⟩⟩)
  have HC2 : Hid (∀ k, Calls Try.prog 32 #[.slice x.A x.n x.c, .int .i64 q] (w1.drewN k) fun e w' => e = .returned (.bool (decide (hasS S d q))) ∧ w1.drewN k = w') := hid (fun k => (HC.out k).mono fun e w' ⟨a, b⟩ => ⟨by rw [HE.out, a], b⟩)
  have hc0 : w1.cell? ⟨w.heap.size, 0, none⟩ = some (.int .i64 d) := by rw [hw1, cell_of_row _ _ 0 _ _ (0, 0) (heap_alloc_new w _)]; rfl
  have hc1 : w1.cell? ⟨w.heap.size, 1, none⟩ = some (.int .i64 q) := by rw [hw1, cell_of_row _ _ 1 _ _ (0, 0) (heap_alloc_new w _)]; rfl
  have HW1 := hid hw1
  clear h r hx ho hl hle HC HE hw1
  go_enter Try.func12, Try.ntmps12
  go_upto_region 1 with fail
  rw [← HW1.out]
  go_quiet ((first | (go_at_call 33; with_reducible exact quiet_left (HR.out _)) | (go_at_call 32; with_reducible exact quiet_left (HC2.out _))))
  all_goals
    go_wp2_with fail
    go_ret
    exact ⟨rfl, HBD.out _⟩
end Go.Proofs.Ytifoppnpgljphaa.Sh
