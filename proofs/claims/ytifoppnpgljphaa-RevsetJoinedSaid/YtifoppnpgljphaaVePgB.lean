/-
  The program's closures that tell a domain's number, and stating with each of them. Written by mk_vepgb.py.
-/
import Derived.Test.YtifoppnpgljphaaVePgA
namespace Go.Proofs.Ytifoppnpgljphaa.Sh
open Go Go.RowKit

set_option linter.unusedSimpArgs false
set_option linter.unusedVariables false
/-- A new row of numbers, its first n are l (its block may have more). -/
structure Frs (w : World) (B : Nat) (A : Option Addr) (n : Nat) (l : List Int) : Prop where
  len : l.length = n
  row : 0 < n → ∃ (g : Nat) (cs : Array Value), A = some ⟨g, 0, none⟩ ∧ w.heap[g]? = some (.cells cs 3 (0, 0)) ∧ n ≤ cs.size ∧ ∀ (i : Nat) (u : Value), (ev encN l)[i]? = some u → cs[i]? = some u
  lies : ∀ ad, A = some ad → B ≤ ad.block ∧ ad.block < w.heap.size
theorem addr_rowN (g n : Nat) : (⟨g, 0, none⟩ : Addr).add n = ⟨g, n, none⟩ := by
  rcases Nat.eq_zero_or_pos n with e | e
  · subst e; rw [add_zero]
  · rw [add_pos _ n e]; simp
theorem Frs.els1 {w : World} {B n : Nat} {A : Option Addr} {l : List Int} (h : Frs w B A n l) : Els encN w w.heap.size A l := fun hn => by
  obtain ⟨g, cs, rfl, hg, hc, hx⟩ := h.row (by rw [← h.len]; exact hn)
  refine ⟨_, rfl, (h.lies _ rfl).2, fun i u hu => ?_⟩
  rw [addr_rowN, cell_of_row _ _ i _ _ (0, 0) hg]
  exact hx i u hu
theorem Frs.below {w w' : World} {B n : Nat} {A : Option Addr} {l : List Int} (h : Frs w B A n l) (hb : Below w.heap.size w w') : Frs w' B A n l :=
  ⟨h.len, fun h0 => by
    obtain ⟨g, cs, e, hg, hc, hx⟩ := h.row h0
    exact ⟨g, cs, e, (hb.block g (Array.getElem?_eq_some_iff.1 hg).1).trans hg, hc, hx⟩, fun ad e => ⟨(h.lies ad e).1, Nat.lt_of_lt_of_le (h.lies ad e).2 hb.size⟩⟩
theorem Frs.far1 {w : World} {B n g : Nat} {A : Option Addr} {l : List Int} (h : Frs w B A n l) (hg : g < B) : ∀ ad, A = some ad → ad.block ≠ g := fun ad e => by
  have := (h.lies ad e).1; omega
theorem Own.els1 {w : World} {B n c : Nat} {A : Option Addr} {l : List Int} (h : Own (E := encN) w B 3 (.slice A n c) l) : Els encN w w.heap.size A l := own_els h
theorem Own.frs {w : World} {B n c : Nat} {A : Option Addr} {l : List Int} (h : Own (E := encN) w B 3 (.slice A n c) l) (hn : l.length = n) : Frs w B A n l where
  len := hn
  row h0 := by
    rcases h.2 with ⟨e, h1⟩ | ⟨g, cap, cur, e, h1, h2, h3, h4, h5, h6⟩
    · omega
    · simp only [Value.slice.injEq] at e
      have e1 : encN.k = 1 := rfl
      refine ⟨g, cur, e.1, h2, by rw [h5, e1]; omega, fun i u hu => ?_⟩
      rw [← h6] at hu
      rw [List.getElem?_take] at hu
      split at hu
      · simpa using hu
      · cases hu
  lies ad e := by
    subst e
    exact h.lt _ rfl
/-- Sixteen cells: the first j of them as f says. -/
def half16 (f : Nat → Int) (j : Nat) : List Value := (List.range 16).map fun i => .int .i64 (if i < j then f i else 0)
theorem half16_len (f : Nat → Int) (j : Nat) : (half16 f j).length = 16 := by simp [half16]
theorem half16_at (f : Nat → Int) {i j : Nat} (hi : i < 16) : (half16 f j)[i]? = some (.int .i64 (if i < j then f i else 0)) := by
  unfold half16
  rw [List.getElem?_map, List.getElem?_range hi]
  rfl
theorem half16_set (f : Nat → Int) {j : Nat} (hj : j < 16) : (half16 f j).set j (.int .i64 (f j)) = half16 f (j + 1) := by
  refine List.ext_getElem? fun i => ?_
  rw [List.getElem?_set, half16_len]
  by_cases hi : i < 16
  · rw [half16_at f hi, half16_at f hi]
    by_cases e : j = i
    · subst e; simp [hj]
    · rw [if_neg e]
      by_cases h2 : i < j
      · rw [if_pos h2, if_pos (by omega)]
      · rw [if_neg h2, if_neg (by omega)]
  · rw [List.getElem?_eq_none (by rw [half16_len]; omega), List.getElem?_eq_none (l := half16 f (j + 1)) (by rw [half16_len]; omega)]
    rw [if_neg (by omega)]
def zN : Array Value := (half16 (fun _ => 0) 0).toArray
theorem half16_zero (f : Nat → Int) : half16 f 0 = half16 (fun _ => 0) 0 := by simp [half16]
theorem make16 (w : World) : (Instr.makeSlice 30 (.int .i64 16) (.int .i64 16)).run Try.prog w = .ok (.slice (some ⟨w.heap.size, 0, none⟩) 16 16) (w.alloc (.cells zN 3)) := by kernel_rfl
/-- What is told of the sixteen numbers. -/
structure Told16 (f : Nat → Int) (w : World) (B : Nat) (A : Option Addr) (e : Nat) : Prop where
  frs : Frs w B A e (vecOf f)
theorem told16 {f : Nat → Int} {w : World} {g e : Nat} {B : Nat} (he : e ≤ 16) (h0 : ∀ i, e ≤ i → i < 16 → f i = 0) (h1 : ∀ i, i + 1 = e → f i ≠ 0) (hb : B ≤ g)
    (hg : w.heap[g]? = some (.cells (half16 f 16).toArray 3 (0, 0))) : Frs w B (some ⟨g, 0, none⟩) e (vecOf f) := by
  have hl : (upto f 16).length = 16 := upto_len f 16
  have hat : ∀ i, i < 16 → (upto f 16)[i]? = some (f i) := fun i hi => by unfold upto; rw [List.getElem?_map, List.getElem?_range hi]; rfl
  have ht : trim (upto f 16) = (upto f 16).take e := trim_take _ e (by omega) (fun i hi h16 => by rw [hl] at h16; rw [hat i h16, h0 i hi h16]) (fun i hi h => by
    rw [hat i (by omega)] at h
    exact h1 i hi (by injection h))
  have hv : vecOf f = (upto f 16).take e := ht
  have hvl : (vecOf f).length = e := by rw [hv, List.length_take]; omega
  refine ⟨hvl, fun hp => ⟨g, _, rfl, hg, by simp [half16_len]; omega, fun i u hu => ?_⟩, fun ad e => by injection e with e; subst e; exact ⟨hb, (Array.getElem?_eq_some_iff.1 hg).1⟩⟩
  have hie : i < e := by
    have := (List.getElem?_eq_some_iff.1 hu).1
    rw [ev_length, hvl] at this
    simpa [encN] using this
  have hx : (vecOf f)[i]? = some (f i) := by rw [hv, List.getElem?_take, if_pos hie]; exact hat i (by omega)
  have h2 := ev_get encN hx (i := 0) (by simp [encN])
  rw [show i * encN.k + 0 = i by simp [encN]] at h2
  rw [h2] at hu
  have h3 : (half16 f 16)[i]? = some (.int .i64 (f i)) := by rw [half16_at f (by omega), if_pos (by omega)]
  have h4 : u = .int .i64 (f i) := by simpa [encN] using hu.symm
  rw [h4]
  simpa using h3

theorem bareF_any (gv : Nat) (A : Option Addr) (l : List Int) (n c : Nat) (hn : l.length = n) (hm : n ≤ 9223372036854775807) (j : Nat) (hj : j < 16) (w : World) (hv : w.cell? ⟨gv, 0, none⟩ = some (.slice A n c)) (h : Els encN w w.heap.size A l) :
    Calls Try.prog 49 #[.int .i64 ((j : Int) + 1), .pointer (some ⟨gv, 0, none⟩)] w fun e w' => e = .returned (.int .i64 (vat l j)) ∧ Below w.heap.size w w' := by
  have HG := hid (getJ_any A l n c hn hm j hj w h)
  clear h hn
  go_enter Try.func49, Try.ntmps49
  go_wp2_with fail
  refine HG.out.mono ?_
  rintro er w2 ⟨rfl, rfl⟩
  go_wp2_with fail
  go_ret
  exact ⟨rfl, Below.refl _ _⟩
set_option maxHeartbeats 2000000 in
theorem statingB_any (gv : Nat) (f : Nat → Int) (w : World) (hf : ∀ j : Nat, j < 16 → ∀ W, Below w.heap.size w W → Calls Try.prog 49 #[.int .i64 ((j : Int) + 1), .pointer (some ⟨gv, 0, none⟩)] W fun e w' => e = .returned (.int .i64 (f j)) ∧ Below W.heap.size W w') :
    Calls Try.prog 48 #[.func (.func 49) #[] #[.pointer (some ⟨gv, 0, none⟩)]] w fun e w' => ∃ (A' : Option Addr) (c' : Nat), e = .returned (.slice A' (vecOf f).length c') ∧ Frs w' w.heap.size A' (vecOf f).length (vecOf f) ∧ Below w.heap.size w w' := by
  have HF := hid hf
  have m1 := make16
  have HZ : Hid ((w.alloc (.cells zN 3)).heap[w.heap.size]? = some (.cells (half16 f 0).toArray 3 (0, 0))) := hid (by rw [half16_zero]; exact heap_alloc_new w _)
  have HB0 := hid ((Below.refl w.heap.size w).alloc (Nat.le_refl _) (.cells zN 3))
  clear hf
  go_enter Try.func48, Try.ntmps48
  go_wp2_with fail
  go_loopw [4, 9] (fun z i wr => ∃ (j e : Nat), i = .int .i64 (j : Int) ∧ z = .int .i64 (e : Int) ∧ j ≤ 16 ∧ e ≤ j ∧ Hid (∀ i, e ≤ i → i < j → f i = 0) ∧ Hid (∀ i, i + 1 = e → f i ≠ 0) ∧ Hid (wr.heap[w.heap.size]? = some (.cells (half16 f j).toArray 3 (0, 0))) ∧ Hid (Below w.heap.size w wr)) (fun _ i _ => 16 - (intOf i).toNat)
  case atStart => exact ⟨0, 0, rfl, rfl, Nat.zero_le _, Nat.le_refl _, hid (fun i _ h => by omega), hid (fun i h => by omega), HZ, HB0⟩
  case round =>
    clear HZ HB0
    obtain ⟨j, e, rfl, rfl, hj, he, H0, H1, HR, HB⟩ := hrel
    have hk0 : (0 : Int) ≤ (j : Int) := Int.natCast_nonneg _
    have he0 : (0 : Int) ≤ (e : Int) := Int.natCast_nonneg _
    by_cases hlt : j < 16
    · have hk1 : (j : Int) < 16 := by omega
      have HC := hid (HF.out j hlt wr HB.out)
      obtain ⟨x, hx⟩ : ∃ x, f j = x := ⟨_, rfl⟩
      rw [hx] at HC
      have HX := hid hx
      clear hx
      go_wp2_with fail
      refine HC.out.mono ?_
      rintro er w1 ⟨rfl, hb⟩
      have hgl : w.heap.size < wr.heap.size := (Array.getElem?_eq_some_iff.1 HR.out).1
      have HR1 : Hid (w1.heap[w.heap.size]? = some (.cells (half16 f j).toArray 3 (0, 0))) := hid ((hb.block _ hgl).trans HR.out)
      have HB1 := hid (HB.out.trans (hb.mono HB.out.size))
      have fz := frozen_of_row w1 w.heap.size j _ _ HR1.out
      obtain ⟨cv, hcv⟩ := row_cell (j := j) HR1.out (by rw [half16_len]; exact hlt)
      obtain ⟨w2, hw2⟩ : ∃ w2, w2 = w1.setCell ⟨w.heap.size, j, none⟩ (.int .i64 x) := ⟨_, rfl⟩
      have HR2 : Hid (w2.heap[w.heap.size]? = some (.cells (half16 f (j + 1)).toArray 3 (0, 0))) := hid (by
        rw [hw2]
        have := heap_setCell_same w1 w.heap.size j _ _ (.int .i64 x) HR1.out
        rw [List.setIfInBounds_toArray, ← HX.out, half16_set f hlt] at this
        rw [← HX.out]
        exact this)
      have HB2 : Hid (Below w.heap.size w w2) := hid (by rw [hw2]; exact HB1.out.setCell (p := ⟨w.heap.size, j, none⟩) (Nat.le_refl _) _)
      have hc2 : w2.cell? ⟨w.heap.size, j, none⟩ = some (.int .i64 x) := by
        rw [cell_of_row _ _ j _ _ (0, 0) HR2.out]
        have := half16_at f (i := j) (j := j + 1) hlt
        rw [if_pos (by omega), HX.out] at this
        simpa using this
      rw [hw2] at hc2
      have HW2 := hid hw2
      clear hw2 hb hgl HC HR HB HR1 HB1
      by_cases h0 : x = 0
      · subst h0
        go_wp2_with fail
        rw [← HW2.out]
        go_roundw
        case rel => exact ⟨j + 1, e, by go_num, rfl, by omega, by omega, hid (fun i h1 h2 => by
          rcases Nat.lt_or_ge i j with h3 | h3
          · exact H0.out i h1 h3
          · obtain rfl : i = j := by omega
            exact HX.out), H1, HR2, HB2⟩
        case measure => simp [intOf]; omega
      · have h1 : (x == 0) = false := beq_eq_false_iff_ne.2 h0
        go_wp2_with fail
        rw [← HW2.out]
        go_roundw
        case rel => exact ⟨j + 1, j + 1, by go_num, by go_num, by omega, by omega, hid (fun i h1 h2 => by omega), hid (fun i hi => by
          obtain rfl : i = j := by omega
          rw [HX.out]; exact h0), HR2, HB2⟩
        case measure => simp [intOf]; omega
    · obtain rfl : j = 16 := by omega
      have HT := hid (told16 (B := w.heap.size) he H0.out H1.out (Nat.le_refl _) HR.out)
      have HTL : Hid ((vecOf f).length = e) := hid HT.out.len
      have he16 : (e : Int) ≤ 16 := by omega
      go_wp2_with fail
      go_ret
      rw [HTL.out]
      exact ⟨_, _, rfl, HT.out, HB.out⟩

end Go.Proofs.Ytifoppnpgljphaa.Sh
