/-
  The program's own Read of a vector, by contract.
-/
import Derived.Test.YtkaakbgpkpkeeaaVePgD
import Derived.Test.YtkaakbgpkpkeeaaVeRead
import Derived.Laws.MakeOwn
namespace Go.Proofs.Ytkaakbgpkpkeeaa.Sh
open Go Go.RowKit

set_option linter.unusedSimpArgs false
set_option linter.unusedVariables false
theorem gro_bel {a w w' : World} {row : Option Nat} (h : a.grownBy w row) (hb : Below w.heap.size w w') : a.grownBy w' row :=
  ⟨hb.os.trans h.os, hb.tape.trans h.tape, hb.output.trans h.output, Nat.le_trans h.size hb.size, fun i hi hne => (hb.block i (Nat.lt_of_lt_of_le hi h.size)).trans (h.block i hi hne)⟩
theorem gro_setN (w : World) (g j : Nat) (u : Value) : w.grownBy (w.setCell ⟨g, j, none⟩ u) (some g) :=
  ⟨rfl, rfl, rfl, by simp, fun k _ hk => heap_setCell_other w ⟨g, j, none⟩ k u (fun e => hk (by simp [e]))⟩
/-- Numbers ahead, noughts behind them, k in all. -/
def padN (xs : List Int) (k : Nat) : List Value := (xs.map fun x => Value.int .i64 x) ++ List.replicate (k - xs.length) (.int .i64 0)
theorem padN_len {xs : List Int} {k : Nat} (h : xs.length ≤ k) : (padN xs k).length = k := by simp [padN]; omega
theorem padN_set {xs : List Int} {k : Nat} (h : xs.length < k) (x : Int) : (padN xs k).set xs.length (.int .i64 x) = padN (xs ++ [x]) k := by
  unfold padN
  rw [List.set_append_right _ _ (by simp), show k - xs.length = (k - (xs ++ [x]).length) + 1 by simp; omega, List.replicate_succ]
  simp
theorem ev_num (l : List Int) : ev encN l = l.map fun x => Value.int .i64 x := by
  induction l with
  | nil => rfl
  | cons x t ih => rw [ev, ih]; rfl
theorem makeN (k : Nat) (hk : k ≤ 16) (w : World) : (Instr.makeSlice 22 (.int .i64 (k : Int)) (.int .i64 (k : Int))).run Try.prog w = .ok (.slice (some ⟨w.heap.size, 0, none⟩) k k) (w.alloc (.cells (padN [] k).toArray 3)) := by
  obtain ⟨i0, hi0, hz0, hz1, hz2⟩ := info_parts (P := Try.prog) (e := 3) (z := .int .i64 0) (size := 1) (bytes := 8) (by kernel_rfl)
  have h := run_make (P := Try.prog) w 22 3 i0 (.int .i64 0) Try.underlying22 hi0 hz0 .i64 .i64 (k : Int) (k : Int) (by omega) (Int.le_refl _) (by rw [hz2]; omega) (by omega)
  rw [h]
  have h2 : madeCells (Value.int .i64 0).cells ((k : Int).toNat * i0.size) = (padN [] k).toArray := by
    rw [hz1, Nat.mul_one, Int.toNat_natCast]
    refine Array.ext (by simp [size_madeCells, padN]) fun i h1 h2 => ?_
    simp [madeCells, padN, Value.cells, Nat.mod_one]
  rw [h2]
  simp
theorem vecNums_rng (l : List UInt8) (p : Nat) (e : Int) (k : Nat) : ∀ z ∈ (vecNums l k p e).1, 0 ≤ z ∧ z ≤ 1099511627776 := by
  induction k with
  | zero => intro z hz; simp [vecNums] at hz
  | succ k ih =>
    intro z hz
    have hz' : z ∈ (vecNums l k p e).1 ++ [(numStep l (vecNums l k p e).2.1 (vecNums l k p e).2.2 0 1099511627776).1] := hz
    rcases List.mem_append.1 hz' with h | h
    · exact ih z h
    · rw [List.mem_singleton.1 h]
      exact numStep_b _ _ _ _ _ (by omega) (by omega)
theorem nrm_read {v : List Int} (hl : v.length ≤ 16) (hr : ∀ z ∈ v, 0 ≤ z ∧ z ≤ 1099511627776) : Nrm v ↔ ¬ v.getLast? = some 0 := by
  rw [List.getLast?_eq_getElem?]
  constructor
  · intro h e
    rcases Nat.eq_zero_or_pos v.length with h0 | h0
    · rw [List.eq_nil_of_length_eq_zero h0] at e; cases e
    · exact h.last (v.length - 1) (by omega) e
  · intro h
    exact ⟨hl, hr, fun i hi => by rw [show i = v.length - 1 by omega]; exact h⟩
set_option maxHeartbeats 4000000 in
theorem numbers10_any {w : World} {lo hi g n c p : Nat} {A : Option Addr} {l : List UInt8} {e : Int} (h : Cu 54 w lo hi g A n c l p e) {k p1 : Nat} {e1 : Int} (hZ : numStep l p e 0 16 = ((k : Int), p1, e1)) :
    Calls Try.prog 43 #[.pointer (some ⟨g, 0, none⟩)] w fun er w' => ∃ (A' : Option Addr), er = .returned (.slice A' k k) ∧ Frs w' w.heap.size A' k (vecNums l k p1 e1).1 ∧ Cu 54 w' lo hi g A n c l (vecNums l k p1 e1).2.1 (vecNums l k p1 e1).2.2 ∧ w.grownBy w' (some g) := by
  have hb := numStep_b l p e 0 16 (by omega) (by omega)
  have HN := hid (cu_number h 0 16)
  rw [hZ] at hb HN
  simp only at hb HN
  have hk16 : k ≤ 16 := by omega
  have HGL : Hid (g < w.heap.size) := hid h.lt
  have m1 := makeN k hk16
  clear h hZ hb
  go_enter Try.func43, Try.ntmps43
  go_wp2_with fail
  refine HN.out.mono ?_
  rintro er w1 ⟨rfl, hc1, hg1⟩
  obtain ⟨w2, hw2⟩ : ∃ x, x = w1.alloc (.cells (padN [] k).toArray 3) := ⟨_, rfl⟩
  have HC2 : Hid (Cu 54 w2 lo hi g A n c l p1 e1) := hid (by rw [hw2]; exact hc1.alloc _)
  have HG2 : Hid (w.grownBy w2 (some g)) := hid (by rw [hw2]; exact hg1.trans (World.grownBy_alloc w1 _ _))
  have HR2 : Hid (w2.heap[w1.heap.size]? = some (.cells (padN [] k).toArray 3 (0, 0))) := hid (by rw [hw2]; exact heap_alloc_new w1 _)
  have hgv : w.heap.size ≤ w1.heap.size := hg1.size
  have HW2 := hid hw2
  clear hc1 hg1 hw2
  go_wp2_with fail
  rw [← HW2.out]
  obtain ⟨gv, hgv2⟩ : ∃ x, w1.heap.size = x := ⟨_, rfl⟩
  rw [hgv2] at HR2 hgv ⊢
  clear hgv2
  go_loopw [11] (fun i wr => ∃ j : Nat, i = .int .i64 (j : Int) ∧ j ≤ k ∧ Hid (wr.heap[gv]? = some (.cells (padN (vecNums l j p1 e1).1 k).toArray 3 (0, 0))) ∧ Hid (Cu 54 wr lo hi g A n c l (vecNums l j p1 e1).2.1 (vecNums l j p1 e1).2.2) ∧ Hid (w.grownBy wr (some g))) (fun i _ => k - (intOf i).toNat)
  case atStart => exact ⟨0, rfl, Nat.zero_le _, HR2, HC2, HG2⟩
  case round =>
    clear HR2 HC2 HG2
    obtain ⟨wj, hwj⟩ : ∃ x, x = wr := ⟨_, rfl⟩
    subst hwj
    obtain ⟨j, rfl, hj, HR, HC, HG⟩ := hrel
    have hj0 : (0 : Int) ≤ (j : Int) := Int.natCast_nonneg _
    by_cases hlt : j < k
    · have hj1 : (j : Int) < (k : Int) := by omega
      have HNJ := hid (cu_number HC.out 0 1099511627776)
      obtain ⟨t, ht⟩ : ∃ t, numStep l (vecNums l j p1 e1).2.1 (vecNums l j p1 e1).2.2 0 1099511627776 = t := ⟨_, rfl⟩
      have HNX : Hid (vecNums l (j + 1) p1 e1 = ((vecNums l j p1 e1).1 ++ [t.1], t.2.1, t.2.2)) := hid (by show (_, _, _) = _; rw [ht])
      rw [ht] at HNJ
      obtain ⟨x, p2, e2⟩ := t
      simp only at HNJ HNX
      have HUL : Hid ((vecNums l j p1 e1).1.length = j) := hid (vecNums_len _ _ _ _)
      clear ht
      go_wp2_with fail
      refine HNJ.out.mono ?_
      rintro er w3 ⟨rfl, hc3, hg3⟩
      have HR3 : Hid (w3.heap[gv]? = some (.cells (padN (vecNums l j p1 e1).1 k).toArray 3 (0, 0))) := hid ((hg3.block gv (Array.getElem?_eq_some_iff.1 HR.out).1 (fun e => by injection e with e; have := HGL.out; omega)).trans HR.out)
      have HG3 := hid (HG.out.trans hg3)
      have fz := frozen_of_row w3 gv j _ _ HR3.out
      obtain ⟨cv, hcv⟩ := row_cell (j := j) HR3.out (by rw [padN_len (by rw [HUL.out]; omega)]; exact hlt)
      obtain ⟨w4, hw4⟩ : ∃ x', x' = w3.setCell ⟨gv, j, none⟩ (.int .i64 x) := ⟨_, rfl⟩
      have HR4 : Hid (w4.heap[gv]? = some (.cells (padN (vecNums l (j + 1) p1 e1).1 k).toArray 3 (0, 0))) := hid (by
        rw [hw4, HNX.out]
        have h5 := heap_setCell_same w3 gv j _ _ (.int .i64 x) HR3.out
        have h6 := padN_set (xs := (vecNums l j p1 e1).1) (k := k) (by rw [HUL.out]; exact hlt) x
        rw [HUL.out] at h6
        rw [List.setIfInBounds_toArray, h6] at h5
        exact h5)
      have HC4 : Hid (Cu 54 w4 lo hi g A n c l (vecNums l (j + 1) p1 e1).2.1 (vecNums l (j + 1) p1 e1).2.2) := hid (by
        rw [hw4, HNX.out]
        exact hc3.below (B := gv) ((Below.refl gv w3).setCell (p := ⟨gv, j, none⟩) (Nat.le_refl _) _) (by have := HGL.out; omega))
      have HG4 : Hid (w.grownBy w4 (some g)) := hid (by rw [hw4]; exact gro_own HG3.out (gro_setN w3 gv j _) (fun b e => by injection e with e; omega))
      have HW4 := hid hw4
      clear hw4 hc3 hg3 HR HC HG HR3 HG3
      go_wp2_with fail
      rw [← HW4.out]
      go_roundw
      case rel => exact ⟨j + 1, by go_num, by omega, HR4, HC4, HG4⟩
      case measure => simp [intOf]; omega
    · obtain rfl : j = k := by omega
      go_wp2_with fail
      go_ret
      have hl : (vecNums l j p1 e1).1.length = j := vecNums_len _ _ _ _
      have hgl := (Array.getElem?_eq_some_iff.1 HR.out).1
      exact ⟨_, rfl, ⟨hl, fun _ => ⟨gv, _, rfl, HR.out, by simp [padN_len (show (vecNums l j p1 e1).1.length ≤ j by omega)], fun i u hu => by
        rw [ev_num] at hu
        rw [List.getElem?_toArray, padN, List.getElem?_append_left (by have := (List.getElem?_eq_some_iff.1 hu).1; exact this)]
        exact hu⟩, fun ad e => by injection e with e; subst e; exact ⟨hgv, hgl⟩⟩, HC.out, HG.out⟩
set_option maxHeartbeats 4000000 in
theorem read10_any {w : World} {lo hi g n c p : Nat} {A : Option Addr} {l : List UInt8} {e : Int} (h : Cu 54 w lo hi g A n c l p e) :
    Calls Try.prog 29 #[.pointer (some ⟨g, 0, none⟩)] w fun er w' => ∃ (A' : Option Addr) (m c' : Nat), er = .returned (.slice A' m c') ∧ (readVec l p e).1.length = m ∧ Frs w' w.heap.size A' m (readVec l p e).1 ∧ Cu 54 w' lo hi g A n c l (readVec l p e).2.1 (readVec l p e).2.2 ∧ w.grownBy w' (some g) := by
  obtain ⟨Z, hZ⟩ : ∃ Z, numStep l p e 0 16 = Z := ⟨_, rfl⟩
  have hb := numStep_b l p e 0 16 (by omega) (by omega)
  rw [hZ] at hb
  obtain ⟨z, p1, e1⟩ := Z
  obtain ⟨k, hk⟩ : ∃ k : Nat, z = (k : Int) := ⟨z.toNat, by simp only at hb; omega⟩
  subst hk
  simp only at hb
  have hk16 : k ≤ 16 := by omega
  have HN := hid (numbers10_any h hZ)
  have HRV : Hid (readVec l p e = (if vecErr (vecNums l k p1 e1).1 (vecNums l k p1 e1).2.2 = 0 then (vecNums l k p1 e1).1 else [], (vecNums l k p1 e1).2.1, vecErr (vecNums l k p1 e1).1 (vecNums l k p1 e1).2.2)) := hid (by unfold readVec; simp only [hZ]; rfl)
  have hrg := vecNums_rng l p1 e1 k
  have hvl := vecNums_len l k p1 e1
  obtain ⟨V, hV⟩ : ∃ V, vecNums l k p1 e1 = V := ⟨_, rfl⟩
  rw [hV] at HN HRV hrg hvl
  obtain ⟨vs, pv, ev'⟩ := V
  simp only at HN HRV hrg hvl
  have hnr := nrm_read (v := vs) (by omega) hrg
  have HVL := hid hvl
  have HGL : Hid (g < w.heap.size) := hid h.lt
  have hFn : ∀ W : World, Frs W w.heap.size none 0 [] := fun W => ⟨rfl, fun h => by omega, fun ad e => by cases e⟩
  have HFN := hid hFn
  clear h hZ hb hrg hV hvl hFn
  by_cases hlast : vs.getLast? = some 0
  · have hnn : ¬ Nrm vs := fun h => hnr.1 h hlast
    obtain ⟨e3, he3⟩ : ∃ e3, (if ev' = 0 then (2 : Int) else ev') = e3 := ⟨_, rfl⟩
    have hne : ¬ e3 = 0 := by rw [← he3]; split <;> omega
    have hne2 : (e3 == 0) = false := beq_eq_false_iff_ne.2 hne
    have HNE := hid hne
    have HE : Hid (vecErr vs ev' = e3) := hid (by unfold vecErr; rw [if_pos hlast, he3])
    have HNN := hid hnn
    have HE3 := hid he3
    clear hlast hnn he3 hnr
    go_enter Try.func29, Try.ntmps29
    go_wp2_with fail
    refine HN.out.mono ?_
    rintro er w1 ⟨Av, rfl, ho, hc1, hg1⟩
    have HC1 := hid hc1
    have HG1 := hid hg1
    have HM := hid (may_any Av vs k k HVL.out (by omega) w1 ho.els1)
    rw [show @decide (Nrm vs) (Classical.propDecidable _) = false from @decide_eq_false _ (Classical.propDecidable _) HNN.out] at HM
    clear ho hc1 hg1
    go_wp2_with fail
    refine HM.out.mono ?_
    rintro er w2 ⟨rfl, hb2⟩
    have HG2 := hid (gro_bel HG1.out hb2)
    have HF := hid (cu_fail (HC1.out.below hb2 HC1.out.lt) 2)
    rw [HE3.out] at HF
    clear hb2
    go_wp2_with fail
    refine HF.out.mono ?_
    rintro er w3 ⟨rfl, hc3, hg3⟩
    have HC3 := hid hc3
    have HG3 := hid (HG2.out.trans hg3)
    have HER := hid (err_any _ _ _ _ _ _ _ hc3.row)
    clear hc3 hg3
    go_wp2_with fail
    refine HER.out.mono ?_
    rintro er w4 ⟨rfl, hw⟩
    have hw2 : w3 = w4 := hw
    subst hw2
    clear hw
    go_wp2_with fail
    go_ret
    refine ⟨none, 0, 0, rfl, ?_, ?_, ?_, HG3.out⟩
    · rw [HRV.out, HE.out, if_neg HNE.out]; rfl
    · rw [HRV.out, HE.out, if_neg HNE.out]; exact HFN.out _
    · rw [HRV.out, HE.out]; exact HC3.out
  · have hnn : Nrm vs := hnr.2 hlast
    have HE : Hid (vecErr vs ev' = ev') := hid (by unfold vecErr; rw [if_neg hlast])
    have HNN := hid hnn
    clear hlast hnn hnr
    go_enter Try.func29, Try.ntmps29
    go_wp2_with fail
    refine HN.out.mono ?_
    rintro er w1 ⟨Av, rfl, ho, hc1, hg1⟩
    have HO1 := hid ho
    have HC1 := hid hc1
    have HG1 := hid hg1
    have HM := hid (may_any Av vs k k HVL.out (by omega) w1 ho.els1)
    rw [show @decide (Nrm vs) (Classical.propDecidable _) = true from @decide_eq_true _ (Classical.propDecidable _) HNN.out] at HM
    clear ho hc1 hg1
    go_wp2_with fail
    refine HM.out.mono ?_
    rintro er w2 ⟨rfl, hb2⟩
    have HG2 := hid (gro_bel HG1.out hb2)
    have HC2 := hid (HC1.out.below hb2 HC1.out.lt)
    have HO2 := hid (HO1.out.below hb2)
    have HER := hid (err_any _ _ _ _ _ _ _ HC2.out.row)
    clear hb2 HO1 HC1 HG1
    by_cases h0 : ev' = 0
    · subst h0
      go_wp2_with fail
      refine HER.out.mono ?_
      rintro er w4 ⟨rfl, hw⟩
      have hw2 : w2 = w4 := hw
      subst hw2
      clear hw
      go_wp2_with fail
      go_ret
      refine ⟨Av, k, k, rfl, ?_, ?_, ?_, HG2.out⟩
      · rw [HRV.out, HE.out, if_pos rfl]; exact HVL.out
      · rw [HRV.out, HE.out, if_pos rfl]; exact HO2.out
      · rw [HRV.out, HE.out]; exact HC2.out
    · have h1 : (ev' == 0) = false := beq_eq_false_iff_ne.2 h0
      have HNE := hid h0
      go_wp2_with fail
      refine HER.out.mono ?_
      rintro er w4 ⟨rfl, hw⟩
      have hw2 : w2 = w4 := hw
      subst hw2
      clear hw
      go_wp2_with fail
      go_ret
      refine ⟨none, 0, 0, rfl, ?_, ?_, ?_, HG2.out⟩
      · rw [HRV.out, HE.out, if_neg HNE.out]; rfl
      · rw [HRV.out, HE.out, if_neg HNE.out]; exact HFN.out _
      · rw [HRV.out, HE.out]; exact HC2.out
end Go.Proofs.Ytkaakbgpkpkeeaa.Sh
