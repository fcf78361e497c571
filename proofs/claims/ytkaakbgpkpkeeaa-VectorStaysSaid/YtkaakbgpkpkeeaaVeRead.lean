/-
  Vectors as bytes: what is put, what is read; the document's own Put and Read, by contract.
-/
import Derived.Test.YtkaakbgpkpkeeaaVeRef2
import Derived.Test.YtkaakbgpkpkeeaaWiCu
import Derived.Test.YtkaakbgpkpkeeaaWiRef
namespace Go.Proofs.Ytkaakbgpkpkeeaa.Sh
open Go Go.RowKit

set_option linter.unusedSimpArgs false
set_option linter.unusedVariables false
/-- The numbers of a vector, read one after the other. -/
def vecNums (l : List UInt8) : Nat → Nat → Int → List Int × Nat × Int
  | 0, p, e => ([], p, e)
  | k + 1, p, e => ((vecNums l k p e).1 ++ [(numStep l (vecNums l k p e).2.1 (vecNums l k p e).2.2 0 1099511627776).1], (numStep l (vecNums l k p e).2.1 (vecNums l k p e).2.2 0 1099511627776).2.1, (numStep l (vecNums l k p e).2.1 (vecNums l k p e).2.2 0 1099511627776).2.2)
theorem vecNums_len (l : List UInt8) (k p : Nat) (e : Int) : (vecNums l k p e).1.length = k := by
  induction k with
  | zero => rfl
  | succ k ih => show ((vecNums l k p e).1 ++ [_]).length = _; rw [List.length_append, ih]; rfl
/-- What a vector that is read comes to. -/
def vecErr (v : List Int) (e : Int) : Int := if v.getLast? = some 0 then (if e = 0 then 2 else e) else e
def readVec (l : List UInt8) (p : Nat) (e : Int) : List Int × Nat × Int :=
  let t := numStep l p e 0 16
  let s := vecNums l t.1.toNat t.2.1 t.2.2
  (if vecErr s.1 s.2.2 = 0 then s.1 else [], s.2.1, vecErr s.1 s.2.2)
theorem gro_own {w w1 w2 : World} {row r2 : Option Nat} (h : w.grownBy w1 row) (hg : w1.grownBy w2 r2) (hb : ∀ b, r2 = some b → w.heap.size ≤ b) : w.grownBy w2 row :=
  ⟨hg.os.trans h.os, hg.tape.trans h.tape, hg.output.trans h.output, Nat.le_trans h.size hg.size, fun i hi hne => (hg.block i (Nat.lt_of_lt_of_le hi h.size) (fun e => by have := hb i e.symm; omega)).trans (h.block i hi hne)⟩
section
variable {T : TypeId} {w w' : World} {lo hi g n c p : Nat} {A : Option Addr} {l : List UInt8} {e : Int}
theorem Cu.own {v : Value} (h : Cu T w lo hi g A n c l p e) (hg : w.grownBy w' v.ownBlock) (hb : ∀ b, v.ownBlock = some b → g < b) : Cu T w' lo hi g A n c l p e := by
  have hh := h.hi
  cases hv : v.ownBlock with
  | none =>
    rw [hv] at hg
    exact h.other (g' := g + 1) (hg.but _) (by omega) (.inr (by omega))
  | some b =>
    rw [hv] at hg
    have := hb b hv
    exact h.other hg (by omega) (.inr (by omega))
theorem Cu.alloc (h : Cu T w lo hi g A n c l p e) (o : Obj) : Cu T (w.alloc o) lo hi g A n c l p e := h.below (B := w.heap.size) ((Below.refl _ _).alloc (Nat.le_refl _) _) h.lt
end
theorem numStep_b (l : List UInt8) (p : Nat) (e least most : Int) (h0 : least ≤ 0) (h1 : 0 ≤ most) : 0 ≤ (numStep l p e least most).1 ∧ (numStep l p e least most).1 ≤ most := by
  unfold numStep
  split
  · exact ⟨Int.le_refl _, h1⟩
  · split
    · exact ⟨Int.le_refl _, h1⟩
    · split
      · exact ⟨Int.le_refl _, h1⟩
      · rename_i h
        have h2 : ((look (l.drop p)).1 : Int) ≤ most := by omega
        exact ⟨Int.natCast_nonneg _, h2⟩
set_option maxHeartbeats 4000000 in
theorem refRead10_any {w : World} {lo hi g n c p : Nat} {A : Option Addr} {l : List UInt8} {e : Int} (h : Cu 42 w lo hi g A n c l p e) :
    Calls Try.prog 30 #[.pointer (some ⟨g, 0, none⟩)] w fun er w' => ∃ (A' : Option Addr) (m c' : Nat), er = .returned (.slice A' m c') ∧ (readVec l p e).1.length = m ∧ Own (E := encN) w' w.heap.size 3 (.slice A' m c') (readVec l p e).1 ∧ Cu 42 w' lo hi g A n c l (readVec l p e).2.1 (readVec l p e).2.2 ∧ w.grownBy w' (some g) := by
  obtain ⟨Z, hZ⟩ : ∃ Z, numStep l p e 0 16 = Z := ⟨_, rfl⟩
  have hb := numStep_b l p e 0 16 (by omega) (by omega)
  have HN := hid (rcu_number h 0 16)
  rw [hZ] at hb HN
  obtain ⟨z, p1, e1⟩ := Z
  obtain ⟨k, hk⟩ : ∃ k : Nat, z = (k : Int) := ⟨z.toNat, by simp only at hb; omega⟩
  subst hk
  simp only at hb HN
  have hk16 : k ≤ 16 := by omega
  have HRV : Hid (readVec l p e = (if vecErr (vecNums l k p1 e1).1 (vecNums l k p1 e1).2.2 = 0 then (vecNums l k p1 e1).1 else [], (vecNums l k p1 e1).2.1, vecErr (vecNums l k p1 e1).1 (vecNums l k p1 e1).2.2)) := hid (by unfold readVec; simp only [hZ]; rfl)
  have HGL : Hid (g < w.heap.size) := hid h.lt
  clear h hZ hb
  go_enter Try.func30, Try.ntmps30
  go_wp2_with fail
  refine HN.out.mono ?_
  rintro er w1 ⟨rfl, hc1, hg1⟩
  have HC1 := hid hc1
  have HG1 := hid hg1
  clear hc1 hg1
  go_wp2_with fail
  go_loopw [3, 5] (fun v i wr => ∃ (A1 : Option Addr) (c1 j : Nat), v = .slice A1 j c1 ∧ i = .int .i64 (j : Int) ∧ j ≤ k ∧ Hid (Own (E := encN) wr w.heap.size 3 (.slice A1 j c1) (vecNums l j p1 e1).1) ∧ Hid (Cu 42 wr lo hi g A n c l (vecNums l j p1 e1).2.1 (vecNums l j p1 e1).2.2) ∧ Hid (w.grownBy wr (some g))) (fun _ i _ => k - (intOf i).toNat)
  case atStart => exact ⟨none, 0, 0, rfl, rfl, Nat.zero_le _, hid (Own.nil _ _ _), HC1, HG1⟩
  case round =>
    obtain ⟨wj, hwj⟩ : ∃ x, x = wr := ⟨_, rfl⟩
    subst hwj
    obtain ⟨A1, c1, j, rfl, rfl, hj, HO, HC, HG⟩ := hrel
    have hj0 : (0 : Int) ≤ (j : Int) := Int.natCast_nonneg _
    by_cases hlt : j < k
    · have hj1 : (j : Int) < (k : Int) := by omega
      have HNJ := hid (rcu_number HC.out 0 1099511627776)
      obtain ⟨t, ht⟩ : ∃ t, numStep l (vecNums l j p1 e1).2.1 (vecNums l j p1 e1).2.2 0 1099511627776 = t := ⟨_, rfl⟩
      have HNX : Hid (vecNums l (j + 1) p1 e1 = ((vecNums l j p1 e1).1 ++ [t.1], t.2.1, t.2.2)) := hid (by show (_, _, _) = _; rw [ht])
      rw [ht] at HNJ
      obtain ⟨x, p2, e2⟩ := t
      simp only at HNJ HNX
      have hfl : (vecNums l j p1 e1).1.length ≤ 1000000000000 := by rw [vecNums_len]; omega
      have HUL : Hid ((vecNums l j p1 e1).1.length = j) := hid (vecNums_len _ _ _ _)
      clear ht
      go_wp2_with fail
      refine HNJ.out.mono ?_
      rintro er w2 ⟨rfl, hc2, hg2⟩
      have HC2 := hid hc2
      have HO2 : Hid (Own (E := encN) w2 w.heap.size 3 (.slice A1 j c1) (vecNums l j p1 e1).1) := hid (HO.out.kept fun b hb => hg2.block b (HO.out.lt b hb).2 (fun e => by injection e with e; have := (HO.out.lt b hb).1; have := HGL.out; omega))
      have HG2 : Hid (w.grownBy w2 (some g)) := hid (HG.out.trans hg2)
      clear hc2 hg2
      have HOA := hid (HO2.out.alloc (.cells #[.int .i64 x] 3))
      have HCA := hid (HC2.out.alloc (.cells #[.int .i64 x] 3))
      have HRD := hid (reads_new w2 #[.int .i64 x] 3 (0, 0))
      have HGA : Hid (w.grownBy (w2.alloc (.cells #[.int .i64 x] 3)) (some g)) := hid (HG2.out.trans (World.grownBy_alloc w2 _ _))
      have hbs : w.heap.size ≤ (w2.alloc (.cells #[.int .i64 x] 3)).heap.size := HGA.out.size
      go_wp2_with (first | (at_builtin; refine wpList_app1 (E := encN) rfl slN (.tmp 13) (.tmp 16) rfl (B := w.heap.size) (v := .slice A1 j c1) (l := (vecNums l j p1 e1).1) HOA.out rfl (ad := ⟨w2.heap.size, 0, none⟩) (c := 1) x rfl HRD.out hfl (by omega) hbs ?_; intro A9 c9 w9 ho9 hg9 he9; have HO9 := hid ho9; have HC9 := hid (HCA.out.own hg9 (fun b hb => Nat.lt_of_lt_of_le HGL.out (HOA.out.lt b hb).1)); have HG9 := hid (gro_own HGA.out hg9 (fun b hb => (HOA.out.lt b hb).1)); clear ho9 hg9 he9) | go_in)
      rw [HUL.out] at HO9 ⊢
      go_roundw
      case rel => exact ⟨A9, c9, j + 1, rfl, by go_num, by omega, hid (by rw [HNX.out]; exact HO9.out), hid (by rw [HNX.out]; exact HC9.out), HG9⟩
      case measure => simp [intOf]; omega
    · obtain rfl : j = k := by omega
      have hk1 : ¬ (j : Int) < (j : Int) := by omega
      obtain ⟨V, hV⟩ : ∃ V, vecNums l j p1 e1 = V := ⟨_, rfl⟩
      have hVl : V.1.length = j := by rw [← hV]; exact vecNums_len _ _ _ _
      rw [hV] at HO HC HRV
      obtain ⟨vs, pv, ev'⟩ := V
      simp only at hVl HO HC HRV
      have HVL := hid hVl
      clear hV
      have hgf : wj.cell? ⟨g, 2, none⟩ = some (.int .i64 ev') := HC.out.row.c2
      by_cases hlast : vs.getLast? = some 0
      · obtain ⟨j', rfl⟩ : ∃ j', j = j' + 1 := ⟨j - 1, by
          rcases Nat.eq_zero_or_pos j with h | h
          · rw [h] at hVl
            rw [List.eq_nil_of_length_eq_zero hVl] at hlast
            cases hlast
          · omega⟩
        have hx : vs[j']? = some 0 := by rw [List.getLast?_eq_getElem?, hVl] at hlast; exact hlast
        obtain ⟨ad, rfl, hab, ha⟩ := (own_els HO.out).num hx
        obtain ⟨e3, he3⟩ : ∃ e3, (if ev' = 0 then (2 : Int) else ev') = e3 := ⟨_, rfl⟩
        have hne : ¬ e3 = 0 := by rw [← he3]; split <;> omega
        have hne2 : (e3 == 0) = false := beq_eq_false_iff_ne.2 hne
        have HE : Hid (vecErr vs ev' = e3) := hid (by unfold vecErr; rw [if_pos hlast, he3])
        have HF := hid (rcu_fail HC.out 2)
        rw [he3] at HF
        have e1' : (((j' + 1 : Nat) : Int)) - 1 = (j' : Int) := by omega
        have hp1 : (0 : Int) < ((j' + 1 : Nat) : Int) := by omega
        have hp2 : (j' : Int) < ((j' + 1 : Nat) : Int) := by omega
        have hp3 : (0 : Int) ≤ (j' : Int) := Int.natCast_nonneg _
        have HNE := hid hne
        clear hx hab hlast he3 hVl hgf
        go_wp2_with fail
        refine HF.out.mono ?_
        rintro er w2 ⟨rfl, hc2, hg2⟩
        have hgf : w2.cell? ⟨g, 2, none⟩ = some (.int .i64 e3) := hc2.row.c2
        have HC2 := hid hc2
        have HG2 := hid (HG.out.trans hg2)
        clear hc2 hg2
        go_wp2_with fail
        go_ret
        refine ⟨none, 0, 0, rfl, ?_, ?_, ?_, HG2.out⟩
        · rw [HRV.out, HE.out, if_neg HNE.out]; rfl
        · rw [HRV.out, HE.out, if_neg HNE.out]; exact Own.nil _ _ _
        · rw [HRV.out, HE.out]; exact HC2.out
      · have HE : Hid (vecErr vs ev' = ev') := hid (by unfold vecErr; rw [if_neg hlast])
        rcases Nat.eq_zero_or_pos j with rfl | hp
        · by_cases h0 : ev' = 0
          · subst h0
            go_wp2_with fail
            go_ret
            refine ⟨A1, 0, c1, rfl, ?_, ?_, ?_, HG.out⟩
            · rw [HRV.out, HE.out, if_pos rfl]; exact HVL.out
            · rw [HRV.out, HE.out, if_pos rfl]; exact HO.out
            · rw [HRV.out, HE.out]; exact HC.out
          · have h1 : (ev' == 0) = false := beq_eq_false_iff_ne.2 h0
            have HNE := hid h0
            go_wp2_with fail
            go_ret
            refine ⟨none, 0, 0, rfl, ?_, ?_, ?_, HG.out⟩
            · rw [HRV.out, HE.out, if_neg HNE.out]; rfl
            · rw [HRV.out, HE.out, if_neg HNE.out]; exact Own.nil _ _ _
            · rw [HRV.out, HE.out]; exact HC.out
        · obtain ⟨j', rfl⟩ : ∃ j', j = j' + 1 := ⟨j - 1, by omega⟩
          obtain ⟨x, hx⟩ : ∃ x, vs[j']? = some x := ⟨_, List.getElem?_eq_getElem (by omega)⟩
          have hx0 : ¬ x = 0 := fun e => hlast (by rw [List.getLast?_eq_getElem?, hVl]; show vs[j' + 1 - 1]? = _; rw [show j' + 1 - 1 = j' by omega, hx, e])
          have hx1 : (x == 0) = false := beq_eq_false_iff_ne.2 hx0
          obtain ⟨ad, rfl, hab, ha⟩ := (own_els HO.out).num hx
          have e1' : (((j' + 1 : Nat) : Int)) - 1 = (j' : Int) := by omega
          have hp1 : (0 : Int) < ((j' + 1 : Nat) : Int) := by omega
          have hp2 : (j' : Int) < ((j' + 1 : Nat) : Int) := by omega
          have hp3 : (0 : Int) ≤ (j' : Int) := Int.natCast_nonneg _
          clear hx hab hlast hVl
          by_cases h0 : ev' = 0
          · subst h0
            go_wp2_with fail
            go_ret
            refine ⟨some ad, j' + 1, c1, rfl, ?_, ?_, ?_, HG.out⟩
            · rw [HRV.out, HE.out, if_pos rfl]; exact HVL.out
            · rw [HRV.out, HE.out, if_pos rfl]; exact HO.out
            · rw [HRV.out, HE.out]; exact HC.out
          · have h1 : (ev' == 0) = false := beq_eq_false_iff_ne.2 h0
            have HNE := hid h0
            go_wp2_with fail
            go_ret
            refine ⟨none, 0, 0, rfl, ?_, ?_, ?_, HG.out⟩
            · rw [HRV.out, HE.out, if_neg HNE.out]; rfl
            · rw [HRV.out, HE.out, if_neg HNE.out]; exact Own.nil _ _ _
            · rw [HRV.out, HE.out]; exact HC.out
end Go.Proofs.Ytkaakbgpkpkeeaa.Sh
