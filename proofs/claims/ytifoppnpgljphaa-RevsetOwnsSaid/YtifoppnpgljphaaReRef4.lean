/-
  The document's set: Add, by contract.
-/
import Derived.Test.YtifoppnpgljphaaReRef3
namespace Go.Proofs.Ytifoppnpgljphaa.Sh
open Go Go.RowKit

set_option linter.unusedSimpArgs false
set_option linter.unusedVariables false
theorem Own.lower {α : Type} {E : Enc α} {w : World} {B B' : Nat} {T : TypeId} {v : Value} {l : List α} (h : Own (E := E) w B T v l) (hb : B' ≤ B) : Own (E := E) w B' T v l :=
  ⟨h.1, h.2.imp id (fun ⟨g, cap, cur, e, h1, h2⟩ => ⟨g, cap, cur, e, Nat.le_trans hb h1, h2⟩)⟩
theorem SetR.drewN {w : World} {P : Nat → Prop} {g gL : Nat} {S : Nat → List Int} (h : SetR w P g gL S) (k : Nat) : SetR (w.drewN k) P g gL S :=
  h.kept (fun b _ _ => rfl) (Nat.le_refl _) (fun _ hp _ => hp) h.ng h.nL
theorem addE_far {S : Nat → List Int} {d q : Int} (h : d < 1 ∨ 16 < d ∨ q < 1 ∨ 4000 < q) : addE S d q = 1 := if_pos h
theorem addS_no {S : Nat → List Int} {d q : Int} (h : addE S d q ≠ 0) : addS S d q = S := if_neg h
theorem addE_in {S : Nat → List Int} {k : Nat} {q : Int} (hk : k < 16) (h1 : 1 ≤ q) (h2 : q ≤ 4000) (h : q ∈ S k) : addE S ((k : Int) + 1) q = 14 := by
  unfold addE
  rw [if_neg (by omega), show ((k : Int) + 1 - 1).toNat = k by omega, if_pos h]
theorem addE_full {S : Nat → List Int} {k : Nat} {q : Int} (hk : k < 16) (h1 : 1 ≤ q) (h2 : q ≤ 4000) (h : q ∉ S k) (hl : (S k).length = 32) : addE S ((k : Int) + 1) q = 12 := by
  unfold addE
  rw [if_neg (by omega), show ((k : Int) + 1 - 1).toNat = k by omega, if_neg h, if_pos hl]
theorem addE_ok {S : Nat → List Int} {k : Nat} {q : Int} (hk : k < 16) (h1 : 1 ≤ q) (h2 : q ≤ 4000) (h : q ∉ S k) (hl : (S k).length ≠ 32) : addE S ((k : Int) + 1) q = 0 ∧ addS S ((k : Int) + 1) q = up S k (S k ++ [q]) := by
  have h0 : addE S ((k : Int) + 1) q = 0 := by
    unfold addE
    rw [if_neg (by omega), show ((k : Int) + 1 - 1).toNat = k by omega, if_neg h, if_neg hl]
  refine ⟨h0, ?_⟩
  unfold addS
  rw [if_pos h0, show ((k : Int) + 1 - 1).toNat = k by omega]
set_option maxHeartbeats 4000000 in
theorem refAdd11_any {w : World} {P : Nat → Prop} {g gL : Nat} {S : Nat → List Int} (h : SetR w P g gL S) (hP : ∀ b, w.heap.size ≤ b → P b) (d q : Int) :
    Calls Try.prog 29 #[.pointer (some ⟨g, 0, none⟩), .agg #[.int .i64 d, .int .i64 q]] w fun e w' => e = .returned (.int .i64 (addE S d q)) ∧ SetR w' P g gL (addS S d q) ∧ w.grownBy w' (some gL) := by
  have HBX : Below w.heap.size w (w.alloc (.cells #[.int .i64 d, .int .i64 q] 29)) := (Below.refl w.heap.size w).alloc (Nat.le_refl _) _
  by_cases hfar : d < 1 ∨ 16 < d ∨ q < 1 ∨ 4000 < q
  · have HE : Hid (addE S d q = 1) := hid (addE_far hfar)
    have HS : Hid (SetR (w.alloc (.cells #[.int .i64 d, .int .i64 q] 29)) P g gL (addS S d q)) := hid (by rw [addS_no (by rw [HE.out]; omega)]; exact h.below HBX)
    have HG := hid (gro_bl (row := some gL) HBX)
    clear HBX h hP
    by_cases h1 : d < 1
    · clear hfar
      go_enter Try.func29, Try.ntmps29
      go_wp2_with fail
      go_ret
      exact ⟨ret_int HE.out.symm, HS.out, HG.out⟩
    by_cases h2 : 16 < d
    · clear hfar
      go_enter Try.func29, Try.ntmps29
      go_wp2_with fail
      go_ret
      exact ⟨ret_int HE.out.symm, HS.out, HG.out⟩
    by_cases h3 : q < 1
    · clear hfar
      go_enter Try.func29, Try.ntmps29
      go_wp2_with fail
      go_ret
      exact ⟨ret_int HE.out.symm, HS.out, HG.out⟩
    have h4 : 4000 < q := by omega
    clear hfar
    go_enter Try.func29, Try.ntmps29
    go_wp2_with fail
    go_ret
    exact ⟨ret_int HE.out.symm, HS.out, HG.out⟩
  obtain ⟨k, hk⟩ : ∃ k : Nat, d = (k : Int) + 1 := ⟨(d - 1).toNat, by omega⟩
  subst hk
  have hk16 : k < 16 := by omega
  have h1 : ¬ (k : Int) + 1 < 1 := by omega
  have h2 : ¬ 16 < (k : Int) + 1 := by omega
  have h3 : ¬ q < 1 := by omega
  have h4 : ¬ 4000 < q := by omega
  have e1 : (k : Int) + 1 - 1 = (k : Int) := by omega
  have hk0 : (0 : Int) ≤ (k : Int) := Int.natCast_nonneg _
  have hk1 : (k : Int) < 16 := by omega
  have HS1 := hid (h.below HBX)
  have HH := hid (refHas11_any HS1.out ((k : Int) + 1) q)
  have HOK := hid (h.ok k)
  have HPP := hid hP
  have HB1 := hid HBX
  have hNEW : Hid ((w.alloc (.cells #[.int .i64 ((k : Int) + 1), .int .i64 q] 29)).heap[w.heap.size]? = some (.cells #[.int .i64 ((k : Int) + 1), .int .i64 q] 29 (0, 0))) := hid (heap_alloc_new w _)
  have HSZ : Hid ((w.alloc (.cells #[.int .i64 ((k : Int) + 1), .int .i64 q] 29)).heap.size = w.heap.size + 1) := hid (by simp)
  clear HBX h hP hfar
  obtain ⟨w1, hw1⟩ : ∃ x, x = w.alloc (.cells #[.int .i64 ((k : Int) + 1), .int .i64 q] 29) := ⟨_, rfl⟩
  rw [← hw1] at HS1 HH HB1 hNEW HSZ
  have HW1 := hid hw1
  clear hw1
  by_cases hin : q ∈ S k
  · have HE : Hid (addE S ((k : Int) + 1) q = 14) := hid (addE_in hk16 (by omega) (by omega) hin)
    rw [show @decide (hasS S ((k : Int) + 1) q) (Classical.propDecidable _) = true from @decide_eq_true _ (Classical.propDecidable _) ((hasS_at hk16).2 hin)] at HH
    have HSN : Hid (addS S ((k : Int) + 1) q = S) := hid (addS_no (by rw [HE.out]; omega))
    clear hin
    go_enter Try.func29, Try.ntmps29
    go_wp2_with fail
    rw [← HW1.out]
    refine HH.out.mono ?_
    rintro er w2 ⟨rfl, hb⟩
    have HS2 := hid (HS1.out.below hb)
    have HB2 := hid (HB1.out.trans (hb.mono HB1.out.size))
    clear hb
    go_wp2_with fail
    go_ret
    exact ⟨ret_int HE.out.symm, by rw [HSN.out]; exact HS2.out, gro_bl HB2.out⟩
  rw [show @decide (hasS S ((k : Int) + 1) q) (Classical.propDecidable _) = false from @decide_eq_false _ (Classical.propDecidable _) (fun hh => hin ((hasS_at hk16).1 hh))] at HH
  have HIN := hid hin
  by_cases hl : (S k).length = 32
  · have HE : Hid (addE S ((k : Int) + 1) q = 12) := hid (addE_full hk16 (by omega) (by omega) hin hl)
    have HSN : Hid (addS S ((k : Int) + 1) q = S) := hid (addS_no (by rw [HE.out]; omega))
    have HL := hid hl
    clear hin hl
    go_enter Try.func29, Try.ntmps29
    go_wp2_with fail
    rw [← HW1.out]
    refine HH.out.mono ?_
    rintro er w2 ⟨rfl, hb⟩
    obtain ⟨c, n, kc, A, hc1, hc2, ha, hbb, r⟩ := (HS1.out.below hb).at hk16
    have hn32 : n = 32 := r.len.symm.trans HL.out
    subst hn32
    have hi := (hb.block w.heap.size (by have := HSZ.out; omega)).trans hNEW.out
    have hi0 : w2.cell? ⟨w.heap.size, 0, none⟩ = some (.int .i64 ((k : Int) + 1)) := by rw [cell_of_row _ _ 0 _ _ (0, 0) hi]; rfl
    have HS2 := hid (HS1.out.below hb)
    have HB2 := hid (HB1.out.trans (hb.mono HB1.out.size))
    clear hb r hi
    go_wp2_with fail
    go_quiet (fail)
    go_wp2_with fail
    go_ret
    exact ⟨ret_int HE.out.symm, by rw [HSN.out]; exact HS2.out.drewN _, gro_bl (below_drewN HB2.out _)⟩
  · obtain ⟨hz, hup⟩ := addE_ok hk16 (by omega) (by omega) hin hl
    have HE := hid hz
    have HUP := hid hup
    have HL := hid hl
    have HOQ : Hid (OkR (S k ++ [q])) := hid (HOK.out.snoc hl (by omega) (by omega) hin)
    clear hin hl hz hup
    go_enter Try.func29, Try.ntmps29
    go_wp2_with fail
    rw [← HW1.out]
    refine HH.out.mono ?_
    rintro er w2 ⟨rfl, hb⟩
    obtain ⟨c, n, kc, A, hc1, hc2, ha, hbb, r⟩ := (HS1.out.below hb).at hk16
    have hn32 : ¬ ((n : Int) = 32) := fun e => HL.out (by have := r.len; simp only at this; omega)
    have hn33 : ((n : Int) == 32) = false := beq_eq_false_iff_ne.2 hn32
    have hi := (hb.block w.heap.size (by have := HSZ.out; omega)).trans hNEW.out
    have hi0 : w2.cell? ⟨w.heap.size, 0, none⟩ = some (.int .i64 ((k : Int) + 1)) := by rw [cell_of_row _ _ 0 _ _ (0, 0) hi]; rfl
    have HS2 := hid (HS1.out.below hb)
    have HB2 := hid (HB1.out.trans (hb.mono HB1.out.size))
    have HLT : Hid (w.heap.size < w2.heap.size) := hid (by have := hb.size; have := HSZ.out; omega)
    have HI := hid hi
    have HR := hid r
    clear hb r hi
    go_wp2_with fail
    go_quiet (fail)
    obtain ⟨w3, hw3⟩ : ∃ w3, w3 = w2.drewN nq := ⟨_, rfl⟩
    rw [← hw3]
    have HS3 : Hid (SetR w3 P g gL S) := hid (by rw [hw3]; exact HS2.out.drewN nq)
    have HB3 : Hid (Below w.heap.size w w3) := hid (by rw [hw3]; exact below_drewN HB2.out nq)
    have HR3 : Hid (RowAt w3 P ⟨A, n, kc⟩ (S k)) := hid (by rw [hw3]; exact HR.out.kept (fun b _ _ => rfl) (Nat.le_refl _) (fun _ hp _ => hp))
    have HI3 : Hid (w3.heap[w.heap.size]? = some (.cells #[.int .i64 ((k : Int) + 1), .int .i64 q] 29 (0, 0))) := hid (by rw [hw3]; exact HI.out)
    have HLT3 : Hid (w.heap.size < w3.heap.size) := hid (by rw [hw3]; exact HLT.out)
    clear hw3 HS2 HB2 HR HI HLT ha hbb hi0
    have hnl : (S k).length = n := HR3.out.len
    have hn9 : n ≤ 32 := by have := HOK.out.len; omega
    go_wp2_with (first
      | (at_builtin; refine wpList_appL (E := encN) rfl slN (.tmp 40) (.tmp 41) rfl (B := w3.heap.size) (v := .slice none 0 0) (l := []) (Own.nil _ _ _) rfl (A := A) (m := n) (c := kc) (S k) rfl hnl HR3.out.els.reads (by simp; omega) (by omega) (Nat.le_refl _) ?_; intro AT cT wT oT gT eT; simp only [List.length_nil, Nat.zero_add, List.nil_append] at oT ⊢; have HT := hid oT; have BT := hid ((Below.refl w3.heap.size w3).grown gT (Nat.le_refl _) (fun g e => by cases e)); clear oT gT eT;
         have hi1 : wT.cell? ⟨w.heap.size, 1, none⟩ = some (.int .i64 q) := (by rw [cell_of_row _ _ 1 _ _ (0, 0) ((BT.out.block _ HLT3.out).trans HI3.out)]; rfl);
         have HOA7 := hid (HT.out.alloc (.cells #[.int .i64 q] 3)); have HRD7 := hid (reads_new wT #[.int .i64 q] 3 (0, 0)); have HBA7 := hid (BT.out.alloc BT.out.size (.cells #[.int .i64 q] 3));
         have hbs7 : w3.heap.size ≤ (wT.alloc (.cells #[.int .i64 q] 3)).heap.size := HBA7.out.size; have hfl : (S k).length ≤ 1000000000000 := (by omega))
      | (at_builtin; refine wpList_app1 (E := encN) rfl slN (.tmp 43) (.tmp 46) rfl (B := w3.heap.size) (v := .slice AT n cT) (l := S k) HOA7.out rfl (ad := ⟨wT.heap.size, 0, none⟩) (c := 1) q rfl HRD7.out hfl (by omega) hbs7 ?_; intro A9 c9 w9 ho9 hg9 he9; have HO9 := hid ho9; have HB9 := hid (HBA7.out.grown hg9 hbs7 (fun g e => (World.ownsRow.lt HOA7.out g e).1)); clear ho9 hg9 he9)
      | go_in)
    rw [hnl] at HO9
    have HR9 : Hid (RowAt w9 P ⟨A9, n + 1, c9⟩ (S k ++ [q])) := hid (RowAt.own HO9.out (by rw [List.length_append, hnl]; rfl) (fun b hb => HPP.out b (by have := HB3.out.size; omega)))
    have HS9 := hid (HS3.out.below HB9.out)
    obtain ⟨c', n', kc', A', hc1', hc2', ha', hb', r'⟩ := HS9.out.at hk16
    have hi9 : w9.cell? ⟨w.heap.size, 0, none⟩ = some (.int .i64 ((k : Int) + 1)) := by
      rw [cell_of_row _ _ 0 _ _ (0, 0) ((HB9.out.block _ HLT3.out).trans HI3.out)]; rfl
    obtain ⟨csL, hcL, -⟩ := HS9.out.list
    have fz := frozen_of_row w9 gL k _ _ hcL
    have HPUT := hid (fun j => (HS9.out.drewN j).put hk16 (x := ⟨A9, n + 1, c9⟩) (HR9.out.kept (w' := w9.drewN j) (fun b _ _ => rfl) (Nat.le_refl _) (fun _ hp _ => hp)) HOQ.out)
    have HBF : Hid (∀ j, Below w.heap.size w (w9.drewN j)) := hid (fun j => below_drewN (HB3.out.trans (HB9.out.mono HB3.out.size)) j)
    clear r' hcL
    go_wp2_with fail
    go_region
    all_goals
      go_wp2_with fail
      go_ret
      exact ⟨ret_int HE.out.symm, by rw [HUP.out]; exact (HPUT.out _).1, gro_next (HBF.out _) (HPUT.out _).2⟩
end Go.Proofs.Ytifoppnpgljphaa.Sh
