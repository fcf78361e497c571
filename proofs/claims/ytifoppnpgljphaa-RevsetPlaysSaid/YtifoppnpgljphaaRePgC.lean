/-
  The program's own set: Add, by contract. It may write into the row's own block, behind what was there.
-/
import Derived.Test.YtifoppnpgljphaaRePgB
import Derived.WalkLawsBesides
namespace Go.Proofs.Ytifoppnpgljphaa.Sh
open Go Go.RowKit

set_option linter.unusedSimpArgs false
set_option linter.unusedVariables false
theorem rowHd_at (hs : Nat → Hd) {k : Nat} (hk : k < 16) : rowHd hs ((k : Int) + 1) = hs k := by unfold rowHd; rw [if_pos (by omega)]; congr 1; omega
theorem RowsP.drewN {w : World} {P : Nat → Prop} {g : Nat} {hs : Nat → Hd} {cs : Array Value} {S : Nat → List Int} (h : RowsP w P g hs cs S) (k : Nat) : RowsP (w.drewN k) P g hs cs S := h.kept (fun _ _ _ => rfl) (fun _ hp _ => hp)
theorem SetP.drewN {w : World} {P : Nat → Prop} {g : Nat} {S : Nat → List Int} (h : SetP w P g S) (k : Nat) : SetP (w.drewN k) P g S := h.kept (fun _ _ _ => rfl) (Nat.le_refl _) (fun _ hp _ => hp) h.ng
set_option maxHeartbeats 8000000 in
theorem add11_any {w : World} {P : Nat → Prop} {g : Nat} {S : Nat → List Int} (h : SetP w P g S) (hP : ∀ b, w.heap.size ≤ b → P b) (d q : Int) :
    Calls Try.prog 21 #[.pointer (some ⟨g, 0, none⟩), .agg #[.int .i64 d, .int .i64 q]] w fun e w' => e = .returned (.int .i64 (addE S d q)) ∧ SetP w' P g (addS S d q) ∧ Grew w w' (fun b => b = g ∨ P b) := by
  have HNG := hid h.ng
  obtain ⟨w1, hw1⟩ : ∃ x, x = w.alloc (.cells #[.int .i64 d, .int .i64 q] 29) := ⟨_, rfl⟩
  have HB1 : Hid (Below w.heap.size w w1) := hid (by rw [hw1]; exact (Below.refl w.heap.size w).alloc (Nat.le_refl _) _)
  have HNEW : Hid (w1.heap[w.heap.size]? = some (.cells #[.int .i64 d, .int .i64 q] 29 (0, 0))) := hid (by rw [hw1]; exact heap_alloc_new w _)
  have HSZ : Hid (w1.heap.size = w.heap.size + 1) := hid (by rw [hw1]; simp)
  have hc0 : w1.cell? ⟨w.heap.size, 0, none⟩ = some (.int .i64 d) := by rw [cell_of_row _ _ 0 _ _ (0, 0) HNEW.out]; rfl
  have hc1 : w1.cell? ⟨w.heap.size, 1, none⟩ = some (.int .i64 q) := by rw [cell_of_row _ _ 1 _ _ (0, 0) HNEW.out]; rfl
  have HS1 : Hid (SetP w1 P g S) := hid (h.kept (fun b _ hb => HB1.out.block b hb) HB1.out.size (fun _ hp _ => hp) h.ng)
  have HG1 : Hid (Grew w w1 (fun b => b = g ∨ P b)) := hid (Grew.of_below HB1.out)
  have HW1 := hid hw1
  have HWD := hid (within_any d 16 w1)
  have HWQ := hid (within_any q 4000 w1)
  by_cases hfar : d < 1 ∨ 16 < d ∨ q < 1 ∨ 4000 < q
  · have HE : Hid (addE S d q = 1) := hid (addE_far hfar)
    have HSN : Hid (SetP w1 P g (addS S d q)) := hid (by rw [addS_no (by rw [HE.out]; omega)]; exact HS1.out)
    clear h hP hw1
    by_cases hd : 1 ≤ d ∧ d ≤ 16
    · have hq : ¬ (1 ≤ q ∧ q ≤ 4000) := by omega
      rw [decide_eq_true hd] at HWD
      rw [decide_eq_false hq] at HWQ
      clear hfar hd hq
      go_enter Try.func21, Try.ntmps21
      go_upto_region 1 with fail
      rw [← HW1.out]
      go_wp2_with fail
      refine HWD.out.mono ?_
      rintro er w2 ⟨rfl, hw⟩
      have hw2 : w1 = w2 := hw
      subst hw2
      clear hw
      go_wp2_with fail
      refine HWQ.out.mono ?_
      rintro er w2 ⟨rfl, hw⟩
      have hw2 : w1 = w2 := hw
      subst hw2
      clear hw
      go_wp2_with fail
      go_ret
      exact ⟨ret_int HE.out.symm, HSN.out, HG1.out⟩
    · rw [decide_eq_false hd] at HWD
      clear hfar hd
      go_enter Try.func21, Try.ntmps21
      go_upto_region 1 with fail
      rw [← HW1.out]
      go_wp2_with fail
      refine HWD.out.mono ?_
      rintro er w2 ⟨rfl, hw⟩
      have hw2 : w1 = w2 := hw
      subst hw2
      clear hw
      go_wp2_with fail
      go_ret
      exact ⟨ret_int HE.out.symm, HSN.out, HG1.out⟩
  rw [show decide (1 ≤ d ∧ d ≤ 16) = true from decide_eq_true (by omega)] at HWD
  rw [show decide (1 ≤ q ∧ q ≤ 4000) = true from decide_eq_true (by omega)] at HWQ
  obtain ⟨k, hk⟩ : ∃ k : Nat, d = (k : Int) + 1 := ⟨(d - 1).toNat, by omega⟩
  subst hk
  have hk16 : k < 16 := by omega
  have e1 : (k : Int) + 1 - 1 = (k : Int) := by omega
  have hk0 : (0 : Int) ≤ (k : Int) := Int.natCast_nonneg _
  have hk1 : (k : Int) < 16 := by omega
  have HOK := hid (h.ok k)
  have HPP := hid hP
  obtain ⟨hs, cs, r0⟩ := h.rows
  have HLT := hid (fun i b (hi : i < 16) (e : (hs i).val.ownBlock = some b) => ((r0.own i hi).lt b e).2)
  have r := r0.below HB1.out
  have HR := hid (prow_any r ((k : Int) + 1))
  have hlen := r.len k hk16
  have hown := r.own k hk16
  have HC := hid (conN_any (hs k).A (S k) (hs k).n (hs k).c hlen (by have := HOK.out.len; omega) q w1 (own_els (show Own (E := encN) w1 0 3 (.slice (hs k).A (hs k).n (hs k).c) (S k) from hown)))
  rw [rowHd_at hs hk16] at HR
  have HRR := hid r
  obtain ⟨y, hy⟩ : ∃ y, hs k = y := ⟨_, rfl⟩
  rw [hy] at HR HC hlen hown
  have HY := hid hy
  have hn32 : y.n ≤ 32 := by have := HOK.out.len; omega
  have HLEN := hid hlen
  have HOWN := hid hown
  clear h hP r r0 hy hw1 hlen hown
  by_cases hin : q ∈ S k
  · have HE : Hid (addE S ((k : Int) + 1) q = 14) := hid (addE_in hk16 (by omega) (by omega) hin)
    rw [decide_eq_true hin] at HC
    have HSN : Hid (SetP w1 P g (addS S ((k : Int) + 1) q)) := hid (by rw [addS_no (by rw [HE.out]; omega)]; exact HS1.out)
    clear hin hfar
    go_enter Try.func21, Try.ntmps21
    go_upto_region 1 with fail
    rw [← HW1.out]
    go_wp2_with fail
    refine HWD.out.mono ?_
    rintro er w2 ⟨rfl, hw⟩
    have hw2 : w1 = w2 := hw
    subst hw2
    clear hw
    go_wp2_with fail
    refine HWQ.out.mono ?_
    rintro er w2 ⟨rfl, hw⟩
    have hw2 : w1 = w2 := hw
    subst hw2
    clear hw
    go_wp2_with fail
    refine HR.out.mono ?_
    rintro er w2 ⟨rfl, hw⟩
    have hw2 : w1 = w2 := hw
    subst hw2
    clear hw
    go_wp2_with fail
    refine HC.out.mono ?_
    rintro er w2 ⟨rfl, hw⟩
    have hw2 : w1 = w2 := hw
    subst hw2
    clear hw
    go_wp2_with fail
    go_ret
    exact ⟨ret_int HE.out.symm, HSN.out, HG1.out⟩
  rw [decide_eq_false hin] at HC
  have HIN := hid hin
  by_cases hl : (S k).length = 32
  · have HE : Hid (addE S ((k : Int) + 1) q = 12) := hid (addE_full hk16 (by omega) (by omega) hin hl)
    have HSN : Hid (SetP w1 P g (addS S ((k : Int) + 1) q)) := hid (by rw [addS_no (by rw [HE.out]; omega)]; exact HS1.out)
    obtain ⟨yA, yn, yc⟩ := y
    simp only at HR HC HLEN HOWN hn32
    have hyn : yn = 32 := HLEN.out.symm.trans hl
    subst hyn
    clear hin hl hfar
    go_enter Try.func21, Try.ntmps21
    go_upto_region 1 with fail
    rw [← HW1.out]
    go_wp2_with fail
    refine HWD.out.mono ?_
    rintro er w2 ⟨rfl, hw⟩
    have hw2 : w1 = w2 := hw
    subst hw2
    clear hw
    go_wp2_with fail
    refine HWQ.out.mono ?_
    rintro er w2 ⟨rfl, hw⟩
    have hw2 : w1 = w2 := hw
    subst hw2
    clear hw
    go_wp2_with fail
    refine HR.out.mono ?_
    rintro er w2 ⟨rfl, hw⟩
    have hw2 : w1 = w2 := hw
    subst hw2
    clear hw
    go_wp2_with fail
    refine HC.out.mono ?_
    rintro er w2 ⟨rfl, hw⟩
    have hw2 : w1 = w2 := hw
    subst hw2
    clear hw
    go_wp2_with fail
    go_ret
    exact ⟨ret_int HE.out.symm, HSN.out, HG1.out⟩
  · obtain ⟨hz, hup⟩ := addE_ok hk16 (by omega) (by omega) hin hl
    have HE := hid hz
    have HUP := hid hup
    have HOQ : Hid (OkR (S k ++ [q])) := hid (HOK.out.snoc hl (by omega) (by omega) hin)
    obtain ⟨yA, yn, yc⟩ := y
    simp only at HR HC HLEN HOWN hn32
    have hyn : ¬ (yn : Int) = 32 := by have := HLEN.out; omega
    have hyn2 : ((yn : Int) == 32) = false := beq_eq_false_iff_ne.2 hyn
    clear hin hl hfar hz hup
    go_enter Try.func21, Try.ntmps21
    go_upto_region 1 with fail
    rw [← HW1.out]
    go_wp2_with fail
    refine HWD.out.mono ?_
    rintro er w2 ⟨rfl, hw⟩
    have hw2 : w1 = w2 := hw
    subst hw2
    clear hw
    go_wp2_with fail
    refine HWQ.out.mono ?_
    rintro er w2 ⟨rfl, hw⟩
    have hw2 : w1 = w2 := hw
    subst hw2
    clear hw
    go_wp2_with fail
    refine HR.out.mono ?_
    rintro er w2 ⟨rfl, hw⟩
    have hw2 : w1 = w2 := hw
    subst hw2
    clear hw
    go_wp2_with fail
    refine HC.out.mono ?_
    rintro er w2 ⟨rfl, hw⟩
    have hw2 : w1 = w2 := hw
    subst hw2
    clear hw
    go_wp2_with fail
    have hwr : IntKind.i64.wrap (k : Int) = (k : Int) := wrap_in _ (by omega)
    have HOA : Hid (Own (E := encN) ((w1.alloc (.cells #[.int .i64 q] 3)).drew) 0 3 (.slice yA yn yc) (S k)) := hid ((Own.alloc (show Own (E := encN) w1 0 3 (.slice yA yn yc) (S k) from HOWN.out) _).drew)
    have HRD := hid (reads_newd w1 #[.int .i64 q] 3 (0, 0))
    have hfl : (S k).length ≤ 1000000000000 := by have := HLEN.out; omega
    have HL := hid HLEN.out
    have HAP : Hid (∀ (A' : Option Addr) (c' : Nat) (w4 : World), Own (E := encN) w4 0 3 (.slice A' ((S k).length + 1) c') (S k ++ [q]) → ((w1.alloc (.cells #[.int .i64 q] 3)).drew).grownBy w4 (Value.slice yA yn yc).ownBlock → ((Value.slice A' ((S k).length + 1) c').ownBlock = (Value.slice yA yn yc).ownBlock ∨ (Value.slice A' ((S k).length + 1) c').ownBlock = some ((w1.alloc (.cells #[.int .i64 q] 3)).drew).heap.size) →
        RowsX w4 P g hs cs S k ∧ w4.cell? ⟨g, k, none⟩ = some (.slice yA yn yc) ∧ (w4.cell? ⟨w.heap.size, 0, none⟩ = some (.int .i64 ((k : Int) + 1)) ∧ w4.cell? ⟨w.heap.size, 1, none⟩ = some (.int .i64 q)) ∧ SetP (w4.setCell ⟨g, k, none⟩ (.slice A' ((S k).length + 1) c')) P g (addS S ((k : Int) + 1) q) ∧ Grew w (w4.setCell ⟨g, k, none⟩ (.slice A' ((S k).length + 1) c')) (fun b => b = g ∨ P b)) := hid (by
      intro A' c' w4 o4 g4 l4
      have hgn : (Value.slice yA yn yc).ownBlock ≠ some g := fun e => HNG.out (HRR.out.blk k g hk16 (by rw [HY.out]; exact e))
      have hz1 : ((w1.alloc (.cells #[.int .i64 q] 3)).drew).heap.size = w1.heap.size + 1 := by simp [World.drew]
      have ha1 : ∀ b, b < w1.heap.size → ((w1.alloc (.cells #[.int .i64 q] 3)).drew).heap[b]? = w1.heap[b]? := fun b hb => ((Below.refl w1.heap.size w1).alloc (Nat.le_refl _) (.cells #[.int .i64 q] 3)).drew.block b hb
      have hk4 : ∀ b, b < w1.heap.size → (Value.slice yA yn yc).ownBlock ≠ some b → w4.heap[b]? = w1.heap[b]? := fun b hb hne => (g4.block b (by omega) (fun e => hne e.symm)).trans (ha1 b hb)
      have X : RowsX w4 P g hs cs S k := (HRR.out.but k).kept (hk4 g HRR.out.lt hgn) (fun i b hi hne e hb => hk4 b hb (fun e2 => HRR.out.apart i k b hi hk16 hne e (by rw [HY.out]; exact e2)))
      have hcell : w4.cell? ⟨g, k, none⟩ = some (.slice yA yn yc) := by
        rw [cell_of_row _ _ k _ _ (0, 0) X.heap, X.cell k hk16, HY.out]; rfl
      have hs4 : w1.heap.size + 1 ≤ w4.heap.size := by have := g4.size; omega
      have hs0 := HSZ.out
      obtain ⟨p1, p2⟩ := X.put HNG.out hk16 (y := ⟨A', (S k).length + 1, c'⟩) (l := S k ++ [q]) (by simp) o4 (fun b e => by
          rcases l4 with l4 | l4
          · exact HRR.out.blk k b hk16 (by rw [HY.out]; exact l4.symm.trans e)
          · have e2 := l4.symm.trans e
            injection e2 with e2
            exact HPP.out b (by omega)) (fun i b hi hne e e2 => by
          rcases l4 with l4 | l4
          · exact HRR.out.apart i k b hi hk16 hne e (by rw [HY.out]; exact l4.symm.trans e2)
          · have e3 := l4.symm.trans e2
            injection e3 with e3
            have := ((HRR.out.own i hi).lt b e).2
            omega)
      have hid4 : w4.heap[w.heap.size]? = some (.cells #[.int .i64 ((k : Int) + 1), .int .i64 q] 29 (0, 0)) := (hk4 _ (by omega) (fun e => by have := HLT.out k w.heap.size hk16 (by rw [HY.out]; exact e); omega)).trans HNEW.out
      refine ⟨X, hcell, ⟨by rw [cell_of_row _ _ 0 _ _ (0, 0) hid4]; rfl, by rw [cell_of_row _ _ 1 _ _ (0, 0) hid4]; rfl⟩, ⟨⟨_, _, by rw [HUP.out]; exact p1⟩, HNG.out, (HS1.out.ok).add _ _⟩, ?_⟩
      refine ⟨?_, ?_, ?_, ?_, fun b hb hx => ?_⟩
      · exact p2.os.trans (g4.os.trans HB1.out.os)
      · exact p2.tape.trans (g4.tape.trans HB1.out.tape)
      · exact p2.output.trans (g4.output.trans HB1.out.output)
      · exact Nat.le_trans (by omega : w.heap.size ≤ w4.heap.size) p2.size
      · exact (p2.block b (by omega) (fun e => hx (.inl (Option.some.inj e)))).trans ((hk4 b (by omega) (fun e => hx (.inr (HRR.out.blk k b hk16 (by rw [HY.out]; exact e))))).trans (HB1.out.block b hb)))
    have hida : (w1.alloc (.cells #[.int .i64 q] 3)).heap[w.heap.size]? = some (.cells #[.int .i64 ((k : Int) + 1), .int .i64 q] 29 (0, 0)) := (((Below.refl w1.heap.size w1).alloc (Nat.le_refl _) _).block _ (by have := HSZ.out; omega)).trans HNEW.out
    have ja0 : (w1.alloc (.cells #[.int .i64 q] 3)).cell? ⟨w.heap.size, 0, none⟩ = some (.int .i64 ((k : Int) + 1)) := by rw [cell_of_row _ _ 0 _ _ (0, 0) hida]; rfl
    have ja1 : (w1.alloc (.cells #[.int .i64 q] 3)).cell? ⟨w.heap.size, 1, none⟩ = some (.int .i64 q) := by rw [cell_of_row _ _ 1 _ _ (0, 0) hida]; rfl
    go_region_law ((first | (refine step_app1 (E := encN) (by rfl) slN (.tmp 31) (.tmp 34) (by rfl) (B := 0) (v := .slice yA yn yc) (l := S k) HOA.out (by rfl) (ad := ⟨w1.heap.size, 0, none⟩) (c := 1) q (by rfl) HRD.out hfl (by omega) (Nat.zero_le _) ?_; intro A' c' w4 ho4 hg4 hl4; obtain ⟨x4, c54, ⟨i40, i41⟩, s4, gg4⟩ := HAP.out A' c' w4 ho4 hg4 hl4; have f54 : w4.frozen? ⟨g, k, none⟩ = false := frozen_of_row w4 g k _ _ x4.heap; have S4 := hid s4; have GG4 := hid gg4; clear ho4 hg4 hl4 x4 s4 gg4)))
    all_goals
      go_wp2_with fail
      go_ret
      exact ⟨ret_int HE.out.symm, S4.out, GG4.out⟩
end Go.Proofs.Ytifoppnpgljphaa.Sh
