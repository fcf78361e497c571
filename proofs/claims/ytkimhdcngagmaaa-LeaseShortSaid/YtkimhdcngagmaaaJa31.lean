/-
  The document's examples of leases: lives, by contract.
-/
import Derived.Test.YtkimhdcngagmaaaJa28
import Derived.Test.YtkimhdcngagmaaaJa29
import Derived.Test.YtkimhdcngagmaaaJa30
import Derived.BigQuiet
set_option linter.unusedVariables false
set_option linter.unusedSimpArgs false
namespace Go.Proofs.Ytkimhdcngagmaaa.Sh
open Go Go.RowKit

set_option linter.unusedSimpArgs false
set_option linter.unusedVariables false
theorem crs_one (w : World) (c : Crd) (t : TypeId) (fr : Nat × Nat) : Crs (w.alloc (.cells c.cells.toArray t fr)) (w.alloc (.cells c.cells.toArray t fr)).heap.size (some ⟨w.heap.size, 0, none⟩) [c] := fun _ => by
  obtain ⟨ad, e, h⟩ := reads_cr w c t fr (by rw [cv_length]; simp)
  refine ⟨ad, e, ?_, h⟩
  cases e
  simp
theorem els_two (w : World) (a b c d : Int) (t : TypeId) (fr : Nat × Nat) : Els encI (w.alloc (.cells #[.int .i64 a, .int .i64 b, .int .i64 c, .int .i64 d] t fr)) (w.alloc (.cells #[.int .i64 a, .int .i64 b, .int .i64 c, .int .i64 d] t fr)).heap.size (some ⟨w.heap.size, 0, none⟩) [(a, b), (c, d)] := fun _ => by
  obtain ⟨ad, e, h⟩ := reads_new w #[.int .i64 a, .int .i64 b, .int .i64 c, .int .i64 d] t fr (by simp)
  refine ⟨ad, e, ?_, h⟩
  cases e
  simp
set_option maxHeartbeats 16000000 in
theorem lives_any (w : World) : Calls Try.prog 9 #[] w fun e w' => e = .returned (.bool true) ∧ Below w.heap.size w w' := by
  have HN1 := hid (new_yes 1 (by omega) w)
  have HN0 := hid (fun W => new_no 0 (by omega) W)
  go_enter Try.func9, Try.ntmps9
  go_wp2_with fail
  refine HN1.out.mono ?_
  rintro er w1 ⟨g, rfl, hb1, bl1⟩
  have HB1 := hid bl1
  have HL1 : Hid (Calls Try.prog 21 #[.pointer (some ⟨g, 0, none⟩), .int .i64 2, .slice (some ⟨w1.heap.size + 1, 0, none⟩) 1 1, .int .i64 10] ((w1.alloc (.cells #[.int .i64 2, .int .i64 1, .string ⟨#[97]⟩, .int .i64 1, .string ⟨#[97, 110, 110]⟩, .string ⟨#[]⟩, .string ⟨#[]⟩, .string ⟨#[]⟩, .string ⟨#[]⟩] 53)).alloc (.cells #[.int .i64 2, .int .i64 1, .string ⟨#[97]⟩, .int .i64 1, .string ⟨#[97, 110, 110]⟩, .string ⟨#[]⟩, .string ⟨#[]⟩, .string ⟨#[]⟩, .string ⟨#[]⟩] 53)) fun e w' =>
      e = .returned (.int .i64 0) ∧ Below w.heap.size w w' ∧ w'.heap[w1.heap.size]? = some (.cells #[.int .i64 2, .int .i64 1, .string ⟨#[97]⟩, .int .i64 1, .string ⟨#[97, 110, 110]⟩, .string ⟨#[]⟩, .string ⟨#[]⟩, .string ⟨#[]⟩, .string ⟨#[]⟩] 53 (0, 0)) ∧ ∃ P2 : Nat → Prop, BookP w' P2 g 2 exB ∧ (∀ x, P2 x → w.heap.size ≤ x) ∧ ¬ P2 w1.heap.size) := hid (by
    have s1 : (w1.alloc (.cells #[.int .i64 2, .int .i64 1, .string ⟨#[97]⟩, .int .i64 1, .string ⟨#[97, 110, 110]⟩, .string ⟨#[]⟩, .string ⟨#[]⟩, .string ⟨#[]⟩, .string ⟨#[]⟩] 53)).heap.size = w1.heap.size + 1 := by simp
    have s2 : ((w1.alloc (.cells #[.int .i64 2, .int .i64 1, .string ⟨#[97]⟩, .int .i64 1, .string ⟨#[97, 110, 110]⟩, .string ⟨#[]⟩, .string ⟨#[]⟩, .string ⟨#[]⟩, .string ⟨#[]⟩] 53)).alloc (.cells #[.int .i64 2, .int .i64 1, .string ⟨#[97]⟩, .int .i64 1, .string ⟨#[97, 110, 110]⟩, .string ⟨#[]⟩, .string ⟨#[]⟩, .string ⟨#[]⟩, .string ⟨#[]⟩] 53)).heap.size = w1.heap.size + 2 := by simp
    have hc := crs_one (w1.alloc (.cells #[.int .i64 2, .int .i64 1, .string ⟨#[97]⟩, .int .i64 1, .string ⟨#[97, 110, 110]⟩, .string ⟨#[]⟩, .string ⟨#[]⟩, .string ⟨#[]⟩, .string ⟨#[]⟩] 53)) exC 53 (0, 0)
    rw [s1] at hc
    have hbl : Below w1.heap.size w1 ((w1.alloc (.cells #[.int .i64 2, .int .i64 1, .string ⟨#[97]⟩, .int .i64 1, .string ⟨#[97, 110, 110]⟩, .string ⟨#[]⟩, .string ⟨#[]⟩, .string ⟨#[]⟩, .string ⟨#[]⟩] 53)).alloc (.cells #[.int .i64 2, .int .i64 1, .string ⟨#[97]⟩, .int .i64 1, .string ⟨#[97, 110, 110]⟩, .string ⟨#[]⟩, .string ⟨#[]⟩, .string ⟨#[]⟩, .string ⟨#[]⟩] 53)) := ((Below.refl _ _).alloc (Nat.le_refl _) _).alloc (by omega) _
    have hs1 := bl1.size
    have hh := heap_alloc_new w1 (.cells #[.int .i64 2, .int .i64 1, .string ⟨#[97]⟩, .int .i64 1, .string ⟨#[97, 110, 110]⟩, .string ⟨#[]⟩, .string ⟨#[]⟩, .string ⟨#[]⟩, .string ⟨#[]⟩] 53)
    have hcell : ((w1.alloc (.cells #[.int .i64 2, .int .i64 1, .string ⟨#[97]⟩, .int .i64 1, .string ⟨#[97, 110, 110]⟩, .string ⟨#[]⟩, .string ⟨#[]⟩, .string ⟨#[]⟩, .string ⟨#[]⟩] 53)).alloc (.cells #[.int .i64 2, .int .i64 1, .string ⟨#[97]⟩, .int .i64 1, .string ⟨#[97, 110, 110]⟩, .string ⟨#[]⟩, .string ⟨#[]⟩, .string ⟨#[]⟩, .string ⟨#[]⟩] 53)).heap[w1.heap.size]? = some (.cells #[.int .i64 2, .int .i64 1, .string ⟨#[97]⟩, .int .i64 1, .string ⟨#[97, 110, 110]⟩, .string ⟨#[]⟩, .string ⟨#[]⟩, .string ⟨#[]⟩, .string ⟨#[]⟩] 53 (0, 0)) := (((Below.refl (w1.alloc (.cells #[.int .i64 2, .int .i64 1, .string ⟨#[97]⟩, .int .i64 1, .string ⟨#[97, 110, 110]⟩, .string ⟨#[]⟩, .string ⟨#[]⟩, .string ⟨#[]⟩, .string ⟨#[]⟩] 53)).heap.size (w1.alloc (.cells #[.int .i64 2, .int .i64 1, .string ⟨#[97]⟩, .int .i64 1, .string ⟨#[97, 110, 110]⟩, .string ⟨#[]⟩, .string ⟨#[]⟩, .string ⟨#[]⟩, .string ⟨#[]⟩] 53))).alloc (Nat.le_refl _) _).block _ (by omega)).trans hh
    refine (learn_any (hb1.below hbl) (by omega) (some ⟨w1.heap.size + 1, 0, none⟩) [exC] 1 1 rfl (by omega) (by omega) (by omega) hc 2 10).mono ?_
    rintro e w' ⟨he, hbk, hgr⟩
    rw [ex_learn] at he hbk
    have hP : ∀ x, plusP (fun _ => False) w.heap.size w1.heap.size x → w.heap.size ≤ x ∧ x < w1.heap.size := fun x hx => hx.elim (fun h => h.elim) id
    refine ⟨he, bl1.trans ((hbl.mono bl1.size).trans (hgr.below (by omega) (fun x hx => (hP x hx).1))), ?_, _, hbk, fun x hx => ?_, fun hx => ?_⟩
    · rw [hgr.block _ (by omega) (fun hx => by have := (hP _ hx).2; omega)]
      exact hcell
    · rcases hx with hx | hx
      · exact (hP x hx).1
      · have := hx.1; omega
    · rcases hx with hx | hx
      · have := (hP _ hx).2; omega
      · have := hx.1; omega)
  clear hb1 bl1 HN1
  go_wp2_with fail
  refine HL1.out.mono ?_
  rintro er w2 ⟨rfl, b2, hc2, P2, hp2, hl2, hn2⟩
  have HB2 := hid b2
  have HH2 := hid (held_any hp2 ex_len 65)
  rw [ex_held] at HH2
  have HP2 := hid hp2
  have HC2 := hid hc2
  have HLW := hid hl2
  have HNC := hid hn2
  clear hp2 b2 hc2 hl2 hn2 HL1
  go_wp2_with fail
  refine HH2.out.mono ?_
  rintro er w3 ⟨A3, n3, c3, rfl, hn3, hc3, hm3, -, ho3, hb3⟩
  obtain rfl : n3 = 1 := hn3.symm
  obtain ⟨gl, tl, rfl, hgl, hrow, -, -, -⟩ := Own.rowE ho3 (show [exH].length = 1 from rfl) (by omega)
  have HB3 := hid (HB2.out.trans (hb3.mono HB2.out.size))
  have HP3 := hid (HP2.out.below hb3)
  have HC3 := hid ((hb3.block _ (Array.getElem?_eq_some_iff.1 HC2.out).1).trans HC2.out)
  have HR3 := hid hrow
  have HGL := hid (show ¬ P2 gl from fun h => by have := HP2.out.dom gl h; omega)
  clear hn3 ho3 hb3 hrow hgl HH2 HP2 HC2
  have HU3 : Hid (Calls Try.prog 14 #[.pointer (some ⟨g, 0, none⟩), .slice (some ⟨w3.heap.size, 0, none⟩) 2 2, .int .i64 20] (w3.alloc (.cells #[.int .i64 1, .int .i64 9, .int .i64 2, .int .i64 1] 49)) fun e w' => e = .returned (.tuple #[.int .i64 66, .int .i64 0]) ∧ Below w3.heap.size w3 w') := hid (by
    have hbl : Below w3.heap.size w3 (w3.alloc (.cells #[.int .i64 1, .int .i64 9, .int .i64 2, .int .i64 1] 49)) := (Below.refl _ _).alloc (Nat.le_refl _) _
    refine (until_any (HP3.out.below hbl) ex_len (some ⟨w3.heap.size, 0, none⟩) [(1, 9), (2, 1)] 2 2 rfl (by omega) (els_two w3 1 9 2 1 _ _) (fun x hx => ?_) 20).mono ?_
    · simp only [List.mem_cons, List.not_mem_nil, or_false] at hx
      rcases hx with rfl | rfl <;> (unfold In64; omega)
    · rintro e w' ⟨he, hb⟩
      rw [ex_until] at he
      exact ⟨he, hbl.trans (hb.mono hbl.size)⟩)
  go_wp2_with fail
  refine HU3.out.mono ?_
  rintro er w4 ⟨rfl, b4⟩
  have HB4 := hid (HB3.out.trans (b4.mono HB3.out.size))
  have HP4 := hid (HP3.out.below b4)
  have HC4 := hid ((b4.block _ (Array.getElem?_eq_some_iff.1 HC3.out).1).trans HC3.out)
  have HR4 := hid (HR3.out.below b4)
  have HL4 := hid (learn_any HP4.out (by omega) none [] 0 0 rfl (by omega) (by omega) (by omega) Crs.nil 2 9)
  rw [ex_late] at HL4
  clear b4 HU3 HP3 HC3 HR3
  go_wp2_with fail
  refine HL4.out.mono ?_
  rintro er w5 ⟨rfl, hp5, hg5⟩
  have HB5 := hid (HB4.out.trans (hg5.below HB4.out.size HLW.out))
  have HC5 := hid ((hg5.block _ (Array.getElem?_eq_some_iff.1 HC4.out).1 HNC.out).trans HC4.out)
  have HR5 : Hid (RowE encL 55 w5 gl tl [exH]) := hid ((hg5.block _ HR4.out.lt HGL.out).trans HR4.out)
  have HP5 := hid hp5
  have HH5 : Hid (∀ W, Below w5.heap.size w5 W → Calls Try.prog 12 #[.pointer (some ⟨g, 0, none⟩), .int .i64 66] W fun e w' => ∃ A c, e = .returned (.slice A 0 c) ∧ Below W.heap.size W w') := hid (fun W hW => (held_any (HP5.out.below hW) ex_len 66).mono (by
    rw [ex_held2]
    rintro e w' ⟨A, n, c, rfl, hn, -, -, -, -, hb⟩
    obtain rfl : n = 0 := hn.symm
    exact ⟨A, c, rfl, hb⟩))
  have HF1 : Hid (∀ W, Below w5.heap.size w5 W → Calls Try.prog 16 #[.pointer (some ⟨g, 0, none⟩), .int .i64 2, .int .i64 57] W fun e w' => e = .returned (.bool true) ∧ W = w') := hid (fun W hW => by
    have q := fresh_any (HP5.out.below hW) 2 57 (by unfold In64; omega)
    rw [ex_fresh] at q
    exact q)
  have HF2 : Hid (∀ W, Below w5.heap.size w5 W → Calls Try.prog 16 #[.pointer (some ⟨g, 0, none⟩), .int .i64 2, .int .i64 58] W fun e w' => e = .returned (.bool false) ∧ W = w') := hid (fun W hW => by
    have q := fresh_any (HP5.out.below hW) 2 58 (by unfold In64; omega)
    rw [ex_stale] at q
    exact q)
  have HS : Hid (∀ W, Below w5.heap.size w5 W → W.cell? ⟨w1.heap.size, 0, none⟩ = some (.int .i64 2) ∧ W.cell? ⟨w1.heap.size, 1, none⟩ = some (.int .i64 1) ∧ W.cell? ⟨w1.heap.size, 2, none⟩ = some (.string ⟨#[97]⟩) ∧ W.cell? ⟨w1.heap.size, 3, none⟩ = some (.int .i64 1) ∧ W.cell? ⟨w1.heap.size, 4, none⟩ = some (.string ⟨#[97, 110, 110]⟩) ∧ W.cell? ⟨w1.heap.size, 5, none⟩ = some (.string ⟨#[]⟩) ∧ W.cell? ⟨w1.heap.size, 6, none⟩ = some (.string ⟨#[]⟩) ∧ W.cell? ⟨w1.heap.size, 7, none⟩ = some (.string ⟨#[]⟩) ∧ W.cell? ⟨w1.heap.size, 8, none⟩ = some (.string ⟨#[]⟩) ∧ W.cell? ⟨gl, 0, none⟩ = some (.int .i64 2) ∧ W.cell? ⟨gl, 1, none⟩ = some (.int .i64 1) ∧ W.cell? ⟨gl, 2, none⟩ = some (.string ⟨#[97]⟩) ∧ W.cell? ⟨gl, 3, none⟩ = some (.int .i64 1) ∧ W.cell? ⟨gl, 4, none⟩ = some (.string ⟨#[97, 110, 110]⟩) ∧ W.cell? ⟨gl, 5, none⟩ = some (.string ⟨#[]⟩) ∧ W.cell? ⟨gl, 6, none⟩ = some (.string ⟨#[]⟩) ∧ W.cell? ⟨gl, 7, none⟩ = some (.string ⟨#[]⟩) ∧ W.cell? ⟨gl, 8, none⟩ = some (.string ⟨#[]⟩) ∧ W.cell? ⟨gl, 9, none⟩ = some (.int .i64 66)) := hid (fun W hW => by
    have q1 := (hW.block _ (Array.getElem?_eq_some_iff.1 HC5.out).1).trans HC5.out
    have q2 := HR5.out.below hW
    refine ⟨?_, ?_, ?_, ?_, ?_, ?_, ?_, ?_, ?_, ?_, ?_, ?_, ?_, ?_, ?_, ?_, ?_, ?_, ?_⟩
    · rw [cell_of_row _ _ 0 _ _ (0, 0) q1]; rfl
    · rw [cell_of_row _ _ 1 _ _ (0, 0) q1]; rfl
    · rw [cell_of_row _ _ 2 _ _ (0, 0) q1]; rfl
    · rw [cell_of_row _ _ 3 _ _ (0, 0) q1]; rfl
    · rw [cell_of_row _ _ 4 _ _ (0, 0) q1]; rfl
    · rw [cell_of_row _ _ 5 _ _ (0, 0) q1]; rfl
    · rw [cell_of_row _ _ 6 _ _ (0, 0) q1]; rfl
    · rw [cell_of_row _ _ 7 _ _ (0, 0) q1]; rfl
    · rw [cell_of_row _ _ 8 _ _ (0, 0) q1]; rfl
    · rw [cell_of_row _ _ 0 _ _ (0, 0) q2]; rfl
    · rw [cell_of_row _ _ 1 _ _ (0, 0) q2]; rfl
    · rw [cell_of_row _ _ 2 _ _ (0, 0) q2]; rfl
    · rw [cell_of_row _ _ 3 _ _ (0, 0) q2]; rfl
    · rw [cell_of_row _ _ 4 _ _ (0, 0) q2]; rfl
    · rw [cell_of_row _ _ 5 _ _ (0, 0) q2]; rfl
    · rw [cell_of_row _ _ 6 _ _ (0, 0) q2]; rfl
    · rw [cell_of_row _ _ 7 _ _ (0, 0) q2]; rfl
    · rw [cell_of_row _ _ 8 _ _ (0, 0) q2]; rfl
    · rw [cell_of_row _ _ 9 _ _ (0, 0) q2]; rfl)
  have HD0 := hid (Below.refl w5.heap.size w5)
  obtain ⟨x0, x1, x2, x3, x4, x5, x6, x7, x8, y0, y1, y2, y3, y4, y5, y6, y7, y8, y9⟩ := HS.out _ HD0.out
  clear hp5 hg5 HP5 HC5 HR5 HC4 HR4 HP4 HL4 HNC HGL HLW
  go_wp2_with fail
  refine wp_region_held_drew (S := (fun W => W.cell? ⟨w1.heap.size, 0, none⟩ = some (.int .i64 2) ∧ W.cell? ⟨w1.heap.size, 1, none⟩ = some (.int .i64 1) ∧ W.cell? ⟨w1.heap.size, 2, none⟩ = some (.string ⟨#[97]⟩) ∧ W.cell? ⟨w1.heap.size, 3, none⟩ = some (.int .i64 1) ∧ W.cell? ⟨w1.heap.size, 4, none⟩ = some (.string ⟨#[97, 110, 110]⟩) ∧ W.cell? ⟨w1.heap.size, 5, none⟩ = some (.string ⟨#[]⟩) ∧ W.cell? ⟨w1.heap.size, 6, none⟩ = some (.string ⟨#[]⟩) ∧ W.cell? ⟨w1.heap.size, 7, none⟩ = some (.string ⟨#[]⟩) ∧ W.cell? ⟨w1.heap.size, 8, none⟩ = some (.string ⟨#[]⟩) ∧ W.cell? ⟨gl, 0, none⟩ = some (.int .i64 2) ∧ W.cell? ⟨gl, 1, none⟩ = some (.int .i64 1) ∧ W.cell? ⟨gl, 2, none⟩ = some (.string ⟨#[97]⟩) ∧ W.cell? ⟨gl, 3, none⟩ = some (.int .i64 1) ∧ W.cell? ⟨gl, 4, none⟩ = some (.string ⟨#[97, 110, 110]⟩) ∧ W.cell? ⟨gl, 5, none⟩ = some (.string ⟨#[]⟩) ∧ W.cell? ⟨gl, 6, none⟩ = some (.string ⟨#[]⟩) ∧ W.cell? ⟨gl, 7, none⟩ = some (.string ⟨#[]⟩) ∧ W.cell? ⟨gl, 8, none⟩ = some (.string ⟨#[]⟩) ∧ W.cell? ⟨gl, 9, none⟩ = some (.int .i64 66))) (by kernel_rfl) (HS.out _ HD0.out.drew) (fun hH0 => ?_)
  refine wpAnyH_take (i := 0) (oi := ({ dst := some 29, op := Go.Op.move (Go.Operand.tmp 3), type := 39, pos := "law.go:21", after := #[], guard := none } : Oper)) (v := (.int .i64 0)) rfl (by kernel_rfl) (by kernel_rfl) (by kernel_rfl) (fun _ _ _ h => h) (Or.inl ⟨by rfl, by intro w hSw; (try dsimp only at hSw); go_simp; try with_reducible rfl⟩) hH0 ?_
  simp only [Act.put, List.setIfInBounds_toArray, List.set_cons_zero, List.set_cons_succ]
  refine wpAnyH_take (i := 1) (oi := ({ dst := some 30, op := Go.Op.binOp BinOp.eql 39 (Go.Operand.tmp 29) (Go.Operand.const (Go.Value.int Go.IntKind.i64 0)) 39, type := 4, pos := "law.go:21", after := #[{ on := 0, ground := Go.Ground.data }], guard := none } : Oper)) (v := (.bool true)) rfl (by kernel_rfl) (by kernel_rfl) (by kernel_rfl) (fun _ _ _ h => h) (Or.inl ⟨by rfl, by intro w hSw; (try dsimp only at hSw); go_simp; try with_reducible rfl⟩) hH0 ?_
  simp only [Act.put, List.setIfInBounds_toArray, List.set_cons_zero, List.set_cons_succ]
  refine wpAnyH_take (i := 2) (oi := ({ dst := some 31, op := Go.Op.move (Go.Operand.tmp 30), type := 4, pos := "law.go:21", after := #[{ on := 1, ground := Go.Ground.data }], guard := none } : Oper)) (v := (.bool true)) rfl (by kernel_rfl) (by kernel_rfl) (by kernel_rfl) (fun _ _ _ h => h) (Or.inl ⟨by rfl, by intro w hSw; (try dsimp only at hSw); go_simp; try with_reducible rfl⟩) hH0 ?_
  simp only [Act.put, List.setIfInBounds_toArray, List.set_cons_zero, List.set_cons_succ]
  refine wpAnyH_take (i := 3) (oi := ({ dst := some 32, op := Go.Op.move (Go.Operand.tmp 4), type := 29, pos := "law.go:21", after := #[{ on := 2, ground := Go.Ground.guard }], guard := some (2, true) } : Oper)) (v := (.slice (some ⟨gl, 0, none⟩) 1 c3)) rfl (by kernel_rfl) (by kernel_rfl) (by kernel_rfl) (fun _ _ _ h => h) (Or.inl ⟨by rfl, by intro w hSw; (try dsimp only at hSw); go_simp; try with_reducible rfl⟩) hH0 ?_
  simp only [Act.put, List.setIfInBounds_toArray, List.set_cons_zero, List.set_cons_succ]
  refine wpAnyH_take (i := 4) (oi := ({ dst := some 33, op := Go.Op.call { callee := Go.Callee.builtin Go.Builtin.len, args := #[Go.Operand.tmp 32], argTypes := #[29] }, type := 3, pos := "law.go:21", after := #[{ on := 3, ground := Go.Ground.data }, { on := 2, ground := Go.Ground.guard }], guard := some (2, true) } : Oper)) (v := (.int .i64 1)) rfl (by kernel_rfl) (by kernel_rfl) (by kernel_rfl) (fun _ _ _ h => h) (Or.inl ⟨by rfl, by intro w hSw; (try dsimp only at hSw); go_simp; try with_reducible rfl⟩) hH0 ?_
  simp only [Act.put, List.setIfInBounds_toArray, List.set_cons_zero, List.set_cons_succ]
  refine wpAnyH_take (i := 5) (oi := ({ dst := some 34, op := Go.Op.binOp BinOp.eql 3 (Go.Operand.tmp 33) (Go.Operand.const (Go.Value.int Go.IntKind.i64 1)) 3, type := 4, pos := "law.go:21", after := #[{ on := 4, ground := Go.Ground.data }, { on := 2, ground := Go.Ground.guard }], guard := some (2, true) } : Oper)) (v := (.bool true)) rfl (by kernel_rfl) (by kernel_rfl) (by kernel_rfl) (fun _ _ _ h => h) (Or.inl ⟨by rfl, by intro w hSw; (try dsimp only at hSw); go_simp; try with_reducible rfl⟩) hH0 ?_
  simp only [Act.put, List.setIfInBounds_toArray, List.set_cons_zero, List.set_cons_succ]
  refine wpAnyH_take (i := 6) (oi := ({ dst := some 35, op := Go.Op.pick (Go.Operand.tmp 31) (Go.Operand.tmp 34) (Go.Operand.const (Go.Value.bool false)), type := 4, pos := "law.go:21", after := #[{ on := 2, ground := Go.Ground.data }, { on := 5, ground := Go.Ground.data }], guard := none } : Oper)) (v := (.bool true)) rfl (by kernel_rfl) (by kernel_rfl) (by kernel_rfl) (fun _ _ _ h => h) (Or.inl ⟨by rfl, by intro w hSw; (try dsimp only at hSw); go_simp; try with_reducible rfl⟩) hH0 ?_
  simp only [Act.put, List.setIfInBounds_toArray, List.set_cons_zero, List.set_cons_succ]
  refine wpAnyH_take (i := 7) (oi := ({ dst := some 36, op := Go.Op.move (Go.Operand.tmp 35), type := 4, pos := "law.go:21", after := #[{ on := 6, ground := Go.Ground.data }, { on := 2, ground := Go.Ground.chain }], guard := none } : Oper)) (v := (.bool true)) rfl (by kernel_rfl) (by kernel_rfl) (by kernel_rfl) (fun _ _ _ h => h) (Or.inl ⟨by rfl, by intro w hSw; (try dsimp only at hSw); go_simp; try with_reducible rfl⟩) hH0 ?_
  simp only [Act.put, List.setIfInBounds_toArray, List.set_cons_zero, List.set_cons_succ]
  refine wpAnyH_take (i := 8) (oi := ({ dst := some 37, op := Go.Op.move (Go.Operand.tmp 4), type := 29, pos := "law.go:21", after := #[{ on := 7, ground := Go.Ground.guard }], guard := some (7, true) } : Oper)) (v := (.slice (some ⟨gl, 0, none⟩) 1 c3)) rfl (by kernel_rfl) (by kernel_rfl) (by kernel_rfl) (fun _ _ _ h => h) (Or.inl ⟨by rfl, by intro w hSw; (try dsimp only at hSw); go_simp; try with_reducible rfl⟩) hH0 ?_
  simp only [Act.put, List.setIfInBounds_toArray, List.set_cons_zero, List.set_cons_succ]
  refine wpAnyH_take (i := 9) (oi := ({ dst := some 38, op := Go.Op.indexAddr 29 (Go.Operand.tmp 37) (Go.Operand.const (Go.Value.int Go.IntKind.i64 0)), type := 0, pos := "law.go:21", after := #[{ on := 8, ground := Go.Ground.data }, { on := 7, ground := Go.Ground.guard }], guard := some (7, true) } : Oper)) (v := (.pointer (some ⟨gl, 0, none⟩))) rfl (by kernel_rfl) (by kernel_rfl) (by kernel_rfl) (fun _ _ _ h => h) (Or.inl ⟨by rfl, by intro w hSw; (try dsimp only at hSw); go_simp; try with_reducible rfl⟩) hH0 ?_
  simp only [Act.put, List.setIfInBounds_toArray, List.set_cons_zero, List.set_cons_succ]
  refine wpAnyH_take (i := 10) (oi := ({ dst := some 39, op := Go.Op.fieldAddr 55 (Go.Operand.tmp 38) 0, type := 0, pos := "law.go:21", after := #[{ on := 9, ground := Go.Ground.data }, { on := 7, ground := Go.Ground.guard }], guard := some (7, true) } : Oper)) (v := (.pointer (some ⟨gl, 0, none⟩))) rfl (by kernel_rfl) (by kernel_rfl) (by kernel_rfl) (fun _ _ _ h => h) (Or.inl ⟨by rfl, by intro w hSw; (try dsimp only at hSw); go_simp; try with_reducible rfl⟩) hH0 ?_
  simp only [Act.put, List.setIfInBounds_toArray, List.set_cons_zero, List.set_cons_succ]
  refine wpAnyH_take (i := 11) (oi := ({ dst := some 40, op := Go.Op.load 53 (Go.Operand.tmp 39), type := 53, pos := "law.go:21", after := #[{ on := 10, ground := Go.Ground.data }, { on := 7, ground := Go.Ground.guard }], guard := some (7, true) } : Oper)) (v := (.agg #[.int .i64 2, .int .i64 1, .string ⟨#[97]⟩, .int .i64 1, .string ⟨#[97, 110, 110]⟩, .string ⟨#[]⟩, .string ⟨#[]⟩, .string ⟨#[]⟩, .string ⟨#[]⟩])) rfl (by kernel_rfl) (by kernel_rfl) (by kernel_rfl) (fun _ _ _ h => h) (Or.inl ⟨by rfl, by intro w hSw; (try dsimp only at hSw); go_simp; try with_reducible rfl⟩) hH0 ?_
  simp only [Act.put, List.setIfInBounds_toArray, List.set_cons_zero, List.set_cons_succ]
  refine wpAnyH_take (i := 12) (oi := ({ dst := some 41, op := Go.Op.load 53 (Go.Operand.tmp 2), type := 53, pos := "law.go:21", after := #[{ on := 7, ground := Go.Ground.guard }], guard := some (7, true) } : Oper)) (v := (.agg #[.int .i64 2, .int .i64 1, .string ⟨#[97]⟩, .int .i64 1, .string ⟨#[97, 110, 110]⟩, .string ⟨#[]⟩, .string ⟨#[]⟩, .string ⟨#[]⟩, .string ⟨#[]⟩])) rfl (by kernel_rfl) (by kernel_rfl) (by kernel_rfl) (fun _ _ _ h => h) (Or.inl ⟨by rfl, by intro w hSw; (try dsimp only at hSw); go_simp; try with_reducible rfl⟩) hH0 ?_
  simp only [Act.put, List.setIfInBounds_toArray, List.set_cons_zero, List.set_cons_succ]
  refine wpAnyH_take (i := 13) (oi := ({ dst := some 42, op := Go.Op.binOp BinOp.eql 53 (Go.Operand.tmp 40) (Go.Operand.tmp 41) 53, type := 4, pos := "law.go:21", after := #[{ on := 11, ground := Go.Ground.data }, { on := 12, ground := Go.Ground.data }, { on := 7, ground := Go.Ground.guard }], guard := some (7, true) } : Oper)) (v := (.bool true)) rfl (by kernel_rfl) (by kernel_rfl) (by kernel_rfl) (fun _ _ _ h => h) (Or.inl ⟨by rfl, by intro w hSw; (try dsimp only at hSw); go_simp; try with_reducible rfl⟩) hH0 ?_
  simp only [Act.put, List.setIfInBounds_toArray, List.set_cons_zero, List.set_cons_succ]
  refine wpAnyH_take (i := 14) (oi := ({ dst := some 43, op := Go.Op.pick (Go.Operand.tmp 36) (Go.Operand.tmp 42) (Go.Operand.const (Go.Value.bool false)), type := 4, pos := "law.go:21", after := #[{ on := 7, ground := Go.Ground.data }, { on := 13, ground := Go.Ground.data }], guard := none } : Oper)) (v := (.bool true)) rfl (by kernel_rfl) (by kernel_rfl) (by kernel_rfl) (fun _ _ _ h => h) (Or.inl ⟨by rfl, by intro w hSw; (try dsimp only at hSw); go_simp; try with_reducible rfl⟩) hH0 ?_
  simp only [Act.put, List.setIfInBounds_toArray, List.set_cons_zero, List.set_cons_succ]
  refine wpAnyH_take (i := 15) (oi := ({ dst := some 44, op := Go.Op.move (Go.Operand.tmp 43), type := 4, pos := "law.go:21", after := #[{ on := 14, ground := Go.Ground.data }, { on := 7, ground := Go.Ground.chain }], guard := none } : Oper)) (v := (.bool true)) rfl (by kernel_rfl) (by kernel_rfl) (by kernel_rfl) (fun _ _ _ h => h) (Or.inl ⟨by rfl, by intro w hSw; (try dsimp only at hSw); go_simp; try with_reducible rfl⟩) hH0 ?_
  simp only [Act.put, List.setIfInBounds_toArray, List.set_cons_zero, List.set_cons_succ]
  refine wpAnyH_take (i := 16) (oi := ({ dst := some 45, op := Go.Op.move (Go.Operand.tmp 4), type := 29, pos := "law.go:21", after := #[{ on := 15, ground := Go.Ground.guard }], guard := some (15, true) } : Oper)) (v := (.slice (some ⟨gl, 0, none⟩) 1 c3)) rfl (by kernel_rfl) (by kernel_rfl) (by kernel_rfl) (fun _ _ _ h => h) (Or.inl ⟨by rfl, by intro w hSw; (try dsimp only at hSw); go_simp; try with_reducible rfl⟩) hH0 ?_
  simp only [Act.put, List.setIfInBounds_toArray, List.set_cons_zero, List.set_cons_succ]
  refine wpAnyH_take (i := 17) (oi := ({ dst := some 46, op := Go.Op.indexAddr 29 (Go.Operand.tmp 45) (Go.Operand.const (Go.Value.int Go.IntKind.i64 0)), type := 0, pos := "law.go:21", after := #[{ on := 16, ground := Go.Ground.data }, { on := 15, ground := Go.Ground.guard }], guard := some (15, true) } : Oper)) (v := (.pointer (some ⟨gl, 0, none⟩))) rfl (by kernel_rfl) (by kernel_rfl) (by kernel_rfl) (fun _ _ _ h => h) (Or.inl ⟨by rfl, by intro w hSw; (try dsimp only at hSw); go_simp; try with_reducible rfl⟩) hH0 ?_
  simp only [Act.put, List.setIfInBounds_toArray, List.set_cons_zero, List.set_cons_succ]
  refine wpAnyH_take (i := 18) (oi := ({ dst := some 47, op := Go.Op.fieldAddr 55 (Go.Operand.tmp 46) 1, type := 0, pos := "law.go:21", after := #[{ on := 17, ground := Go.Ground.data }, { on := 15, ground := Go.Ground.guard }], guard := some (15, true) } : Oper)) (v := (.pointer (some ⟨gl, 9, none⟩))) rfl (by kernel_rfl) (by kernel_rfl) (by kernel_rfl) (fun _ _ _ h => h) (Or.inl ⟨by rfl, by intro w hSw; (try dsimp only at hSw); go_simp; try with_reducible rfl⟩) hH0 ?_
  simp only [Act.put, List.setIfInBounds_toArray, List.set_cons_zero, List.set_cons_succ]
  refine wpAnyH_take (i := 19) (oi := ({ dst := some 48, op := Go.Op.load 3 (Go.Operand.tmp 47), type := 3, pos := "law.go:21", after := #[{ on := 18, ground := Go.Ground.data }, { on := 15, ground := Go.Ground.guard }], guard := some (15, true) } : Oper)) (v := (.int .i64 66)) rfl (by kernel_rfl) (by kernel_rfl) (by kernel_rfl) (fun _ _ _ h => h) (Or.inl ⟨by rfl, by intro w hSw; (try dsimp only at hSw); go_simp; try with_reducible rfl⟩) hH0 ?_
  simp only [Act.put, List.setIfInBounds_toArray, List.set_cons_zero, List.set_cons_succ]
  refine wpAnyH_take (i := 20) (oi := ({ dst := some 49, op := Go.Op.binOp BinOp.eql 3 (Go.Operand.tmp 48) (Go.Operand.const (Go.Value.int Go.IntKind.i64 66)) 3, type := 4, pos := "law.go:21", after := #[{ on := 19, ground := Go.Ground.data }, { on := 15, ground := Go.Ground.guard }], guard := some (15, true) } : Oper)) (v := (.bool true)) rfl (by kernel_rfl) (by kernel_rfl) (by kernel_rfl) (fun _ _ _ h => h) (Or.inl ⟨by rfl, by intro w hSw; (try dsimp only at hSw); go_simp; try with_reducible rfl⟩) hH0 ?_
  simp only [Act.put, List.setIfInBounds_toArray, List.set_cons_zero, List.set_cons_succ]
  refine wpAnyH_take (i := 21) (oi := ({ dst := some 50, op := Go.Op.pick (Go.Operand.tmp 44) (Go.Operand.tmp 49) (Go.Operand.const (Go.Value.bool false)), type := 4, pos := "law.go:21", after := #[{ on := 15, ground := Go.Ground.data }, { on := 20, ground := Go.Ground.data }], guard := none } : Oper)) (v := (.bool true)) rfl (by kernel_rfl) (by kernel_rfl) (by kernel_rfl) (fun _ _ _ h => h) (Or.inl ⟨by rfl, by intro w hSw; (try dsimp only at hSw); go_simp; try with_reducible rfl⟩) hH0 ?_
  simp only [Act.put, List.setIfInBounds_toArray, List.set_cons_zero, List.set_cons_succ]
  refine wpAnyH_take (i := 22) (oi := ({ dst := some 51, op := Go.Op.move (Go.Operand.tmp 50), type := 4, pos := "law.go:21", after := #[{ on := 21, ground := Go.Ground.data }, { on := 15, ground := Go.Ground.chain }], guard := none } : Oper)) (v := (.bool true)) rfl (by kernel_rfl) (by kernel_rfl) (by kernel_rfl) (fun _ _ _ h => h) (Or.inl ⟨by rfl, by intro w hSw; (try dsimp only at hSw); go_simp; try with_reducible rfl⟩) hH0 ?_
  simp only [Act.put, List.setIfInBounds_toArray, List.set_cons_zero, List.set_cons_succ]
  refine wpAnyH_take (i := 23) (oi := ({ dst := some 52, op := Go.Op.move (Go.Operand.tmp 1), type := 25, pos := "law.go:21", after := #[{ on := 22, ground := Go.Ground.guard }], guard := some (22, true) } : Oper)) (v := (.pointer (some ⟨g, 0, none⟩))) rfl (by kernel_rfl) (by kernel_rfl) (by kernel_rfl) (fun _ _ _ h => h) (Or.inl ⟨by rfl, by intro w hSw; (try dsimp only at hSw); go_simp; try with_reducible rfl⟩) hH0 ?_
  simp only [Act.put, List.setIfInBounds_toArray, List.set_cons_zero, List.set_cons_succ]
  refine wpAnyH_ready (rs := [24]) (by kernel_rfl) (by simp) ?_
  refine AllReadyH.cons (o := ({ dst := some 53, op := Go.Op.call { callee := Go.Callee.value (Go.Operand.func 12), args := #[Go.Operand.tmp 52, Go.Operand.const (Go.Value.int Go.IntKind.i64 66)], argTypes := #[25, 3] }, type := 29, pos := "law.go:21", after := #[{ on := 23, ground := Go.Ground.data }, { on := 22, ground := Go.Ground.chain }, { on := 22, ground := Go.Ground.guard }], guard := some (22, true) } : Oper)) rfl (fun K hK => ?_) AllReadyH.nil
  rw [if_pos (by rfl)]
  go_simp
  refine (HH5.out _ HD0.out.drew).mono ?_
  rintro er w7 ⟨A7, c7, rfl, b7⟩
  have HB7 := hid (HD0.out.drew.trans (b7.mono HD0.out.drew.size))
  clear b7
  refine hK.out _ _ (HS.out _ HB7.out) (fun hH24 => ?_)
  clear hK K hH0
  try simp only [Act.put, List.setIfInBounds_toArray, List.set_cons_zero, List.set_cons_succ]
  refine wpAnyH_take (i := 25) (oi := ({ dst := some 54, op := Go.Op.call { callee := Go.Callee.builtin Go.Builtin.len, args := #[Go.Operand.tmp 53], argTypes := #[29] }, type := 3, pos := "law.go:21", after := #[{ on := 24, ground := Go.Ground.data }, { on := 22, ground := Go.Ground.guard }], guard := some (22, true) } : Oper)) (v := (.int .i64 0)) rfl (by kernel_rfl) (by kernel_rfl) (by kernel_rfl) (fun _ _ _ h => h) (Or.inl ⟨by rfl, by intro w hSw; (try dsimp only at hSw); go_simp; try with_reducible rfl⟩) hH24 ?_
  simp only [Act.put, List.setIfInBounds_toArray, List.set_cons_zero, List.set_cons_succ]
  refine wpAnyH_take (i := 26) (oi := ({ dst := some 55, op := Go.Op.binOp BinOp.eql 3 (Go.Operand.tmp 54) (Go.Operand.const (Go.Value.int Go.IntKind.i64 0)) 3, type := 4, pos := "law.go:21", after := #[{ on := 25, ground := Go.Ground.data }, { on := 22, ground := Go.Ground.guard }], guard := some (22, true) } : Oper)) (v := (.bool true)) rfl (by kernel_rfl) (by kernel_rfl) (by kernel_rfl) (fun _ _ _ h => h) (Or.inl ⟨by rfl, by intro w hSw; (try dsimp only at hSw); go_simp; try with_reducible rfl⟩) hH24 ?_
  simp only [Act.put, List.setIfInBounds_toArray, List.set_cons_zero, List.set_cons_succ]
  refine wpAnyH_take (i := 27) (oi := ({ dst := some 56, op := Go.Op.pick (Go.Operand.tmp 51) (Go.Operand.tmp 55) (Go.Operand.const (Go.Value.bool false)), type := 4, pos := "law.go:21", after := #[{ on := 22, ground := Go.Ground.data }, { on := 26, ground := Go.Ground.data }], guard := none } : Oper)) (v := (.bool true)) rfl (by kernel_rfl) (by kernel_rfl) (by kernel_rfl) (fun _ _ _ h => h) (Or.inl ⟨by rfl, by intro w hSw; (try dsimp only at hSw); go_simp; try with_reducible rfl⟩) hH24 ?_
  simp only [Act.put, List.setIfInBounds_toArray, List.set_cons_zero, List.set_cons_succ]
  refine wpAnyH_take (i := 28) (oi := ({ dst := some 57, op := Go.Op.move (Go.Operand.tmp 56), type := 4, pos := "law.go:21", after := #[{ on := 27, ground := Go.Ground.data }, { on := 24, ground := Go.Ground.chain }], guard := none } : Oper)) (v := (.bool true)) rfl (by kernel_rfl) (by kernel_rfl) (by kernel_rfl) (fun _ _ _ h => h) (Or.inl ⟨by rfl, by intro w hSw; (try dsimp only at hSw); go_simp; try with_reducible rfl⟩) hH24 ?_
  simp only [Act.put, List.setIfInBounds_toArray, List.set_cons_zero, List.set_cons_succ]
  refine wpAnyH_take (i := 29) (oi := ({ dst := some 58, op := Go.Op.move (Go.Operand.tmp 1), type := 25, pos := "law.go:21", after := #[{ on := 28, ground := Go.Ground.guard }], guard := some (28, true) } : Oper)) (v := (.pointer (some ⟨g, 0, none⟩))) rfl (by kernel_rfl) (by kernel_rfl) (by kernel_rfl) (fun _ _ _ h => h) (Or.inl ⟨by rfl, by intro w hSw; (try dsimp only at hSw); go_simp; try with_reducible rfl⟩) hH24 ?_
  simp only [Act.put, List.setIfInBounds_toArray, List.set_cons_zero, List.set_cons_succ]
  refine wpAnyH_ready (rs := [30]) (by kernel_rfl) (by simp) ?_
  refine AllReadyH.cons (o := ({ dst := some 59, op := Go.Op.call { callee := Go.Callee.value (Go.Operand.func 16), args := #[Go.Operand.tmp 58, Go.Operand.const (Go.Value.int Go.IntKind.i64 2), Go.Operand.const (Go.Value.int Go.IntKind.i64 57)], argTypes := #[25, 3, 3] }, type := 4, pos := "law.go:21", after := #[{ on := 29, ground := Go.Ground.data }, { on := 28, ground := Go.Ground.chain }, { on := 28, ground := Go.Ground.guard }], guard := some (28, true) } : Oper)) rfl (fun K hK => ?_) AllReadyH.nil
  rw [if_pos (by rfl)]
  go_simp
  refine (HF1.out _ HB7.out).mono ?_
  rintro er w8 ⟨rfl, hw8⟩
  subst hw8
  refine hK.out _ _ (HS.out _ HB7.out) (fun hH30 => ?_)
  clear hK K hH24
  try simp only [Act.put, List.setIfInBounds_toArray, List.set_cons_zero, List.set_cons_succ]
  refine wpAnyH_take (i := 31) (oi := ({ dst := some 60, op := Go.Op.pick (Go.Operand.tmp 57) (Go.Operand.tmp 59) (Go.Operand.const (Go.Value.bool false)), type := 4, pos := "law.go:21", after := #[{ on := 28, ground := Go.Ground.data }, { on := 30, ground := Go.Ground.data }], guard := none } : Oper)) (v := (.bool true)) rfl (by kernel_rfl) (by kernel_rfl) (by kernel_rfl) (fun _ _ _ h => h) (Or.inl ⟨by rfl, by intro w hSw; (try dsimp only at hSw); go_simp; try with_reducible rfl⟩) hH30 ?_
  simp only [Act.put, List.setIfInBounds_toArray, List.set_cons_zero, List.set_cons_succ]
  refine wpAnyH_take (i := 32) (oi := ({ dst := some 61, op := Go.Op.move (Go.Operand.tmp 60), type := 4, pos := "law.go:21", after := #[{ on := 31, ground := Go.Ground.data }, { on := 30, ground := Go.Ground.chain }], guard := none } : Oper)) (v := (.bool true)) rfl (by kernel_rfl) (by kernel_rfl) (by kernel_rfl) (fun _ _ _ h => h) (Or.inl ⟨by rfl, by intro w hSw; (try dsimp only at hSw); go_simp; try with_reducible rfl⟩) hH30 ?_
  simp only [Act.put, List.setIfInBounds_toArray, List.set_cons_zero, List.set_cons_succ]
  refine wpAnyH_take (i := 33) (oi := ({ dst := some 62, op := Go.Op.move (Go.Operand.tmp 1), type := 25, pos := "law.go:21", after := #[{ on := 32, ground := Go.Ground.guard }], guard := some (32, true) } : Oper)) (v := (.pointer (some ⟨g, 0, none⟩))) rfl (by kernel_rfl) (by kernel_rfl) (by kernel_rfl) (fun _ _ _ h => h) (Or.inl ⟨by rfl, by intro w hSw; (try dsimp only at hSw); go_simp; try with_reducible rfl⟩) hH30 ?_
  simp only [Act.put, List.setIfInBounds_toArray, List.set_cons_zero, List.set_cons_succ]
  refine wpAnyH_ready (rs := [34]) (by kernel_rfl) (by simp) ?_
  refine AllReadyH.cons (o := ({ dst := some 63, op := Go.Op.call { callee := Go.Callee.value (Go.Operand.func 16), args := #[Go.Operand.tmp 62, Go.Operand.const (Go.Value.int Go.IntKind.i64 2), Go.Operand.const (Go.Value.int Go.IntKind.i64 58)], argTypes := #[25, 3, 3] }, type := 4, pos := "law.go:21", after := #[{ on := 33, ground := Go.Ground.data }, { on := 32, ground := Go.Ground.chain }, { on := 32, ground := Go.Ground.guard }], guard := some (32, true) } : Oper)) rfl (fun K hK => ?_) AllReadyH.nil
  rw [if_pos (by rfl)]
  go_simp
  refine (HF2.out _ HB7.out).mono ?_
  rintro er w8 ⟨rfl, hw8⟩
  subst hw8
  refine hK.out _ _ (HS.out _ HB7.out) (fun hH34 => ?_)
  clear hK K hH30
  try simp only [Act.put, List.setIfInBounds_toArray, List.set_cons_zero, List.set_cons_succ]
  refine wpAnyH_take (i := 35) (oi := ({ dst := some 64, op := Go.Op.unOp UnOp.not 4 (Go.Operand.tmp 63), type := 4, pos := "law.go:21", after := #[{ on := 34, ground := Go.Ground.data }, { on := 32, ground := Go.Ground.guard }], guard := some (32, true) } : Oper)) (v := (.bool true)) rfl (by kernel_rfl) (by kernel_rfl) (by kernel_rfl) (fun _ _ _ h => h) (Or.inl ⟨by rfl, by intro w hSw; (try dsimp only at hSw); go_simp; try with_reducible rfl⟩) hH34 ?_
  simp only [Act.put, List.setIfInBounds_toArray, List.set_cons_zero, List.set_cons_succ]
  refine wpAnyH_take (i := 36) (oi := ({ dst := some 65, op := Go.Op.pick (Go.Operand.tmp 61) (Go.Operand.tmp 64) (Go.Operand.const (Go.Value.bool false)), type := 4, pos := "law.go:21", after := #[{ on := 32, ground := Go.Ground.data }, { on := 35, ground := Go.Ground.data }], guard := none } : Oper)) (v := (.bool true)) rfl (by kernel_rfl) (by kernel_rfl) (by kernel_rfl) (fun _ _ _ h => h) (Or.inl ⟨by rfl, by intro w hSw; (try dsimp only at hSw); go_simp; try with_reducible rfl⟩) hH34 ?_
  simp only [Act.put, List.setIfInBounds_toArray, List.set_cons_zero, List.set_cons_succ]
  refine wpAnyH_take (i := 37) (oi := ({ dst := some 66, op := Go.Op.move (Go.Operand.tmp 65), type := 4, pos := "law.go:21", after := #[{ on := 36, ground := Go.Ground.data }, { on := 34, ground := Go.Ground.chain }], guard := none } : Oper)) (v := (.bool true)) rfl (by kernel_rfl) (by kernel_rfl) (by kernel_rfl) (fun _ _ _ h => h) (Or.inl ⟨by rfl, by intro w hSw; (try dsimp only at hSw); go_simp; try with_reducible rfl⟩) hH34 ?_
  simp only [Act.put, List.setIfInBounds_toArray, List.set_cons_zero, List.set_cons_succ]
  refine wpAnyH_take (i := 38) (oi := ({ dst := some 67, op := Go.Op.move (Go.Operand.tmp 5), type := 3, pos := "law.go:21", after := #[{ on := 37, ground := Go.Ground.guard }], guard := some (37, true) } : Oper)) (v := (.int .i64 66)) rfl (by kernel_rfl) (by kernel_rfl) (by kernel_rfl) (fun _ _ _ h => h) (Or.inl ⟨by rfl, by intro w hSw; (try dsimp only at hSw); go_simp; try with_reducible rfl⟩) hH34 ?_
  simp only [Act.put, List.setIfInBounds_toArray, List.set_cons_zero, List.set_cons_succ]
  refine wpAnyH_take (i := 39) (oi := ({ dst := some 68, op := Go.Op.binOp BinOp.eql 3 (Go.Operand.tmp 67) (Go.Operand.const (Go.Value.int Go.IntKind.i64 66)) 3, type := 4, pos := "law.go:21", after := #[{ on := 38, ground := Go.Ground.data }, { on := 37, ground := Go.Ground.guard }], guard := some (37, true) } : Oper)) (v := (.bool true)) rfl (by kernel_rfl) (by kernel_rfl) (by kernel_rfl) (fun _ _ _ h => h) (Or.inl ⟨by rfl, by intro w hSw; (try dsimp only at hSw); go_simp; try with_reducible rfl⟩) hH34 ?_
  simp only [Act.put, List.setIfInBounds_toArray, List.set_cons_zero, List.set_cons_succ]
  refine wpAnyH_take (i := 40) (oi := ({ dst := some 69, op := Go.Op.pick (Go.Operand.tmp 66) (Go.Operand.tmp 68) (Go.Operand.const (Go.Value.bool false)), type := 4, pos := "law.go:21", after := #[{ on := 37, ground := Go.Ground.data }, { on := 39, ground := Go.Ground.data }], guard := none } : Oper)) (v := (.bool true)) rfl (by kernel_rfl) (by kernel_rfl) (by kernel_rfl) (fun _ _ _ h => h) (Or.inl ⟨by rfl, by intro w hSw; (try dsimp only at hSw); go_simp; try with_reducible rfl⟩) hH34 ?_
  simp only [Act.put, List.setIfInBounds_toArray, List.set_cons_zero, List.set_cons_succ]
  refine wpAnyH_take (i := 41) (oi := ({ dst := some 70, op := Go.Op.move (Go.Operand.tmp 69), type := 4, pos := "law.go:21", after := #[{ on := 40, ground := Go.Ground.data }, { on := 37, ground := Go.Ground.chain }], guard := none } : Oper)) (v := (.bool true)) rfl (by kernel_rfl) (by kernel_rfl) (by kernel_rfl) (fun _ _ _ h => h) (Or.inl ⟨by rfl, by intro w hSw; (try dsimp only at hSw); go_simp; try with_reducible rfl⟩) hH34 ?_
  simp only [Act.put, List.setIfInBounds_toArray, List.set_cons_zero, List.set_cons_succ]
  refine wpAnyH_take (i := 42) (oi := ({ dst := some 71, op := Go.Op.move (Go.Operand.tmp 6), type := 39, pos := "law.go:21", after := #[{ on := 41, ground := Go.Ground.guard }], guard := some (41, true) } : Oper)) (v := (.int .i64 0)) rfl (by kernel_rfl) (by kernel_rfl) (by kernel_rfl) (fun _ _ _ h => h) (Or.inl ⟨by rfl, by intro w hSw; (try dsimp only at hSw); go_simp; try with_reducible rfl⟩) hH34 ?_
  simp only [Act.put, List.setIfInBounds_toArray, List.set_cons_zero, List.set_cons_succ]
  refine wpAnyH_take (i := 43) (oi := ({ dst := some 72, op := Go.Op.binOp BinOp.eql 39 (Go.Operand.tmp 71) (Go.Operand.const (Go.Value.int Go.IntKind.i64 0)) 39, type := 4, pos := "law.go:21", after := #[{ on := 42, ground := Go.Ground.data }, { on := 41, ground := Go.Ground.guard }], guard := some (41, true) } : Oper)) (v := (.bool true)) rfl (by kernel_rfl) (by kernel_rfl) (by kernel_rfl) (fun _ _ _ h => h) (Or.inl ⟨by rfl, by intro w hSw; (try dsimp only at hSw); go_simp; try with_reducible rfl⟩) hH34 ?_
  simp only [Act.put, List.setIfInBounds_toArray, List.set_cons_zero, List.set_cons_succ]
  refine wpAnyH_take (i := 44) (oi := ({ dst := some 73, op := Go.Op.pick (Go.Operand.tmp 70) (Go.Operand.tmp 72) (Go.Operand.const (Go.Value.bool false)), type := 4, pos := "law.go:21", after := #[{ on := 41, ground := Go.Ground.data }, { on := 43, ground := Go.Ground.data }], guard := none } : Oper)) (v := (.bool true)) rfl (by kernel_rfl) (by kernel_rfl) (by kernel_rfl) (fun _ _ _ h => h) (Or.inl ⟨by rfl, by intro w hSw; (try dsimp only at hSw); go_simp; try with_reducible rfl⟩) hH34 ?_
  simp only [Act.put, List.setIfInBounds_toArray, List.set_cons_zero, List.set_cons_succ]
  refine wpAnyH_take (i := 45) (oi := ({ dst := some 74, op := Go.Op.move (Go.Operand.tmp 73), type := 4, pos := "law.go:21", after := #[{ on := 44, ground := Go.Ground.data }, { on := 41, ground := Go.Ground.chain }], guard := none } : Oper)) (v := (.bool true)) rfl (by kernel_rfl) (by kernel_rfl) (by kernel_rfl) (fun _ _ _ h => h) (Or.inl ⟨by rfl, by intro w hSw; (try dsimp only at hSw); go_simp; try with_reducible rfl⟩) hH34 ?_
  simp only [Act.put, List.setIfInBounds_toArray, List.set_cons_zero, List.set_cons_succ]
  refine wpAnyH_take (i := 46) (oi := ({ dst := some 75, op := Go.Op.move (Go.Operand.tmp 7), type := 39, pos := "law.go:21", after := #[{ on := 45, ground := Go.Ground.guard }], guard := some (45, true) } : Oper)) (v := (.int .i64 1)) rfl (by kernel_rfl) (by kernel_rfl) (by kernel_rfl) (fun _ _ _ h => h) (Or.inl ⟨by rfl, by intro w hSw; (try dsimp only at hSw); go_simp; try with_reducible rfl⟩) hH34 ?_
  simp only [Act.put, List.setIfInBounds_toArray, List.set_cons_zero, List.set_cons_succ]
  refine wpAnyH_take (i := 47) (oi := ({ dst := some 76, op := Go.Op.binOp BinOp.eql 39 (Go.Operand.tmp 75) (Go.Operand.const (Go.Value.int Go.IntKind.i64 1)) 39, type := 4, pos := "law.go:21", after := #[{ on := 46, ground := Go.Ground.data }, { on := 45, ground := Go.Ground.guard }], guard := some (45, true) } : Oper)) (v := (.bool true)) rfl (by kernel_rfl) (by kernel_rfl) (by kernel_rfl) (fun _ _ _ h => h) (Or.inl ⟨by rfl, by intro w hSw; (try dsimp only at hSw); go_simp; try with_reducible rfl⟩) hH34 ?_
  simp only [Act.put, List.setIfInBounds_toArray, List.set_cons_zero, List.set_cons_succ]
  refine wpAnyH_take (i := 48) (oi := ({ dst := some 77, op := Go.Op.pick (Go.Operand.tmp 74) (Go.Operand.tmp 76) (Go.Operand.const (Go.Value.bool false)), type := 4, pos := "law.go:21", after := #[{ on := 45, ground := Go.Ground.data }, { on := 47, ground := Go.Ground.data }], guard := none } : Oper)) (v := (.bool true)) rfl (by kernel_rfl) (by kernel_rfl) (by kernel_rfl) (fun _ _ _ h => h) (Or.inl ⟨by rfl, by intro w hSw; (try dsimp only at hSw); go_simp; try with_reducible rfl⟩) hH34 ?_
  simp only [Act.put, List.setIfInBounds_toArray, List.set_cons_zero, List.set_cons_succ]
  refine wpAnyH_take (i := 49) (oi := ({ dst := some 78, op := Go.Op.move (Go.Operand.tmp 77), type := 4, pos := "law.go:21", after := #[{ on := 48, ground := Go.Ground.data }, { on := 45, ground := Go.Ground.chain }], guard := none } : Oper)) (v := (.bool true)) rfl (by kernel_rfl) (by kernel_rfl) (by kernel_rfl) (fun _ _ _ h => h) (Or.inl ⟨by rfl, by intro w hSw; (try dsimp only at hSw); go_simp; try with_reducible rfl⟩) hH34 ?_
  simp only [Act.put, List.setIfInBounds_toArray, List.set_cons_zero, List.set_cons_succ]
  refine wpAnyH_ready (rs := [50]) (by kernel_rfl) (by simp) ?_
  refine AllReadyH.cons (o := ({ dst := some 79, op := Go.Op.call { callee := Go.Callee.value (Go.Operand.func 8), args := #[Go.Operand.const (Go.Value.int Go.IntKind.i64 0)], argTypes := #[3] }, type := 25, pos := "law.go:21", after := #[{ on := 49, ground := Go.Ground.chain }, { on := 49, ground := Go.Ground.guard }], guard := some (49, true) } : Oper)) rfl (fun K hK => ?_) AllReadyH.nil
  rw [if_pos (by rfl)]
  go_simp
  refine (HN0.out _).mono ?_
  rintro er w8 ⟨rfl, hw8⟩
  subst hw8
  refine hK.out _ _ (HS.out _ HB7.out) (fun hH50 => ?_)
  clear hK K hH34
  try simp only [Act.put, List.setIfInBounds_toArray, List.set_cons_zero, List.set_cons_succ]
  refine wpAnyH_take (i := 51) (oi := ({ dst := some 80, op := Go.Op.binOp BinOp.eql 25 (Go.Operand.tmp 79) (Go.Operand.const (Go.Value.pointer none)) 25, type := 4, pos := "law.go:21", after := #[{ on := 50, ground := Go.Ground.data }, { on := 49, ground := Go.Ground.guard }], guard := some (49, true) } : Oper)) (v := (.bool true)) rfl (by kernel_rfl) (by kernel_rfl) (by kernel_rfl) (fun _ _ _ h => h) (Or.inl ⟨by rfl, by intro w hSw; (try dsimp only at hSw); go_simp; try with_reducible rfl⟩) hH50 ?_
  simp only [Act.put, List.setIfInBounds_toArray, List.set_cons_zero, List.set_cons_succ]
  refine wpAnyH_take (i := 52) (oi := ({ dst := some 81, op := Go.Op.pick (Go.Operand.tmp 78) (Go.Operand.tmp 80) (Go.Operand.const (Go.Value.bool false)), type := 4, pos := "law.go:21", after := #[{ on := 49, ground := Go.Ground.data }, { on := 51, ground := Go.Ground.data }], guard := none } : Oper)) (v := (.bool true)) rfl (by kernel_rfl) (by kernel_rfl) (by kernel_rfl) (fun _ _ _ h => h) (Or.inl ⟨by rfl, by intro w hSw; (try dsimp only at hSw); go_simp; try with_reducible rfl⟩) hH50 ?_
  simp only [Act.put, List.setIfInBounds_toArray, List.set_cons_zero, List.set_cons_succ]
  refine wpAnyH_take (i := 53) (oi := ({ dst := some 0, op := Go.Op.assign (Go.Operand.tmp 81), type := 4, pos := "law.go:21", after := #[{ on := 52, ground := Go.Ground.data }, { on := 50, ground := Go.Ground.chain }, { on := 0, ground := Go.Ground.phase }, { on := 1, ground := Go.Ground.phase }, { on := 2, ground := Go.Ground.phase }, { on := 3, ground := Go.Ground.phase }, { on := 4, ground := Go.Ground.phase }, { on := 5, ground := Go.Ground.phase }, { on := 6, ground := Go.Ground.phase }, { on := 7, ground := Go.Ground.phase }, { on := 8, ground := Go.Ground.phase }, { on := 9, ground := Go.Ground.phase }, { on := 10, ground := Go.Ground.phase }, { on := 11, ground := Go.Ground.phase }, { on := 12, ground := Go.Ground.phase }, { on := 13, ground := Go.Ground.phase }, { on := 14, ground := Go.Ground.phase }, { on := 15, ground := Go.Ground.phase }, { on := 16, ground := Go.Ground.phase }, { on := 17, ground := Go.Ground.phase }, { on := 18, ground := Go.Ground.phase }, { on := 19, ground := Go.Ground.phase }, { on := 20, ground := Go.Ground.phase }, { on := 21, ground := Go.Ground.phase }, { on := 22, ground := Go.Ground.phase }, { on := 23, ground := Go.Ground.phase }, { on := 24, ground := Go.Ground.phase }, { on := 25, ground := Go.Ground.phase }, { on := 26, ground := Go.Ground.phase }, { on := 27, ground := Go.Ground.phase }, { on := 28, ground := Go.Ground.phase }, { on := 29, ground := Go.Ground.phase }, { on := 30, ground := Go.Ground.phase }, { on := 31, ground := Go.Ground.phase }, { on := 32, ground := Go.Ground.phase }, { on := 33, ground := Go.Ground.phase }, { on := 34, ground := Go.Ground.phase }, { on := 35, ground := Go.Ground.phase }, { on := 36, ground := Go.Ground.phase }, { on := 37, ground := Go.Ground.phase }, { on := 38, ground := Go.Ground.phase }, { on := 39, ground := Go.Ground.phase }, { on := 40, ground := Go.Ground.phase }, { on := 41, ground := Go.Ground.phase }, { on := 42, ground := Go.Ground.phase }, { on := 43, ground := Go.Ground.phase }, { on := 44, ground := Go.Ground.phase }, { on := 45, ground := Go.Ground.phase }, { on := 46, ground := Go.Ground.phase }, { on := 47, ground := Go.Ground.phase }, { on := 48, ground := Go.Ground.phase }, { on := 49, ground := Go.Ground.phase }, { on := 50, ground := Go.Ground.phase }, { on := 51, ground := Go.Ground.phase }, { on := 52, ground := Go.Ground.phase }], guard := none } : Oper)) (v := (.bool true)) rfl (by kernel_rfl) (by kernel_rfl) (by kernel_rfl) (fun _ _ _ h => h) (Or.inl ⟨by rfl, by intro w hSw; (try dsimp only at hSw); go_simp; try with_reducible rfl⟩) hH50 ?_
  simp only [Act.put, List.setIfInBounds_toArray, List.set_cons_zero, List.set_cons_succ]
  refine wpAnyH_done (by kernel_rfl) ?_ _
  clear hH50
  all_goals
    go_wp2_with fail
    go_ret
    exact ⟨rfl, HB5.out.trans (HB7.out.mono HB5.out.size)⟩
end Go.Proofs.Ytkimhdcngagmaaa.Sh
