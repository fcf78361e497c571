/-
  The walk of VectorStays (the contract of lives is its premise). Written by mk_vestays.py.
-/
import Derived.Test.YtkaakbgpkpkeeaaVeLawB
namespace Go.Proofs.Ytkaakbgpkpkeeaa.Sh
open Go Go.RowKit

set_option linter.unusedSimpArgs false
set_option linter.unusedVariables false
/-- A row of numbers that may be written to, in a block from B on, below U. -/
def OpX (w : World) (B U : Nat) (A : Option Addr) (n : Nat) : Prop := 0 < n → ∃ g, A = some ⟨g, 0, none⟩ ∧ B ≤ g ∧ g < U ∧ ∃ cs : Array Value, w.heap[g]? = some (.cells cs 3 (0, 0)) ∧ n ≤ cs.size
theorem Frs.opx {w : World} {B n : Nat} {A : Option Addr} {l : List Int} (h : Frs w B A n l) : OpX w B w.heap.size A n := fun hn => by
  obtain ⟨g, cs, rfl, h1, h2, _⟩ := h.row hn
  exact ⟨g, rfl, (h.lies _ rfl).1, (h.lies _ rfl).2, cs, h1, h2⟩
theorem OpX.below {w w' : World} {B U n : Nat} {A : Option Addr} (h : OpX w B U A n) (hb : Below w.heap.size w w') : OpX w' B U A n := fun hn => by
  obtain ⟨g, e, h1, h2, cs, h3, h4⟩ := h hn
  exact ⟨g, e, h1, h2, cs, (hb.block g (Array.getElem?_eq_some_iff.1 h3).1).trans h3, h4⟩
theorem OpX.other {w : World} {B U n : Nat} {A : Option Addr} (h : OpX w B U A n) {a : Addr} (ha : a.block < B) (u : Value) : OpX (w.setCell a u) B U A n := fun hn => by
  obtain ⟨g, e, h1, h2, cs, h3, h4⟩ := h hn
  exact ⟨g, e, h1, h2, cs, (Below.heap_setCell _ _ _ _ (by omega)).trans h3, h4⟩
theorem OpX.self {w : World} {B U n g : Nat} (h : OpX w B U (some ⟨g, 0, none⟩) n) (j : Nat) (u : Value) : OpX (w.setCell ⟨g, j, none⟩ u) B U (some ⟨g, 0, none⟩) n := fun hn => by
  obtain ⟨g', e, h1, h2, cs, h3, h4⟩ := h hn
  injection e with e
  injection e with e
  subst e
  exact ⟨_, rfl, h1, h2, _, heap_setCell_same w _ j _ _ u h3, by simpa using h4⟩
set_option maxHeartbeats 4000000 in
theorem vectorStays_walk (hlv : Lives10) (aA bA : Option Addr) (al bl : List Int) (an ac bn bc : Nat) (ha : al.length = an) (hac : an ≤ ac) (ham : ac ≤ 9223372036854775807) (hb : bl.length = bn) (hbc : bn ≤ bc) (hbm : bc ≤ 9223372036854775807) (d : Int) (wS : World) (hEa : Els encN wS wS.heap.size aA al) (hEb : Els encN wS wS.heap.size bA bl) :
    Calls Try.prog 9 #[.slice aA an ac, .slice bA bn bc, .int .i64 d] wS fun e w' => e = .returned (.bool true) ∧ Below wS.heap.size wS w' := by
  have HLV := hid hlv
  have HF := hid (few10_any aA al an ac ha hac ham wS hEa)
  have HG := hid (few10_any bA bl bn bc hb hbc hbm wS hEb)
  clear hlv hEa hEb ha hb
  go_enter Try.func9, Try.ntmps9
  go_wp2_with fail
  refine HF.out.mono ?_
  rintro er wq ⟨am, rfl, h1, h2a, h3, h4, hw⟩
  have hw2 : wS = wq := hw.symm
  subst hw2
  have Ha := hid h4
  obtain ⟨a, hx⟩ : ∃ y, al.take 20 = y := ⟨_, rfl⟩
  rw [hx] at Ha h1
  have HaN := hid h1
  clear h1 h3 h4 hx hw
  go_wp2_with fail
  refine HG.out.mono ?_
  rintro er wq ⟨bm, rfl, h1, h2b, h3, h4, hw⟩
  have hw2 : wS = wq := hw.symm
  subst hw2
  have Hb := hid h4
  obtain ⟨b, hx⟩ : ∃ y, bl.take 20 = y := ⟨_, rfl⟩
  rw [hx] at Hb h1
  have HbN := hid h1
  clear h1 h3 h4 hx hw
  go_wp2_with (at_builtin; refine wpList_appL (E := encN) rfl slN (.tmp 19) (.tmp 20) rfl (B := wS.heap.size) (v := .slice none 0 0) (l := []) (Own.nil _ _ _) rfl (A := aA) (m := am) (c := ac) a rfl HaN.out Ha.out.reads (by simp; omega) (by omega) (Nat.le_refl _) ?_; intro AT cT wT oT gT eT; simp only [List.length_nil, Nat.zero_add, List.nil_append] at oT ⊢; have HT := hid (own_els oT); have HB0 := hid ((Below.refl wS.heap.size wS).grown gT (Nat.le_refl _) (fun g e => by cases e)); clear oT gT eT)
  have Ha0 := hid ((Ha.out.below HB0.out).more HB0.out.size)
  have Hb0 := hid ((Hb.out.below HB0.out).more HB0.out.size)
  refine (join_any aA bA a b am bm ac bc HaN.out HbN.out (by omega) (by omega) wT Ha0.out Hb0.out).mono ?_
  rintro er w1 ⟨Ax, cx, rfl, ho, hb⟩
  have hnx : (joinV a b).length ≤ 16 := (joinV_nrm a b).len
  obtain ⟨nx, hx⟩ : ∃ n, (joinV a b).length = n := ⟨_, rfl⟩
  rw [hx] at ho hnx ⊢
  have Px1 := hid (ho.opx)
  have HW1 := hid hb
  have Ha1 := hid ((Ha0.out.below hb).more hb.size)
  clear hb ho hx Hb0 Hb Ha0
  go_wp2_with fail
  refine (bare_any aA a am ac HaN.out (by omega) w1 Ha1.out).mono ?_
  rintro er w2 ⟨Ay, cy, rfl, ho, hb⟩
  have hny : (bareV a).length ≤ 16 := (bareV_nrm a).len
  obtain ⟨ny, hx⟩ : ∃ n, (bareV a).length = n := ⟨_, rfl⟩
  rw [hx] at ho hny ⊢
  have Py1 := hid (ho.opx)
  have Px2 := hid (Px1.out.below hb)
  have HW2 := hid (HW1.out.trans (hb.mono HW1.out.size))
  have Ha2 := hid ((Ha1.out.below hb).more hb.size)
  have HS1 := hid hb.size
  clear hb ho hx Ha1 Px1
  go_wp2_with fail
  refine (with_any aA a am ac HaN.out (by omega) d 7 w2 Ha2.out).mono ?_
  rintro er w3 ⟨Az, cz, rfl, ho, hb⟩
  have hnz : (withV a d 7).length ≤ 16 := (withV_nrm a d 7).len
  obtain ⟨nz, hx⟩ : ∃ n, (withV a d 7).length = n := ⟨_, rfl⟩
  rw [hx] at ho hnz ⊢
  have Pz := hid (ho.opx)
  have Px := hid (Px2.out.below hb)
  have Py := hid (Py1.out.below hb)
  have HW := hid (HW2.out.trans (hb.mono HW2.out.size))
  have HS : Hid (wT.heap.size ≤ w1.heap.size ∧ w1.heap.size ≤ w2.heap.size) := hid ⟨HW1.out.size, HS1.out⟩
  clear hb ho hx Ha2 Px2 Py1 HW1 HW2 HS1
  go_wp2_with fail
  go_loopw [11] (fun i wr => ∃ j : Nat, i = .int .i64 (j : Int) ∧ j ≤ nx ∧ Hid (OpX wr wT.heap.size w1.heap.size Ax nx) ∧ Hid (OpX wr w1.heap.size w2.heap.size Ay ny) ∧ Hid (OpX wr w2.heap.size w3.heap.size Az nz) ∧ Hid (Below wT.heap.size wT wr)) (fun i _ => nx - (intOf i).toNat)
  case atStart => exact ⟨0, rfl, by omega, Px, Py, Pz, HW⟩
  case round =>
    clear Px Py Pz HW
    obtain ⟨j, rfl, hj, Px, Py, Pz, HW⟩ := hrel
    by_cases hlt : j < nx
    · obtain ⟨g, rfl, h1, h2, cs, h3, h4⟩ := Px.out (by omega)
      have PS := hid (Px.out.self j (.int .i64 77))
      have HW2 := hid (HW.out.setCell (p := ⟨g, j, none⟩) (by have := HS.out; simp only; omega) (.int .i64 77))
      have Qy := hid (Py.out.other (a := ⟨g, j, none⟩) (by have := HS.out; simp only; omega) (.int .i64 77))
      have Qz := hid (Pz.out.other (a := ⟨g, j, none⟩) (by have := HS.out; simp only; omega) (.int .i64 77))
      have hj1 : (j : Int) < (nx : Int) := by omega
      have hj0 : (0 : Int) ≤ (j : Int) := Int.natCast_nonneg _
      obtain ⟨cv, cj⟩ : ∃ v, wr.cell? ⟨g, j, none⟩ = some v := ⟨cs[j], by rw [cell_of_row wr g j _ _ (0, 0) h3]; simp⟩
      have fj := frozen_of_row wr g j _ _ h3
      clear h1 h2 h3 h4 Px Py Pz HW
      go_wp2_with fail
      go_roundw
      case rel => exact ⟨j + 1, by go_num, by omega, PS, Qy, Qz, HW2⟩
      case measure => simp [intOf]; omega
    · obtain rfl : j = nx := by omega
      go_wp2_with fail
      go_loopw [12] (fun i wr => ∃ j : Nat, i = .int .i64 (j : Int) ∧ j ≤ ny ∧ Hid (OpX wr w1.heap.size w2.heap.size Ay ny) ∧ Hid (OpX wr w2.heap.size w3.heap.size Az nz) ∧ Hid (Below wT.heap.size wT wr)) (fun i _ => ny - (intOf i).toNat)
      case atStart => exact ⟨0, rfl, by omega, Py, Pz, HW⟩
      case round =>
        clear Py Pz HW
        obtain ⟨j, rfl, hj, Py, Pz, HW⟩ := hrel
        by_cases hlt : j < ny
        · obtain ⟨g, rfl, h1, h2, cs, h3, h4⟩ := Py.out (by omega)
          have PS := hid (Py.out.self j (.int .i64 77))
          have HW2 := hid (HW.out.setCell (p := ⟨g, j, none⟩) (by have := HS.out; simp only; omega) (.int .i64 77))
          have Qz := hid (Pz.out.other (a := ⟨g, j, none⟩) (by have := HS.out; simp only; omega) (.int .i64 77))
          have hj1 : (j : Int) < (ny : Int) := by omega
          have hj0 : (0 : Int) ≤ (j : Int) := Int.natCast_nonneg _
          obtain ⟨cv, cj⟩ : ∃ v, wr.cell? ⟨g, j, none⟩ = some v := ⟨cs[j], by rw [cell_of_row wr g j _ _ (0, 0) h3]; simp⟩
          have fj := frozen_of_row wr g j _ _ h3
          clear h1 h2 h3 h4 Py Pz HW
          go_wp2_with fail
          go_roundw
          case rel => exact ⟨j + 1, by go_num, by omega, PS, Qz, HW2⟩
          case measure => simp [intOf]; omega
        · obtain rfl : j = ny := by omega
          go_wp2_with fail
          go_loopw [13] (fun i wr => ∃ j : Nat, i = .int .i64 (j : Int) ∧ j ≤ nz ∧ Hid (OpX wr w2.heap.size w3.heap.size Az nz) ∧ Hid (Below wT.heap.size wT wr)) (fun i _ => nz - (intOf i).toNat)
          case atStart => exact ⟨0, rfl, by omega, Pz, HW⟩
          case round =>
            clear Pz HW
            obtain ⟨j, rfl, hj, Pz, HW⟩ := hrel
            by_cases hlt : j < nz
            · obtain ⟨g, rfl, h1, h2, cs, h3, h4⟩ := Pz.out (by omega)
              have PS := hid (Pz.out.self j (.int .i64 77))
              have HW2 := hid (HW.out.setCell (p := ⟨g, j, none⟩) (by have := HS.out; simp only; omega) (.int .i64 77))
              have hj1 : (j : Int) < (nz : Int) := by omega
              have hj0 : (0 : Int) ≤ (j : Int) := Int.natCast_nonneg _
              obtain ⟨cv, cj⟩ : ∃ v, wr.cell? ⟨g, j, none⟩ = some v := ⟨cs[j], by rw [cell_of_row wr g j _ _ (0, 0) h3]; simp⟩
              have fj := frozen_of_row wr g j _ _ h3
              clear h1 h2 h3 h4 Pz HW
              go_wp2_with fail
              go_roundw
              case rel => exact ⟨j + 1, by go_num, by omega, PS, HW2⟩
              case measure => simp [intOf]; omega
            · obtain rfl : j = nz := by omega
              go_wp2_with fail
              have HBZ := hid (HB0.out.trans (HW.out.mono HB0.out.size))
              have HTZ := hid ((HT.out.below HW.out).more HW.out.size)
              have HaZ := hid ((Ha.out.below HBZ.out).more HBZ.out.size)
              refine (sameB_any AT aA a a am am cT ac HaN.out HaN.out (by omega) (by omega) _ HTZ.out HaZ.out).mono ?_
              rintro er w8 ⟨rfl, hb⟩
              rw [show decide (a = a) = true from decide_eq_true rfl]
              have HB8 := hid (HBZ.out.trans (hb.mono HBZ.out.size))
              clear hb
              go_wp2_with fail
              refine (HLV.out _).mono ?_
              rintro er w9 ⟨rfl, hb⟩
              have HB9 := hid (HB8.out.trans (hb.mono HB8.out.size))
              clear hb
              go_wp2_with fail
              go_ret
              exact ⟨rfl, HB9.out⟩
end Go.Proofs.Ytkaakbgpkpkeeaa.Sh
