/-
  The program's book: leased, Learn, by contract.
-/
import Derived.Test.YtkimhdcngagmaaaJa13
import Derived.Test.YtkimhdcngagmaaaJa25
import Derived.Deep.CutRange
set_option linter.unusedVariables false
set_option linter.unusedSimpArgs false
namespace Go.Proofs.Ytkimhdcngagmaaa.Sh
open Go Go.RowKit

set_option linter.unusedSimpArgs false
set_option linter.unusedVariables false
/-- A credential in a variable. -/
theorem cred_cells {w : World} {g : Nat} {c : Crd} {t : TypeId} (h : w.heap[g]? = some (.cells c.cells.toArray t (0, 0))) : w.cell? ⟨g, 0, none⟩ = some (.int .i64 c.d) ∧ w.cell? ⟨g, 1, none⟩ = some (.int .i64 c.q) ∧ w.cell? ⟨g, 2, none⟩ = some (.string c.nm) ∧ w.cell? ⟨g, 3, none⟩ = some (.int .i64 c.kd) ∧ w.cell? ⟨g, 4, none⟩ = some (.string c.wh) ∧
    w.cell? ⟨g, 5, none⟩ = some (.string c.ao) ∧ w.cell? ⟨g, 6, none⟩ = some (.string c.an) ∧ w.cell? ⟨g, 7, none⟩ = some (.string c.bo) ∧ w.cell? ⟨g, 8, none⟩ = some (.string c.bn) := by
  refine ⟨?_, ?_, ?_, ?_, ?_, ?_, ?_, ?_, ?_⟩
  · rw [cell_of_row _ _ 0 _ _ (0, 0) h]; rfl
  · rw [cell_of_row _ _ 1 _ _ (0, 0) h]; rfl
  · rw [cell_of_row _ _ 2 _ _ (0, 0) h]; rfl
  · rw [cell_of_row _ _ 3 _ _ (0, 0) h]; rfl
  · rw [cell_of_row _ _ 4 _ _ (0, 0) h]; rfl
  · rw [cell_of_row _ _ 5 _ _ (0, 0) h]; rfl
  · rw [cell_of_row _ _ 6 _ _ (0, 0) h]; rfl
  · rw [cell_of_row _ _ 7 _ _ (0, 0) h]; rfl
  · rw [cell_of_row _ _ 8 _ _ (0, 0) h]; rfl
set_option maxHeartbeats 8000000 in
theorem leased_any (A : Option Addr) (all : List Crd) (nn cc : Nat) (hnn : all.length = nn) (hna : nn ≤ 1000000) (hnc : nn ≤ cc) (hcc : cc ≤ 9223372036854775807) (d u : Int) (w : World) (hA : Crs w w.heap.size A all) :
    Calls Try.prog 35 #[.int .i64 d, .slice A nn cc, .int .i64 u] w fun e w' => ∃ A' n' c', e = .returned (.slice A' n' c') ∧ (leasedP d u (countsC all)).length = n' ∧ n' ≤ nn ∧ n' ≤ c' ∧ c' ≤ 9223372036854775807 ∧ Own (E := encL) w' w.heap.size 55 (.slice A' n' c') (leasedP d u (countsC all)) ∧ Below w.heap.size w w' := by
  have HCT := hid (counts_any A all nn cc hnn hnc hcc (by omega) w hA)
  obtain ⟨C, hC⟩ : ∃ C, countsC all = C := ⟨_, rfl⟩
  rw [hC]
  have HCE := hid hC
  clear hC hA hnn
  go_enter Try.func35, Try.ntmps35
  go_wp2_with fail
  refine HCT.out.mono ?_
  rintro er w3 ⟨A3, n3, c3, out, rfl, hn3, ho3, hco, hb3⟩
  obtain rfl : C = out := HCE.out.symm.trans (countsC_eq hco)
  have HL3 := hid ho3.len
  have HX3 := hid (fun W (hW : Below w3.heap.size w3 W) => (ho3.crs.below hW).more hW.size)
  have HB3 := hid hb3
  have hs3 := hb3.size
  have HB33 := hid (Below.refl w3.heap.size w3)
  clear ho3 hco hb3 HCT
  go_wp2_with fail
  go_loopw [7, 13] (fun v i wr => ∃ (A : Option Addr) (m c k : Nat), v = .slice A m c ∧ i = .int .i64 (k : Int) ∧ k ≤ n3 ∧ m ≤ k ∧ Hid ((leasedP d u (C.take k)).length = m) ∧ Hid (Own (E := encL) wr w3.heap.size 55 (.slice A m c) (leasedP d u (C.take k))) ∧ Hid (Below w3.heap.size w3 wr)) (fun _ i _ => n3 - (intOf i).toNat)
  case atStart => exact ⟨none, 0, 0, 0, rfl, rfl, Nat.zero_le _, Nat.le_refl _, hid (by simp [leasedP]), hid (Own.nil _ _ _), HB33⟩
  case round =>
    obtain ⟨wj, hwj⟩ : ∃ x, x = wr := ⟨_, rfl⟩
    subst hwj
    obtain ⟨A, m', c, k, rfl, rfl, hk, hmk, HL, HO, HB⟩ := hrel
    have hk0 : (0 : Int) ≤ (k : Int) := Int.natCast_nonneg _
    by_cases hlt : k < n3
    · obtain ⟨⟨xd, xq, nm, kd, wh, ao, an, bo, bn⟩, hx⟩ : ∃ x, C[k]? = some x := ⟨_, List.getElem?_eq_getElem (by rw [HL3.out]; exact hlt)⟩
      obtain ⟨ad, aj, hA, -, ea, -, d0, d1, d2, d3, d4, d5, d6, d7, d8⟩ := (HX3.out wj HB.out).get hx
      subst hA
      have HX := hid (take_snoc_of hx)
      have hk1 : (k : Int) < (n3 : Int) := by omega
      obtain ⟨w1, hw1⟩ : ∃ y, y = wj.alloc (.cells #[.int .i64 xd, .int .i64 xq, .string nm, .int .i64 kd, .string wh, .string ao, .string an, .string bo, .string bn] 53) := ⟨_, rfl⟩
      have hc1 : w1.heap[wj.heap.size]? = some (.cells (Crd.cells ⟨xd, xq, nm, kd, wh, ao, an, bo, bn⟩).toArray 53 (0, 0)) := by rw [hw1]; exact heap_alloc_new wj _
      have HB1 : Hid (Below w3.heap.size w3 w1) := hid (by rw [hw1]; exact HB.out.alloc HB.out.size _)
      have HO1 : Hid (Own (E := encL) w1 w3.heap.size 55 (.slice A m' c) (leasedP d u (C.take k))) := hid (by rw [hw1]; exact HO.out.alloc _)
      obtain ⟨e0, e1, e2, e3, e4, e5, e6, e7, e8⟩ := cred_cells hc1
      simp only at e0 e1 e2 e3 e4 e5 e6 e7 e8
      clear hx HB HO
      by_cases he : xd = d
      · subst he
        have HNX : Hid (leasedP xd u (C.take (k + 1)) = leasedP xd u (C.take k) ++ [⟨⟨xd, xq, nm, kd, wh, ao, an, bo, bn⟩, u⟩]) := hid (by rw [HX.out, leasedP_snoc, if_pos rfl])
        have hfl : (leasedP xd u (C.take k)).length ≤ 1000000000000 := by rw [HL.out]; omega
        have HOA := hid (HO1.out.alloc (.cells #[.int .i64 xd, .int .i64 xq, .string nm, .int .i64 kd, .string wh, .string ao, .string an, .string bo, .string bn, .int .i64 u] 55))
        have HRD := hid (reads_new w1 #[.int .i64 xd, .int .i64 xq, .string nm, .int .i64 kd, .string wh, .string ao, .string an, .string bo, .string bn, .int .i64 u] 55 (0, 0))
        have HBA := hid (HB1.out.alloc HB1.out.size (.cells #[.int .i64 xd, .int .i64 xq, .string nm, .int .i64 kd, .string wh, .string ao, .string an, .string bo, .string bn, .int .i64 u] 55))
        have hbs : w3.heap.size ≤ (w1.alloc (.cells #[.int .i64 xd, .int .i64 xq, .string nm, .int .i64 kd, .string wh, .string ao, .string an, .string bo, .string bn, .int .i64 u] 55)).heap.size := HBA.out.size
        have HW1 := hid hw1
        clear hw1 hc1
        go_upto_region 5 with fail
        rw [← HW1.out]
        go_wp2_with (first | (at_builtin; refine wpList_app1 (E := encL) rfl slL (.tmp 22) (.tmp 26) rfl (B := w3.heap.size) (v := .slice A m' c) (l := leasedP xd u (C.take k)) HOA.out rfl (ad := ⟨w1.heap.size, 0, none⟩) (c := 1) ⟨⟨xd, xq, nm, kd, wh, ao, an, bo, bn⟩, u⟩ rfl HRD.out hfl (by omega) hbs ?_; intro A9 c9 w9 ho9 hg9 he9; have HO9 := hid ho9; have HB9 := hid (HBA.out.grown hg9 hbs (fun g e => (World.ownsRow.lt HOA.out g e).1)); clear ho9 hg9 he9) | go_in)
        rw [HL.out] at HO9 ⊢
        go_roundw
        case rel => exact ⟨A9, m' + 1, c9, k + 1, rfl, by go_num, by omega, by omega, hid (by rw [HNX.out, List.length_append, HL.out]; rfl), hid (by rw [HNX.out]; exact HO9.out), HB9⟩
        case measure => simp [intOf]; omega
      · have h6 : (xd == d) = false := beq_eq_false_iff_ne.2 he
        have HNX : Hid (leasedP d u (C.take (k + 1)) = leasedP d u (C.take k)) := hid (by rw [HX.out, leasedP_snoc, if_neg he])
        have HW1 := hid hw1
        clear hw1 hc1
        go_upto_region 5 with fail
        rw [← HW1.out]
        go_wp2_with fail
        go_roundw
        case rel => exact ⟨A, m', c, k + 1, rfl, by go_num, by omega, by omega, hid (by rw [HNX.out]; exact HL.out), hid (by rw [HNX.out]; exact HO1.out), HB1⟩
        case measure => simp [intOf]; omega
    · obtain rfl : k = n3 := by omega
      have HT : Hid (leasedP d u (C.take k) = leasedP d u C) := hid (by rw [List.take_of_length_le (by rw [HL3.out]; exact Nat.le_refl _)])
      rw [HT.out] at HO HL
      go_wp2_with fail
      go_ret
      obtain ⟨A', c', e, h1, h2, -⟩ := HO.out.els
      simp only [Value.slice.injEq] at e
      obtain ⟨rfl, h3, rfl⟩ := e
      exact ⟨_, _, _, rfl, HL.out, by omega, by omega, h2, own_mono' HO.out HB3.out.size, HB3.out.trans (HB.out.mono HB3.out.size)⟩
theorem LB.learn_no {b : LB} {d a : Int} (out : List Crd) (h : mayH b.own d a = false) : b.learn d out a = (1, b) := by unfold LB.learn; rw [if_neg (by rw [h]; simp)]
theorem LB.learn_late {b : LB} {d a : Int} (out : List Crd) (h : a < (b.st d).getD 0) : b.learn d out a = (1, b) := by unfold LB.learn; rw [if_neg (by omega)]
theorem LB.learn_full {b : LB} {d a : Int} {out : List Crd} (h : mayH b.own d a = true) (h2 : (b.st d).getD 0 ≤ a) (h3 : 24 < (leasedP d (addT a 56) out).length) : b.learn d out a = (12, b) := by unfold LB.learn; rw [if_pos ⟨h, h2⟩, if_neg (by omega)]
theorem LB.learn_yes {b : LB} {d a : Int} {out : List Crd} (h : mayH b.own d a = true) (h2 : (b.st d).getD 0 ≤ a) (h3 : (leasedP d (addT a 56) out).length ≤ 24) : b.learn d out a = (0, ⟨b.own, updF b.st d (some a), updF b.hl d (leasedP d (addT a 56) out)⟩) := by unfold LB.learn; rw [if_pos ⟨h, h2⟩, if_pos h3]
set_option maxHeartbeats 8000000 in
theorem learn_any {w : World} {P : Nat → Prop} {g k : Nat} {b : LB} (h : BookP w P g k b) (hk : k < 999999) (A : Option Addr) (all : List Crd) (nn cc : Nat) (hnn : all.length = nn) (hna : nn ≤ 1000000) (hnc : nn ≤ cc) (hcc : cc ≤ 9223372036854775807) (hA : Crs w w.heap.size A all) (d a : Int) :
    Calls Try.prog 21 #[.pointer (some ⟨g, 0, none⟩), .int .i64 d, .slice A nn cc, .int .i64 a] w fun e w' => e = .returned (.int .i64 (b.learn d (countsC all) a).1) ∧ BookP w' (plusP P w.heap.size w'.heap.size) g (k + 2) (b.learn d (countsC all) a).2 ∧ Grew w w' P := by
  obtain ⟨h1, h2, hb⟩ := h.e
  have HM := hid (mayHear_any hb.c0 d a)
  have HBO := hid hb
  obtain ⟨C, hC⟩ : ∃ C, countsC all = C := ⟨_, rfl⟩
  cases hm : mayH b.own d a
  · rw [hm] at HM
    have HE := hid (LB.learn_no (b := b) (countsC all) hm)
    rw [hC] at HE ⊢
    clear h hb hm hA hC
    go_enter Try.func21, Try.ntmps21
    go_wp2_with fail
    refine HM.out.mono ?_
    rintro er w2 ⟨rfl, hw⟩
    have hw2 : w = w2 := hw
    subst hw2
    go_wp2_with fail
    go_ret
    exact ⟨by rw [HE.out]; rfl, by rw [HE.out]; exact (HBO.out.p.mono (by omega)).plus, Grew.refl _ _⟩
  rw [hm] at HM
  have hz := in64_dom ((mayH_iff _ _ _).1 hm).1
  have hlk := hb.st.look hz
  have c1 := hb.c1
  obtain ⟨s, hs⟩ : ∃ s, (b.st d).getD 0 = s := ⟨_, rfl⟩
  rw [hs] at hlk
  by_cases hle : a < s
  · have HE := hid (LB.learn_late (b := b) (countsC all) (by rw [hs]; exact hle))
    rw [hC] at HE ⊢
    clear h hb hm hA hC hs
    go_enter Try.func21, Try.ntmps21
    go_wp2_with fail
    refine HM.out.mono ?_
    rintro er w2 ⟨rfl, hw⟩
    have hw2 : w = w2 := hw
    subst hw2
    go_wp2_with fail
    go_ret
    exact ⟨by rw [HE.out]; rfl, by rw [HE.out]; exact (HBO.out.p.mono (by omega)).plus, Grew.refl _ _⟩
  obtain ⟨u, hu⟩ : ∃ u, addT a 56 = u := ⟨_, rfl⟩
  have HAD : Hid (∀ W, Calls Try.prog 29 #[.int .i64 a, .int .i64 56] W fun e w' => e = .returned (.int .i64 u) ∧ W = w') := hid (fun W => by have h := add_any a 56 W; rw [hu] at h; exact h)
  have HLE := hid (leased_any A all nn cc hnn hna hnc hcc d u w hA)
  rw [hC] at HLE ⊢
  have HSS : Hid ((b.st d).getD 0 ≤ a) := hid (by rw [hs]; omega)
  have HMY := hid hm
  have HZ := hid hz
  have HDM := hid h.dom
  have HU := hid hu
  clear h hb hm hA hC hs hu
  go_enter Try.func21, Try.ntmps21
  go_wp2_with fail
  refine HM.out.mono ?_
  rintro er w2 ⟨rfl, hw⟩
  have hw2 : w = w2 := hw
  subst hw2
  clear hw
  go_wp2_with fail
  refine (HAD.out _).mono ?_
  rintro er w2 ⟨rfl, hw⟩
  have hw2 : w = w2 := hw
  subst hw2
  clear hw
  go_wp2_with fail
  refine HLE.out.mono ?_
  rintro er w3 ⟨A3, n3, c3, rfl, hl3, hn3, hc3, hm3, ho3, hb3⟩
  have HL3 := hid hl3
  have HB3 := hid hb3
  by_cases hful : 24 < n3
  · have HE := hid (LB.learn_full (b := b) (d := d) (a := a) (out := C) HMY.out HSS.out (by rw [HU.out, hl3]; exact hful))
    have hful2 : (24 : Int) < (n3 : Int) := by omega
    clear ho3 hb3 hl3 c1 hlk
    go_wp2_with fail
    go_ret
    exact ⟨by rw [HE.out]; rfl, by rw [HE.out]; exact ((HBO.out.p.below HB3.out).mono (by omega)).plus, Grew.of_below HB3.out⟩
  · have HE := hid (LB.learn_yes (b := b) (d := d) (a := a) (out := C) HMY.out HSS.out (by rw [HU.out, hl3]; omega))
    rw [HU.out] at HE
    have hful2 : ¬ (24 : Int) < (n3 : Int) := by omega
    have hq : ElsQ encL w3 (fun x => plusP P w.heap.size w3.heap.size x ∧ x ≠ g ∧ x ≠ h1 ∧ x ≠ h2) A3 (leasedP d u C) := (ElsQ.of_own (Q := fun x => w.heap.size ≤ x) (by rw [← hl3] at ho3; exact ho3) (fun b hb => hb)).imp (fun x hx hl => ⟨.inr ⟨hx, hl⟩, fun e => by have := HDM.out g HBO.out.p0; omega, fun e => by have := HDM.out h1 HBO.out.p1; omega, fun e => by have := HDM.out h2 HBO.out.p2; omega⟩)
    have hb3' : BookE w3 (plusP P w.heap.size w3.heap.size) g h1 h2 k b := (HBO.out.below hb3).plus
    have c2 := hb3'.c2
    obtain ⟨w4, hrun4, hb4, hg4⟩ := hb3'.putHl (by omega) HZ.out _ hl3 hc3 hm3 hq
    have c14 := hb4.c1
    obtain ⟨w5, hrun5, hb5, hg5⟩ := hb4.putSt (by omega) HZ.out a
    have HB5 := hid hb5
    have HG5 := hid (hg4.trans hg5)
    clear ho3 hb3 hl3 c1 hlk hq hb3' hb4 hg4 hb5 hg5
    go_wp2_with fail
    go_ret
    rw [HE.out]
    have hs5 := HG5.out.size
    refine ⟨rfl, (HB5.out.imp (fun x hx => hx.imp id (fun h => ⟨h.1, by omega⟩)) (fun x hx => ?_)).p, ?_⟩
    · rcases hx with hx | hx
      · exact HB5.out.dom x (.inl hx)
      · exact hx.2
    · exact ⟨HG5.out.os.trans HB3.out.os, HG5.out.tape.trans HB3.out.tape, HG5.out.output.trans HB3.out.output, Nat.le_trans HB3.out.size hs5, fun x hx hp => (HG5.out.block x (Nat.lt_of_lt_of_le hx HB3.out.size) (fun h => h.elim hp (fun h => by omega))).trans (HB3.out.block x hx)⟩
end Go.Proofs.Ytkimhdcngagmaaa.Sh
