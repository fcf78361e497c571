/-
  slices.symMergeCmpFunc at credentials: one of the two parts a single credential.
-/
import Derived.Test.YtkimhdcngagmaaaJa17
import Derived.Test.YtkimhdcngagmaaaJa20
set_option linter.unusedVariables false
set_option linter.unusedSimpArgs false
namespace Go.Proofs.Ytkimhdcngagmaaa.Sh
open Go Go.RowKit
set_option linter.unusedSimpArgs false
set_option maxRecDepth 100000

set_option maxHeartbeats 16000000 in
theorem sym_one {w0 w : World} {B g C : Nat} {tl : List Value} (l : List Crd) (N a m b : Nat) (hN : l.length = N) (hNm : N ≤ 1000000000) (hm : m = a + 1) (hmb : m < b) (hbN : b ≤ N) (h : Rw w0 w B g tl l) (hs : Srt m b l) :
    Calls Try.prog 66 #[.slice (some ⟨g, 0, none⟩) N C, .int .i64 a, .int .i64 m, .int .i64 b, .func (.func 56) #[] #[]] w fun e w' => e = .returned (.tuple #[]) ∧ ∃ l', Rw w0 w' B g tl l' ∧ Mix a b l l' ∧ Srt a b l' := by
  obtain ⟨x, hx⟩ : ∃ x, l[a]? = some x := ⟨_, List.getElem?_eq_getElem (by omega)⟩
  have e1 : (m : Int) - (a : Int) = 1 := by omega
  have HX := hid hx
  have HN := hid hN
  have HR := hid h
  have HS := hid hs
  have HM := hid hm
  have haN : (a : Int) < (N : Int) := by omega
  have wa := wrap_in (a : Int) (by omega)
  have aa := addr_row g (a * 9)
  clear hN h hs hm hx
  go_enter Try.func66, Try.ntmps66
  go_wp2
  go_loopw [10, 11] (fun vi vj wr => ∃ (i j : Nat), vi = .int .i64 i ∧ vj = .int .i64 j ∧ m ≤ i ∧ i ≤ j ∧ j ≤ b ∧ Rw w0 wr B g tl l ∧ Hid (i = m ∨ ∃ u, l[i - 1]? = some u ∧ bef u x = true) ∧ Hid (j = b ∨ ∃ u, l[j]? = some u ∧ bef u x = false)) (fun vi vj _ => (intOf vj).toNat - (intOf vi).toNat)
  case atStart => exact ⟨m, b, rfl, rfl, Nat.le_refl _, by omega, Nat.le_refl _, HR.out, hid (.inl rfl), hid (.inl rfl)⟩
  case round =>
    obtain ⟨i, j, rfl, rfl, hi, hij, hj, R, HI, HJ⟩ := hrel
    by_cases hlt : i < j
    · have hlt' : (i : Int) < (j : Int) := by omega
      have hb1 : (j : Int) ≤ 1000000000 := by omega
      have hb2 : (i : Int) ≤ 1000000000 := by omega
      obtain ⟨q, hq⟩ : ∃ q, (i + j) / 2 = q := ⟨_, rfl⟩
      have hq' : ((i : Int) + (j : Int)) / 2 = (q : Int) := by omega
      have hqi : i ≤ q := by omega
      have hqj : q < j := by omega
      have hqN : (q : Int) < (N : Int) := by omega
      have wq := wrap_in (q : Int) (by omega)
      have aq := addr_row g (q * 9)
      obtain ⟨y, hy⟩ : ∃ y, l[q]? = some y := ⟨_, List.getElem?_eq_getElem (by rw [HN.out]; omega)⟩
      obtain ⟨c, hc⟩ : ∃ c, cmpI y x = c := ⟨_, rfl⟩
      obtain ⟨bb, hbb⟩ : ∃ b, bef y x = b := ⟨_, rfl⟩
      have hcb : decide (c < 0) = bb := by rw [← hc, cmpI_neg, hbb]
      have HCMP : Hid (∀ W, Calls Try.prog 56 #[.agg y.cells.toArray, .agg x.cells.toArray] W fun e w' => e = .returned (.int .i64 c) ∧ Below W.heap.size W w') := hid (fun W => hc ▸ cmpC_any y x W)
      have HB := hid hbb
      have HY := hid hy
      have HR1 := hid R.drew
      clear hc hbb hy hq R
      go_wp2_with fail
      refine wp_region_held_drew (S := (fun W => W.rangeAt g (q * 9) y.cells ∧ W.rangeAt g (a * 9) x.cells)) (by kernel_rfl) (⟨HR1.out.row.range HY.out, HR1.out.row.range HX.out⟩) (fun hHeld => ?_)
      refine wpAnyH_take (i := 0) (oi := ({ dst := some 40, op := Op.move (Operand.tmp 4), type := 84, pos := "zsortanyfunc.go:390", after := #[], guard := none } : Oper)) (v := (.func (.func 56) #[] #[])) rfl (by kernel_rfl) (by kernel_rfl) (by kernel_rfl) (fun _ _ _ h => h) (Or.inl ⟨by rfl, by intro w _; go_simp⟩) hHeld ?_
      simp only [Act.put, List.setIfInBounds_toArray, List.set_cons_zero, List.set_cons_succ]
      refine wpAnyH_take (i := 1) (oi := ({ dst := some 41, op := Op.move (Operand.tmp 0), type := 34, pos := "zsortanyfunc.go:390", after := #[], guard := none } : Oper)) (v := (.slice (some ⟨g, 0, none⟩) N C)) rfl (by kernel_rfl) (by kernel_rfl) (by kernel_rfl) (fun _ _ _ h => h) (Or.inl ⟨by rfl, by intro w _; go_simp⟩) hHeld ?_
      simp only [Act.put, List.setIfInBounds_toArray, List.set_cons_zero, List.set_cons_succ]
      refine wpAnyH_take (i := 2) (oi := ({ dst := some 42, op := Op.move (Operand.tmp 12), type := 3, pos := "zsortanyfunc.go:390", after := #[], guard := none } : Oper)) (v := (.int .i64 (q : Int))) rfl (by kernel_rfl) (by kernel_rfl) (by kernel_rfl) (fun _ _ _ h => h) (Or.inl ⟨by rfl, by intro w _; go_simp⟩) hHeld ?_
      simp only [Act.put, List.setIfInBounds_toArray, List.set_cons_zero, List.set_cons_succ]
      refine wpAnyH_take (i := 3) (oi := ({ dst := some 43, op := Op.indexAddr 34 (Operand.tmp 41) (Operand.tmp 42), type := 0, pos := "zsortanyfunc.go:390", after := #[{ on := 1, ground := Ground.data }, { on := 2, ground := Ground.data }], guard := none } : Oper)) (v := (.pointer (some ⟨g, q * 9, none⟩))) rfl (by kernel_rfl) (by kernel_rfl) (by kernel_rfl) (fun _ _ _ h => h) (Or.inl ⟨by rfl, by intro w _; go_simp⟩) hHeld ?_
      simp only [Act.put, List.setIfInBounds_toArray, List.set_cons_zero, List.set_cons_succ]
      refine wpAnyH_take (i := 4) (oi := ({ dst := some 44, op := Op.load 53 (Operand.tmp 43), type := 53, pos := "zsortanyfunc.go:390", after := #[{ on := 3, ground := Ground.data }], guard := none } : Oper)) (v := .agg y.cells.toArray) rfl (by kernel_rfl) (by kernel_rfl) (by kernel_rfl) (fun _ _ _ h => h) (yieldsIf_load_mid (by rfl) 53 (.tmp 43) rfl g (q * 9) rfl y.cells _ (fun _ h => h.1) Try.underlying53 rfl (info_credL _)) hHeld ?_
      simp only [Act.put, List.setIfInBounds_toArray, List.set_cons_zero, List.set_cons_succ]
      refine wpAnyH_take (i := 5) (oi := ({ dst := some 45, op := Op.move (Operand.tmp 0), type := 34, pos := "zsortanyfunc.go:390", after := #[], guard := none } : Oper)) (v := (.slice (some ⟨g, 0, none⟩) N C)) rfl (by kernel_rfl) (by kernel_rfl) (by kernel_rfl) (fun _ _ _ h => h) (Or.inl ⟨by rfl, by intro w _; go_simp⟩) hHeld ?_
      simp only [Act.put, List.setIfInBounds_toArray, List.set_cons_zero, List.set_cons_succ]
      refine wpAnyH_take (i := 6) (oi := ({ dst := some 46, op := Op.move (Operand.tmp 1), type := 3, pos := "zsortanyfunc.go:390", after := #[], guard := none } : Oper)) (v := (.int .i64 (a : Int))) rfl (by kernel_rfl) (by kernel_rfl) (by kernel_rfl) (fun _ _ _ h => h) (Or.inl ⟨by rfl, by intro w _; go_simp⟩) hHeld ?_
      simp only [Act.put, List.setIfInBounds_toArray, List.set_cons_zero, List.set_cons_succ]
      refine wpAnyH_take (i := 7) (oi := ({ dst := some 47, op := Op.indexAddr 34 (Operand.tmp 45) (Operand.tmp 46), type := 0, pos := "zsortanyfunc.go:390", after := #[{ on := 5, ground := Ground.data }, { on := 6, ground := Ground.data }], guard := none } : Oper)) (v := (.pointer (some ⟨g, a * 9, none⟩))) rfl (by kernel_rfl) (by kernel_rfl) (by kernel_rfl) (fun _ _ _ h => h) (Or.inl ⟨by rfl, by intro w _; go_simp⟩) hHeld ?_
      simp only [Act.put, List.setIfInBounds_toArray, List.set_cons_zero, List.set_cons_succ]
      refine wpAnyH_take (i := 8) (oi := ({ dst := some 48, op := Op.load 53 (Operand.tmp 47), type := 53, pos := "zsortanyfunc.go:390", after := #[{ on := 7, ground := Ground.data }], guard := none } : Oper)) (v := .agg x.cells.toArray) rfl (by kernel_rfl) (by kernel_rfl) (by kernel_rfl) (fun _ _ _ h => h) (yieldsIf_load_mid (by rfl) 53 (.tmp 47) rfl g (a * 9) rfl x.cells _ (fun _ h => h.2) Try.underlying53 rfl (info_credL _)) hHeld ?_
      simp only [Act.put, List.setIfInBounds_toArray, List.set_cons_zero, List.set_cons_succ]
      refine wpAnyH_ready (rs := [9]) (by kernel_rfl) (by simp) ?_
      refine AllReadyH.cons (o := ({ dst := some 49, op := Op.call { callee := Callee.value (Operand.tmp 40), args := #[Operand.tmp 44, Operand.tmp 48], argTypes := #[53, 53] }, type := 3, pos := "zsortanyfunc.go:390", after := #[{ on := 0, ground := Ground.data }, { on := 4, ground := Ground.data }, { on := 8, ground := Ground.data }], guard := none } : Oper)) rfl (fun K hK => ?_) AllReadyH.nil
      rw [if_pos (by rfl)]
      go_simp
      refine (HCMP.out _).mono ?_
      rintro er w2 ⟨rfl, bl⟩
      have HR2 := hid (HR1.out.kept bl)
      clear bl
      refine hK.out _ _ (⟨HR2.out.row.range HY.out, HR2.out.row.range HX.out⟩) (fun hHeld2 => ?_)
      clear hK K hHeld
      try simp only [Act.put, List.setIfInBounds_toArray, List.set_cons_zero, List.set_cons_succ]
      refine wpAnyH_take (i := 10) (oi := ({ dst := some 50, op := Op.binOp BinOp.lss 3 (Operand.tmp 49) (Operand.const (Value.int IntKind.i64 0)) 3, type := 4, pos := "zsortanyfunc.go:390", after := #[{ on := 9, ground := Ground.data }], guard := none } : Oper)) (v := (.bool bb)) rfl (by kernel_rfl) (by kernel_rfl) (by kernel_rfl) (fun _ _ _ h => h) (Or.inl ⟨by rfl, by intro w _; go_simp⟩) hHeld2 ?_
      simp only [Act.put, List.setIfInBounds_toArray, List.set_cons_zero, List.set_cons_succ]
      refine wpAnyH_done (by kernel_rfl) ?_ _
      clear hHeld2
      cases bb with
      | true =>
        have HI2 : Hid (q + 1 = m ∨ ∃ u, l[q + 1 - 1]? = some u ∧ bef u x = true) := hid (.inr ⟨y, HY.out, HB.out⟩)
        go_wp2
        go_roundw
        case rel => exact ⟨q + 1, j, by go_num, rfl, by omega, by omega, hj, HR2.out, HI2, HJ⟩
        case measure => simp [intOf]; omega
      | false =>
        have HJ2 : Hid (q = b ∨ ∃ u, l[q]? = some u ∧ bef u x = false) := hid (.inr ⟨y, HY.out, HB.out⟩)
        go_wp2
        go_roundw
        case rel => exact ⟨i, q, rfl, rfl, hi, hqi, by omega, HR2.out, HI, HJ2⟩
        case measure => simp [intOf]; omega
    · obtain rfl : i = j := by omega
      obtain ⟨i1, hi1⟩ : ∃ i1, i1 + 1 = i := ⟨i - 1, by omega⟩
      have f1 : (i : Int) - 1 = (i1 : Int) := by omega
      have hai : a ≤ i1 := by have := HM.out; omega
      have HLOW : Hid (∀ t y, a < t → t ≤ i1 → l[t]? = some y → bef y x = true) := hid (fun t y g1 g2 gy => by
        rcases HI.out with h | ⟨u, hu, hb⟩
        · have := HM.out; omega
        · rw [← hi1, Nat.add_sub_cancel] at hu
          rcases Nat.lt_or_ge t i1 with g | g
          · exact le_bef (HS.out t i1 y u (by have := HM.out; omega) g (by omega) gy hu) hb
          · obtain rfl : t = i1 := by omega
            rw [hu] at gy; injection gy with gy; subst gy; exact hb)
      have HHIGH : Hid (∀ t y, i1 < t → t < b → l[t]? = some y → bef y x = false) := hid (fun t y g1 g2 gy => by
        rcases HJ.out with h | ⟨u, hu, hb⟩
        · omega
        · rcases Nat.lt_or_ge i t with g | g
          · exact not_bef_trans (HS.out i t u y hi g g2 hu gy) hb
          · obtain rfl : t = i := by omega
            rw [hu] at gy; injection gy with gy; subst gy; exact hb)
      have HI1 := hid hi1
      have hi1N : i1 + 1 ≤ N := by omega
      have hi1b : i1 < b := by omega
      have HRo := hid R
      obtain ⟨wo, hwo⟩ : ∃ z, z = wr := ⟨_, rfl⟩
      subst hwo
      clear hi1 R HI HJ hij hlt
      go_wp2
      go_loopw [13] (fun v wi => ∃ (k : Nat) (c2 : List Crd), v = .int .i64 k ∧ a ≤ k ∧ k ≤ i1 ∧ Rw w0 wi B g tl c2 ∧ Hid (Up l c2 a k x) ∧ Hid (Mix a b l c2)) (fun v _ => i1 - (intOf v).toNat)
      case atStart => exact ⟨a, l, rfl, Nat.le_refl _, hai, HRo.out, hid (Up.start HX.out), hid (Mix.refl _ _ _)⟩
      case round =>
        obtain ⟨p, c2, rfl, hap, hpi, R, HU, HMX⟩ := hrel
        have hcl : c2.length = N := by rw [HU.out.len, HN.out]
        by_cases hlt : p < i1
        · have hlt' : (p : Int) < (i1 : Int) := by omega
          obtain ⟨q, hq⟩ : ∃ q, p + 1 = q := ⟨_, rfl⟩
          have hq' : (p : Int) + 1 = (q : Int) := by omega
          have hpN : (p : Int) < (N : Int) := by omega
          have hqN : (q : Int) < (N : Int) := by omega
          have wp := wrap_in (p : Int) (by omega)
          have wq := wrap_in (q : Int) (by omega)
          have ap := addr_row g (p * 9)
          have aq := addr_row g (q * 9)
          obtain ⟨y, hy⟩ : ∃ y, c2[q]? = some y := ⟨_, List.getElem?_eq_getElem (by omega)⟩
          have hyl : l[q]? = some y := by rw [← HU.out.out q (.inr (by omega))]; exact hy
          have hyb := HLOW.out q y (by omega) (by omega) hyl
          have HX2 := hid HU.out.at_
          have HY := hid hy
          have HR1 := hid R.drew
          have HCL := hid hcl
          have HRs1 : Hid (Rw w0 (wr.drew.setCells g (p * 9) y.cells) B g tl (c2.set p y)) := hid (HR1.out.set (by omega) y)
          have HRs2 : Hid (Rw w0 ((wr.drew.setCells g (p * 9) y.cells).setCells g (q * 9) x.cells) B g tl ((c2.set p y).set q x)) := hid (HRs1.out.set (by rw [List.length_set]; omega) x)
          have HU2 : Hid (Up l ((c2.set p y).set q x) a q x) := hid (by rw [← hq] at hy ⊢; exact HU.out.step hy)
          have HM2 : Hid (Mix a b l ((c2.set p y).set q x)) := hid (by rw [← hq] at hy ⊢; exact HMX.out.trans ((mix_adj HU.out.at_ hy hyb).wide hap (by omega)))
          have HQ := hid hq
          clear hy hyl hyb R hcl hq
          go_wp2_with fail
          refine wp_region_any (by kernel_rfl) ?_
          change wpAny _ _ _ _ _ _ _ (World.drew _)
          refine wpAny_take (i := 0) (oi := ({ dst := some 61, op := Op.move (Operand.tmp 0), type := 34, pos := "zsortanyfunc.go:398", after := #[], guard := none } : Oper)) (v := (.slice (some ⟨g, 0, none⟩) N C)) rfl (by kernel_rfl) (by kernel_rfl) (by kernel_rfl) (fun _ _ _ h => h) (Or.inl ⟨by rfl, by intro w; go_simp⟩) ?_
          simp only [Act.put, List.setIfInBounds_toArray, List.set_cons_zero, List.set_cons_succ]
          refine wpAny_take (i := 1) (oi := ({ dst := some 62, op := Op.move (Operand.tmp 13), type := 3, pos := "zsortanyfunc.go:398", after := #[], guard := none } : Oper)) (v := (.int .i64 (p : Int))) rfl (by kernel_rfl) (by kernel_rfl) (by kernel_rfl) (fun _ _ _ h => h) (Or.inl ⟨by rfl, by intro w; go_simp⟩) ?_
          simp only [Act.put, List.setIfInBounds_toArray, List.set_cons_zero, List.set_cons_succ]
          refine wpAny_take (i := 2) (oi := ({ dst := some 63, op := Op.move (Operand.tmp 0), type := 34, pos := "zsortanyfunc.go:398", after := #[{ on := 15, ground := Ground.gcOnly Departure.lateStores }], guard := none } : Oper)) (v := (.slice (some ⟨g, 0, none⟩) N C)) rfl (by kernel_rfl) (by kernel_rfl) (by kernel_rfl) (fun _ _ _ h => h) (Or.inl ⟨by rfl, by intro w; go_simp⟩) ?_
          simp only [Act.put, List.setIfInBounds_toArray, List.set_cons_zero, List.set_cons_succ]
          refine wpAny_take (i := 3) (oi := ({ dst := some 64, op := Op.move (Operand.tmp 13), type := 3, pos := "zsortanyfunc.go:398", after := #[{ on := 15, ground := Ground.gcOnly Departure.lateStores }], guard := none } : Oper)) (v := (.int .i64 (p : Int))) rfl (by kernel_rfl) (by kernel_rfl) (by kernel_rfl) (fun _ _ _ h => h) (Or.inl ⟨by rfl, by intro w; go_simp⟩) ?_
          simp only [Act.put, List.setIfInBounds_toArray, List.set_cons_zero, List.set_cons_succ]
          refine wpAny_take (i := 4) (oi := ({ dst := some 65, op := Op.binOp BinOp.add 3 (Operand.tmp 64) (Operand.const (Value.int IntKind.i64 1)) 3, type := 3, pos := "zsortanyfunc.go:398", after := #[{ on := 3, ground := Ground.data }, { on := 15, ground := Ground.gcOnly Departure.lateStores }], guard := none } : Oper)) (v := (.int .i64 (q : Int))) rfl (by kernel_rfl) (by kernel_rfl) (by kernel_rfl) (fun _ _ _ h => h) (Or.inl ⟨by rfl, by intro w; go_simp⟩) ?_
          simp only [Act.put, List.setIfInBounds_toArray, List.set_cons_zero, List.set_cons_succ]
          refine wpAny_take (i := 5) (oi := ({ dst := some 66, op := Op.move (Operand.tmp 0), type := 34, pos := "zsortanyfunc.go:398", after := #[], guard := none } : Oper)) (v := (.slice (some ⟨g, 0, none⟩) N C)) rfl (by kernel_rfl) (by kernel_rfl) (by kernel_rfl) (fun _ _ _ h => h) (Or.inl ⟨by rfl, by intro w; go_simp⟩) ?_
          simp only [Act.put, List.setIfInBounds_toArray, List.set_cons_zero, List.set_cons_succ]
          refine wpAny_take (i := 6) (oi := ({ dst := some 67, op := Op.move (Operand.tmp 13), type := 3, pos := "zsortanyfunc.go:398", after := #[], guard := none } : Oper)) (v := (.int .i64 (p : Int))) rfl (by kernel_rfl) (by kernel_rfl) (by kernel_rfl) (fun _ _ _ h => h) (Or.inl ⟨by rfl, by intro w; go_simp⟩) ?_
          simp only [Act.put, List.setIfInBounds_toArray, List.set_cons_zero, List.set_cons_succ]
          refine wpAny_take (i := 7) (oi := ({ dst := some 68, op := Op.binOp BinOp.add 3 (Operand.tmp 67) (Operand.const (Value.int IntKind.i64 1)) 3, type := 3, pos := "zsortanyfunc.go:398", after := #[{ on := 6, ground := Ground.data }], guard := none } : Oper)) (v := (.int .i64 (q : Int))) rfl (by kernel_rfl) (by kernel_rfl) (by kernel_rfl) (fun _ _ _ h => h) (Or.inl ⟨by rfl, by intro w; go_simp⟩) ?_
          simp only [Act.put, List.setIfInBounds_toArray, List.set_cons_zero, List.set_cons_succ]
          refine wpAny_take (i := 8) (oi := ({ dst := some 69, op := Op.indexAddr 34 (Operand.tmp 66) (Operand.tmp 68), type := 0, pos := "zsortanyfunc.go:398", after := #[{ on := 5, ground := Ground.data }, { on := 7, ground := Ground.data }], guard := none } : Oper)) (v := (.pointer (some ⟨g, q * 9, none⟩))) rfl (by kernel_rfl) (by kernel_rfl) (by kernel_rfl) (fun _ _ _ h => h) (Or.inl ⟨by rfl, by intro w; go_simp⟩) ?_
          simp only [Act.put, List.setIfInBounds_toArray, List.set_cons_zero, List.set_cons_succ]
          refine wpAny_take (i := 10) (oi := ({ dst := some 71, op := Op.move (Operand.tmp 0), type := 34, pos := "zsortanyfunc.go:398", after := #[], guard := none } : Oper)) (v := (.slice (some ⟨g, 0, none⟩) N C)) rfl (by kernel_rfl) (by kernel_rfl) (by kernel_rfl) (fun _ _ _ h => h) (Or.inl ⟨by rfl, by intro w; go_simp⟩) ?_
          simp only [Act.put, List.setIfInBounds_toArray, List.set_cons_zero, List.set_cons_succ]
          refine wpAny_take (i := 11) (oi := ({ dst := some 72, op := Op.move (Operand.tmp 13), type := 3, pos := "zsortanyfunc.go:398", after := #[], guard := none } : Oper)) (v := (.int .i64 (p : Int))) rfl (by kernel_rfl) (by kernel_rfl) (by kernel_rfl) (fun _ _ _ h => h) (Or.inl ⟨by rfl, by intro w; go_simp⟩) ?_
          simp only [Act.put, List.setIfInBounds_toArray, List.set_cons_zero, List.set_cons_succ]
          refine wpAny_take (i := 12) (oi := ({ dst := some 73, op := Op.indexAddr 34 (Operand.tmp 71) (Operand.tmp 72), type := 0, pos := "zsortanyfunc.go:398", after := #[{ on := 10, ground := Ground.data }, { on := 11, ground := Ground.data }], guard := none } : Oper)) (v := (.pointer (some ⟨g, p * 9, none⟩))) rfl (by kernel_rfl) (by kernel_rfl) (by kernel_rfl) (fun _ _ _ h => h) (Or.inl ⟨by rfl, by intro w; go_simp⟩) ?_
          simp only [Act.put, List.setIfInBounds_toArray, List.set_cons_zero, List.set_cons_succ]
          refine wpAny_ready (rs := [9, 13]) (by kernel_rfl) (by simp) ?_
          refine AllReady.cons (o := ({ dst := some 70, op := Op.load 53 (Operand.tmp 69), type := 53, pos := "zsortanyfunc.go:398", after := #[{ on := 8, ground := Ground.data }], guard := none } : Oper)) rfl (fun K hK => ?_) (AllReady.cons (o := ({ dst := some 74, op := Op.load 53 (Operand.tmp 73), type := 53, pos := "zsortanyfunc.go:398", after := #[{ on := 12, ground := Ground.data }], guard := none } : Oper)) rfl (fun K hK => ?_) AllReady.nil)
          · rw [if_pos (by rfl)]
            with_reducible refine wp_load_mid 53 (.tmp 69) ?_ g (q * 9) ?_ y.cells _ (HR1.out.row.range HY.out) Try.underlying53 rfl (info_credL _) ?_
            · rfl
            · rfl
            refine hK _ _ ?_
            clear hK K
            simp only [Act.put, List.setIfInBounds_toArray, List.set_cons_zero, List.set_cons_succ]
            refine wpAny_ready (rs := [13]) (by kernel_rfl) (by simp) ?_
            refine AllReady.cons (o := ({ dst := some 74, op := Op.load 53 (Operand.tmp 73), type := 53, pos := "zsortanyfunc.go:398", after := #[{ on := 12, ground := Ground.data }], guard := none } : Oper)) rfl (fun K hK => ?_) AllReady.nil
            rw [if_pos (by rfl)]
            with_reducible refine wp_load_mid 53 (.tmp 73) ?_ g (p * 9) ?_ x.cells _ (HR1.out.row.range HX2.out) Try.underlying53 rfl (info_credL _) ?_
            · rfl
            · rfl
            refine hK _ _ ?_
            clear hK K
            simp only [Act.put, List.setIfInBounds_toArray, List.set_cons_zero, List.set_cons_succ]
            refine wpAny_take (i := 14) (oi := ({ dst := some 75, op := Op.indexAddr 34 (Operand.tmp 61) (Operand.tmp 62), type := 0, pos := "zsortanyfunc.go:398", after := #[{ on := 0, ground := Ground.data }, { on := 1, ground := Ground.data }, { on := 0, ground := Ground.phase }, { on := 1, ground := Ground.phase }, { on := 2, ground := Ground.textOnly Departure.lateStores }, { on := 3, ground := Ground.textOnly Departure.lateStores }, { on := 4, ground := Ground.textOnly Departure.lateStores }, { on := 5, ground := Ground.phase }, { on := 6, ground := Ground.phase }, { on := 7, ground := Ground.phase }, { on := 8, ground := Ground.phase }, { on := 9, ground := Ground.phase }, { on := 10, ground := Ground.textOnly Departure.lateStores }, { on := 11, ground := Ground.textOnly Departure.lateStores }, { on := 12, ground := Ground.textOnly Departure.lateStoresUnsure }, { on := 13, ground := Ground.phase }], guard := none } : Oper)) (v := (.pointer (some ⟨g, p * 9, none⟩))) rfl (by kernel_rfl) (by kernel_rfl) (by kernel_rfl) (fun _ _ _ h => h) (Or.inl ⟨by rfl, by intro w; go_simp⟩) ?_
            simp only [Act.put, List.setIfInBounds_toArray, List.set_cons_zero, List.set_cons_succ]
            refine wpAny_ready (rs := [15]) (by kernel_rfl) (by simp) ?_
            refine AllReady.cons (o := ({ dst := none, op := Op.store 53 (Operand.tmp 75) (Operand.tmp 70), type := 0, pos := "zsortanyfunc.go:398", after := #[{ on := 14, ground := Ground.data }, { on := 9, ground := Ground.data }, { on := 0, ground := Ground.phase }, { on := 1, ground := Ground.phase }, { on := 2, ground := Ground.textOnly Departure.lateStores }, { on := 3, ground := Ground.textOnly Departure.lateStores }, { on := 4, ground := Ground.textOnly Departure.lateStores }, { on := 5, ground := Ground.phase }, { on := 6, ground := Ground.phase }, { on := 7, ground := Ground.phase }, { on := 8, ground := Ground.phase }, { on := 9, ground := Ground.phase }, { on := 10, ground := Ground.textOnly Departure.lateStores }, { on := 11, ground := Ground.textOnly Departure.lateStores }, { on := 12, ground := Ground.textOnly Departure.lateStoresUnsure }, { on := 13, ground := Ground.phase }], guard := none } : Oper)) rfl (fun K hK => ?_) AllReady.nil
            rw [if_pos (by rfl)]
            with_reducible refine wp_store_mid 53 (.tmp 75) (.tmp 70) ?_ g (p * 9) (y.cells).toArray ?_ ?_ (HR1.out.row.thereC (by have := HCL.out; omega) y) (info_credC _) (one_credC _) ?_
            · rfl
            · rfl
            · rfl
            refine hK _ _ ?_
            clear hK K
            simp only [Act.put, List.toList_toArray]
            refine wpAny_take (i := 16) (oi := ({ dst := some 76, op := Op.indexAddr 34 (Operand.tmp 63) (Operand.tmp 65), type := 0, pos := "zsortanyfunc.go:398", after := #[{ on := 2, ground := Ground.data }, { on := 4, ground := Ground.data }, { on := 0, ground := Ground.phase }, { on := 1, ground := Ground.phase }, { on := 2, ground := Ground.phase }, { on := 3, ground := Ground.phase }, { on := 4, ground := Ground.phase }, { on := 5, ground := Ground.phase }, { on := 6, ground := Ground.phase }, { on := 7, ground := Ground.phase }, { on := 8, ground := Ground.phase }, { on := 9, ground := Ground.phase }, { on := 10, ground := Ground.phase }, { on := 11, ground := Ground.phase }, { on := 12, ground := Ground.phase }, { on := 13, ground := Ground.phase }, { on := 14, ground := Ground.phase }, { on := 15, ground := Ground.phase }], guard := none } : Oper)) (v := (.pointer (some ⟨g, q * 9, none⟩))) rfl (by kernel_rfl) (by kernel_rfl) (by kernel_rfl) (fun _ _ _ h => h) (Or.inl ⟨by rfl, by intro w; go_simp⟩) ?_
            simp only [Act.put, List.setIfInBounds_toArray, List.set_cons_zero, List.set_cons_succ]
            refine wpAny_ready (rs := [17]) (by kernel_rfl) (by simp) ?_
            refine AllReady.cons (o := ({ dst := none, op := Op.store 53 (Operand.tmp 76) (Operand.tmp 74), type := 0, pos := "zsortanyfunc.go:398", after := #[{ on := 16, ground := Ground.data }, { on := 13, ground := Ground.data }, { on := 15, ground := Ground.chain }, { on := 0, ground := Ground.phase }, { on := 1, ground := Ground.phase }, { on := 2, ground := Ground.phase }, { on := 3, ground := Ground.phase }, { on := 4, ground := Ground.phase }, { on := 5, ground := Ground.phase }, { on := 6, ground := Ground.phase }, { on := 7, ground := Ground.phase }, { on := 8, ground := Ground.phase }, { on := 9, ground := Ground.phase }, { on := 10, ground := Ground.phase }, { on := 11, ground := Ground.phase }, { on := 12, ground := Ground.phase }, { on := 13, ground := Ground.phase }, { on := 14, ground := Ground.phase }, { on := 15, ground := Ground.phase }], guard := none } : Oper)) rfl (fun K hK => ?_) AllReady.nil
            rw [if_pos (by rfl)]
            with_reducible refine wp_store_mid 53 (.tmp 76) (.tmp 74) ?_ g (q * 9) (x.cells).toArray ?_ ?_ (HRs1.out.row.thereC (by rw [List.length_set]; have := HCL.out; omega) x) (info_credC _) (one_credC _) ?_
            · rfl
            · rfl
            · rfl
            refine hK _ _ ?_
            clear hK K
            simp only [Act.put, List.toList_toArray]
            refine wpAny_done (by kernel_rfl) ?_ _
            go_wp2
            go_roundw
            case rel => exact ⟨q, _, by first | rfl | go_num | rw [hq'] | simp [hq'], by have := HQ.out; omega, by have := HQ.out; omega, HRs2.out, HU2, HM2⟩
            case measure => simp [intOf]; have := HQ.out; omega
          · rw [if_pos (by rfl)]
            with_reducible refine wp_load_mid 53 (.tmp 73) ?_ g (p * 9) ?_ x.cells _ (HR1.out.row.range HX2.out) Try.underlying53 rfl (info_credL _) ?_
            · rfl
            · rfl
            refine hK _ _ ?_
            clear hK K
            simp only [Act.put, List.setIfInBounds_toArray, List.set_cons_zero, List.set_cons_succ]
            refine wpAny_ready (rs := [9]) (by kernel_rfl) (by simp) ?_
            refine AllReady.cons (o := ({ dst := some 70, op := Op.load 53 (Operand.tmp 69), type := 53, pos := "zsortanyfunc.go:398", after := #[{ on := 8, ground := Ground.data }], guard := none } : Oper)) rfl (fun K hK => ?_) AllReady.nil
            rw [if_pos (by rfl)]
            with_reducible refine wp_load_mid 53 (.tmp 69) ?_ g (q * 9) ?_ y.cells _ (HR1.out.row.range HY.out) Try.underlying53 rfl (info_credL _) ?_
            · rfl
            · rfl
            refine hK _ _ ?_
            clear hK K
            simp only [Act.put, List.setIfInBounds_toArray, List.set_cons_zero, List.set_cons_succ]
            refine wpAny_take (i := 14) (oi := ({ dst := some 75, op := Op.indexAddr 34 (Operand.tmp 61) (Operand.tmp 62), type := 0, pos := "zsortanyfunc.go:398", after := #[{ on := 0, ground := Ground.data }, { on := 1, ground := Ground.data }, { on := 0, ground := Ground.phase }, { on := 1, ground := Ground.phase }, { on := 2, ground := Ground.textOnly Departure.lateStores }, { on := 3, ground := Ground.textOnly Departure.lateStores }, { on := 4, ground := Ground.textOnly Departure.lateStores }, { on := 5, ground := Ground.phase }, { on := 6, ground := Ground.phase }, { on := 7, ground := Ground.phase }, { on := 8, ground := Ground.phase }, { on := 9, ground := Ground.phase }, { on := 10, ground := Ground.textOnly Departure.lateStores }, { on := 11, ground := Ground.textOnly Departure.lateStores }, { on := 12, ground := Ground.textOnly Departure.lateStoresUnsure }, { on := 13, ground := Ground.phase }], guard := none } : Oper)) (v := (.pointer (some ⟨g, p * 9, none⟩))) rfl (by kernel_rfl) (by kernel_rfl) (by kernel_rfl) (fun _ _ _ h => h) (Or.inl ⟨by rfl, by intro w; go_simp⟩) ?_
            simp only [Act.put, List.setIfInBounds_toArray, List.set_cons_zero, List.set_cons_succ]
            refine wpAny_ready (rs := [15]) (by kernel_rfl) (by simp) ?_
            refine AllReady.cons (o := ({ dst := none, op := Op.store 53 (Operand.tmp 75) (Operand.tmp 70), type := 0, pos := "zsortanyfunc.go:398", after := #[{ on := 14, ground := Ground.data }, { on := 9, ground := Ground.data }, { on := 0, ground := Ground.phase }, { on := 1, ground := Ground.phase }, { on := 2, ground := Ground.textOnly Departure.lateStores }, { on := 3, ground := Ground.textOnly Departure.lateStores }, { on := 4, ground := Ground.textOnly Departure.lateStores }, { on := 5, ground := Ground.phase }, { on := 6, ground := Ground.phase }, { on := 7, ground := Ground.phase }, { on := 8, ground := Ground.phase }, { on := 9, ground := Ground.phase }, { on := 10, ground := Ground.textOnly Departure.lateStores }, { on := 11, ground := Ground.textOnly Departure.lateStores }, { on := 12, ground := Ground.textOnly Departure.lateStoresUnsure }, { on := 13, ground := Ground.phase }], guard := none } : Oper)) rfl (fun K hK => ?_) AllReady.nil
            rw [if_pos (by rfl)]
            with_reducible refine wp_store_mid 53 (.tmp 75) (.tmp 70) ?_ g (p * 9) (y.cells).toArray ?_ ?_ (HR1.out.row.thereC (by have := HCL.out; omega) y) (info_credC _) (one_credC _) ?_
            · rfl
            · rfl
            · rfl
            refine hK _ _ ?_
            clear hK K
            simp only [Act.put, List.toList_toArray]
            refine wpAny_take (i := 16) (oi := ({ dst := some 76, op := Op.indexAddr 34 (Operand.tmp 63) (Operand.tmp 65), type := 0, pos := "zsortanyfunc.go:398", after := #[{ on := 2, ground := Ground.data }, { on := 4, ground := Ground.data }, { on := 0, ground := Ground.phase }, { on := 1, ground := Ground.phase }, { on := 2, ground := Ground.phase }, { on := 3, ground := Ground.phase }, { on := 4, ground := Ground.phase }, { on := 5, ground := Ground.phase }, { on := 6, ground := Ground.phase }, { on := 7, ground := Ground.phase }, { on := 8, ground := Ground.phase }, { on := 9, ground := Ground.phase }, { on := 10, ground := Ground.phase }, { on := 11, ground := Ground.phase }, { on := 12, ground := Ground.phase }, { on := 13, ground := Ground.phase }, { on := 14, ground := Ground.phase }, { on := 15, ground := Ground.phase }], guard := none } : Oper)) (v := (.pointer (some ⟨g, q * 9, none⟩))) rfl (by kernel_rfl) (by kernel_rfl) (by kernel_rfl) (fun _ _ _ h => h) (Or.inl ⟨by rfl, by intro w; go_simp⟩) ?_
            simp only [Act.put, List.setIfInBounds_toArray, List.set_cons_zero, List.set_cons_succ]
            refine wpAny_ready (rs := [17]) (by kernel_rfl) (by simp) ?_
            refine AllReady.cons (o := ({ dst := none, op := Op.store 53 (Operand.tmp 76) (Operand.tmp 74), type := 0, pos := "zsortanyfunc.go:398", after := #[{ on := 16, ground := Ground.data }, { on := 13, ground := Ground.data }, { on := 15, ground := Ground.chain }, { on := 0, ground := Ground.phase }, { on := 1, ground := Ground.phase }, { on := 2, ground := Ground.phase }, { on := 3, ground := Ground.phase }, { on := 4, ground := Ground.phase }, { on := 5, ground := Ground.phase }, { on := 6, ground := Ground.phase }, { on := 7, ground := Ground.phase }, { on := 8, ground := Ground.phase }, { on := 9, ground := Ground.phase }, { on := 10, ground := Ground.phase }, { on := 11, ground := Ground.phase }, { on := 12, ground := Ground.phase }, { on := 13, ground := Ground.phase }, { on := 14, ground := Ground.phase }, { on := 15, ground := Ground.phase }], guard := none } : Oper)) rfl (fun K hK => ?_) AllReady.nil
            rw [if_pos (by rfl)]
            with_reducible refine wp_store_mid 53 (.tmp 76) (.tmp 74) ?_ g (q * 9) (x.cells).toArray ?_ ?_ (HRs1.out.row.thereC (by rw [List.length_set]; have := HCL.out; omega) x) (info_credC _) (one_credC _) ?_
            · rfl
            · rfl
            · rfl
            refine hK _ _ ?_
            clear hK K
            simp only [Act.put, List.toList_toArray]
            refine wpAny_done (by kernel_rfl) ?_ _
            go_wp2
            go_roundw
            case rel => exact ⟨q, _, by first | rfl | go_num | rw [hq'] | simp [hq'], by have := HQ.out; omega, by have := HQ.out; omega, HRs2.out, HU2, HM2⟩
            case measure => simp [intOf]; have := HQ.out; omega
        · obtain rfl : p = i1 := by omega
          have hlt' : ¬ (p : Int) < (p : Int) := by omega
          go_wp2
          refine bodyPost_ret (results_none rfl _ _ _) rfl ?_
          exact ⟨rfl, c2, R, HMX.out, HU.out.srt hi1b (by have := HM.out; subst this; exact HS.out) HLOW.out HHIGH.out⟩
end Go.Proofs.Ytkimhdcngagmaaa.Sh
