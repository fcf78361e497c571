/-
  slices.symMergeCmpFunc at credentials: one of the two parts a single credential.
-/
import Derived.Test.YtkimhdcngagmaaaJa17
import Derived.Test.YtkimhdcngagmaaaJa20
set_option linter.unusedVariables false
set_option linter.unusedSimpArgs false
namespace Go.Proofs.Ytkimhdcngagmaaa.Sh
open Go Go.RowKit
set_option linter.unusedSimpArgs false
set_option maxRecDepth 100000

set_option maxHeartbeats 16000000 in
theorem sym_last {w0 w : World} {B g C : Nat} {tl : List Value} (l : List Crd) (N a m b : Nat) (hN : l.length = N) (hNm : N ≤ 1000000000) (ham : a + 1 < m) (hm : b = m + 1) (hbN : b ≤ N) (h : Rw w0 w B g tl l) (hs : Srt a m l) :
    Calls Try.prog 66 #[.slice (some ⟨g, 0, none⟩) N C, .int .i64 a, .int .i64 m, .int .i64 b, .func (.func 56) #[] #[]] w fun e w' => e = .returned (.tuple #[]) ∧ ∃ l', Rw w0 w' B g tl l' ∧ Mix a b l l' ∧ Srt a b l' := by
  obtain ⟨x, hx⟩ : ∃ x, l[m]? = some x := ⟨_, List.getElem?_eq_getElem (by omega)⟩
  have e1 : ¬ (m : Int) - (a : Int) = 1 := by omega
  have e1b : ((m : Int) - (a : Int) == 1) = false := beq_eq_false_iff_ne.2 e1
  have e2 : (b : Int) - (m : Int) = 1 := by omega
  have g0 : (0 : Int) ≤ (m : Int) - (a : Int) := by omega
  have HX := hid hx
  have HN := hid hN
  have HR := hid h
  have HS := hid hs
  have HM := hid hm
  have hmN : (m : Int) < (N : Int) := by omega
  have wm := wrap_in (m : Int) (by omega)
  have am := addr_row g (m * 9)
  clear hN h hs hm hx
  go_enter Try.func66, Try.ntmps66
  go_wp2
  go_loopw [14, 15] (fun vi vj wr => ∃ (i j : Nat), vi = .int .i64 i ∧ vj = .int .i64 j ∧ a ≤ i ∧ i ≤ j ∧ j ≤ m ∧ Rw w0 wr B g tl l ∧ Hid (i = a ∨ ∃ u, l[i - 1]? = some u ∧ bef x u = false) ∧ Hid (j = m ∨ ∃ u, l[j]? = some u ∧ bef x u = true)) (fun vi vj _ => (intOf vj).toNat - (intOf vi).toNat)
  case atStart => exact ⟨a, m, rfl, rfl, Nat.le_refl _, by omega, Nat.le_refl _, HR.out, hid (.inl rfl), hid (.inl rfl)⟩
  case round =>
    obtain ⟨i, j, rfl, rfl, hi, hij, hj, R, HI, HJ⟩ := hrel
    by_cases hlt : i < j
    · have hlt' : (i : Int) < (j : Int) := by omega
      have hb1 : (j : Int) ≤ 1000000000 := by omega
      have hb2 : (i : Int) ≤ 1000000000 := by omega
      obtain ⟨q, hq⟩ : ∃ q, (i + j) / 2 = q := ⟨_, rfl⟩
      have hq' : ((i : Int) + (j : Int)) / 2 = (q : Int) := by omega
      have hqi : i ≤ q := by omega
      have hqj : q < j := by omega
      have hqN : (q : Int) < (N : Int) := by omega
      have wq := wrap_in (q : Int) (by omega)
      have aq := addr_row g (q * 9)
      obtain ⟨y, hy⟩ : ∃ y, l[q]? = some y := ⟨_, List.getElem?_eq_getElem (by rw [HN.out]; omega)⟩
      obtain ⟨c, hc⟩ : ∃ c, cmpI x y = c := ⟨_, rfl⟩
      obtain ⟨bb, hbb⟩ : ∃ b, bef x y = b := ⟨_, rfl⟩
      have hcb : decide (c < 0) = bb := by rw [← hc, cmpI_neg, hbb]
      have HCMP : Hid (∀ W, Calls Try.prog 56 #[.agg x.cells.toArray, .agg y.cells.toArray] W fun e w' => e = .returned (.int .i64 c) ∧ Below W.heap.size W w') := hid (fun W => hc ▸ cmpC_any x y W)
      have HB := hid hbb
      have HY := hid hy
      have HR1 := hid R.drew
      clear hc hbb hy hq R
      go_wp2_with fail
      refine wp_region_held_drew (S := (fun W => W.rangeAt g (m * 9) x.cells ∧ W.rangeAt g (q * 9) y.cells)) (by kernel_rfl) (⟨HR1.out.row.range HX.out, HR1.out.row.range HY.out⟩) (fun hHeld => ?_)
      refine wpAnyH_take (i := 0) (oi := ({ dst := some 92, op := Op.move (Operand.tmp 4), type := 84, pos := "zsortanyfunc.go:414", after := #[], guard := none } : Oper)) (v := (.func (.func 56) #[] #[])) rfl (by kernel_rfl) (by kernel_rfl) (by kernel_rfl) (fun _ _ _ h => h) (Or.inl ⟨by rfl, by intro w _; go_simp⟩) hHeld ?_
      simp only [Act.put, List.setIfInBounds_toArray, List.set_cons_zero, List.set_cons_succ]
      refine wpAnyH_take (i := 1) (oi := ({ dst := some 93, op := Op.move (Operand.tmp 0), type := 34, pos := "zsortanyfunc.go:414", after := #[], guard := none } : Oper)) (v := (.slice (some ⟨g, 0, none⟩) N C)) rfl (by kernel_rfl) (by kernel_rfl) (by kernel_rfl) (fun _ _ _ h => h) (Or.inl ⟨by rfl, by intro w _; go_simp⟩) hHeld ?_
      simp only [Act.put, List.setIfInBounds_toArray, List.set_cons_zero, List.set_cons_succ]
      refine wpAnyH_take (i := 2) (oi := ({ dst := some 94, op := Op.move (Operand.tmp 2), type := 3, pos := "zsortanyfunc.go:414", after := #[], guard := none } : Oper)) (v := (.int .i64 (m : Int))) rfl (by kernel_rfl) (by kernel_rfl) (by kernel_rfl) (fun _ _ _ h => h) (Or.inl ⟨by rfl, by intro w _; go_simp⟩) hHeld ?_
      simp only [Act.put, List.setIfInBounds_toArray, List.set_cons_zero, List.set_cons_succ]
      refine wpAnyH_take (i := 3) (oi := ({ dst := some 95, op := Op.indexAddr 34 (Operand.tmp 93) (Operand.tmp 94), type := 0, pos := "zsortanyfunc.go:414", after := #[{ on := 1, ground := Ground.data }, { on := 2, ground := Ground.data }], guard := none } : Oper)) (v := (.pointer (some ⟨g, m * 9, none⟩))) rfl (by kernel_rfl) (by kernel_rfl) (by kernel_rfl) (fun _ _ _ h => h) (Or.inl ⟨by rfl, by intro w _; go_simp⟩) hHeld ?_
      simp only [Act.put, List.setIfInBounds_toArray, List.set_cons_zero, List.set_cons_succ]
      refine wpAnyH_take (i := 4) (oi := ({ dst := some 96, op := Op.load 53 (Operand.tmp 95), type := 53, pos := "zsortanyfunc.go:414", after := #[{ on := 3, ground := Ground.data }], guard := none } : Oper)) (v := .agg x.cells.toArray) rfl (by kernel_rfl) (by kernel_rfl) (by kernel_rfl) (fun _ _ _ h => h) (yieldsIf_load_mid (by rfl) 53 (.tmp 95) rfl g (m * 9) rfl x.cells _ (fun _ h => h.1) Try.underlying53 rfl (info_credL _)) hHeld ?_
      simp only [Act.put, List.setIfInBounds_toArray, List.set_cons_zero, List.set_cons_succ]
      refine wpAnyH_take (i := 5) (oi := ({ dst := some 97, op := Op.move (Operand.tmp 0), type := 34, pos := "zsortanyfunc.go:414", after := #[], guard := none } : Oper)) (v := (.slice (some ⟨g, 0, none⟩) N C)) rfl (by kernel_rfl) (by kernel_rfl) (by kernel_rfl) (fun _ _ _ h => h) (Or.inl ⟨by rfl, by intro w _; go_simp⟩) hHeld ?_
      simp only [Act.put, List.setIfInBounds_toArray, List.set_cons_zero, List.set_cons_succ]
      refine wpAnyH_take (i := 6) (oi := ({ dst := some 98, op := Op.move (Operand.tmp 16), type := 3, pos := "zsortanyfunc.go:414", after := #[], guard := none } : Oper)) (v := (.int .i64 (q : Int))) rfl (by kernel_rfl) (by kernel_rfl) (by kernel_rfl) (fun _ _ _ h => h) (Or.inl ⟨by rfl, by intro w _; go_simp⟩) hHeld ?_
      simp only [Act.put, List.setIfInBounds_toArray, List.set_cons_zero, List.set_cons_succ]
      refine wpAnyH_take (i := 7) (oi := ({ dst := some 99, op := Op.indexAddr 34 (Operand.tmp 97) (Operand.tmp 98), type := 0, pos := "zsortanyfunc.go:414", after := #[{ on := 5, ground := Ground.data }, { on := 6, ground := Ground.data }], guard := none } : Oper)) (v := (.pointer (some ⟨g, q * 9, none⟩))) rfl (by kernel_rfl) (by kernel_rfl) (by kernel_rfl) (fun _ _ _ h => h) (Or.inl ⟨by rfl, by intro w _; go_simp⟩) hHeld ?_
      simp only [Act.put, List.setIfInBounds_toArray, List.set_cons_zero, List.set_cons_succ]
      refine wpAnyH_take (i := 8) (oi := ({ dst := some 100, op := Op.load 53 (Operand.tmp 99), type := 53, pos := "zsortanyfunc.go:414", after := #[{ on := 7, ground := Ground.data }], guard := none } : Oper)) (v := .agg y.cells.toArray) rfl (by kernel_rfl) (by kernel_rfl) (by kernel_rfl) (fun _ _ _ h => h) (yieldsIf_load_mid (by rfl) 53 (.tmp 99) rfl g (q * 9) rfl y.cells _ (fun _ h => h.2) Try.underlying53 rfl (info_credL _)) hHeld ?_
      simp only [Act.put, List.setIfInBounds_toArray, List.set_cons_zero, List.set_cons_succ]
      refine wpAnyH_ready (rs := [9]) (by kernel_rfl) (by simp) ?_
      refine AllReadyH.cons (o := ({ dst := some 101, op := Op.call { callee := Callee.value (Operand.tmp 92), args := #[Operand.tmp 96, Operand.tmp 100], argTypes := #[53, 53] }, type := 3, pos := "zsortanyfunc.go:414", after := #[{ on := 0, ground := Ground.data }, { on := 4, ground := Ground.data }, { on := 8, ground := Ground.data }], guard := none } : Oper)) rfl (fun K hK => ?_) AllReadyH.nil
      rw [if_pos (by rfl)]
      go_simp
      refine (HCMP.out _).mono ?_
      rintro er w2 ⟨rfl, bl⟩
      have HR2 := hid (HR1.out.kept bl)
      clear bl
      refine hK.out _ _ (⟨HR2.out.row.range HX.out, HR2.out.row.range HY.out⟩) (fun hHeld2 => ?_)
      clear hK K hHeld
      try simp only [Act.put, List.setIfInBounds_toArray, List.set_cons_zero, List.set_cons_succ]
      refine wpAnyH_take (i := 10) (oi := ({ dst := some 102, op := Op.binOp BinOp.lss 3 (Operand.tmp 101) (Operand.const (Value.int IntKind.i64 0)) 3, type := 4, pos := "zsortanyfunc.go:414", after := #[{ on := 9, ground := Ground.data }], guard := none } : Oper)) (v := (.bool bb)) rfl (by kernel_rfl) (by kernel_rfl) (by kernel_rfl) (fun _ _ _ h => h) (Or.inl ⟨by rfl, by intro w _; go_simp⟩) hHeld2 ?_
      simp only [Act.put, List.setIfInBounds_toArray, List.set_cons_zero, List.set_cons_succ]
      refine wpAnyH_take (i := 11) (oi := ({ dst := some 103, op := Op.unOp UnOp.not 4 (Operand.tmp 102), type := 4, pos := "zsortanyfunc.go:414", after := #[{ on := 10, ground := Ground.data }], guard := none } : Oper)) (v := (.bool (!bb))) rfl (by kernel_rfl) (by kernel_rfl) (by kernel_rfl) (fun _ _ _ h => h) (Or.inl ⟨by rfl, by intro w _; go_simp⟩) hHeld2 ?_
      simp only [Act.put, List.setIfInBounds_toArray, List.set_cons_zero, List.set_cons_succ]
      refine wpAnyH_done (by kernel_rfl) ?_ _
      clear hHeld2
      cases bb with
      | false =>
        have HI2 : Hid (q + 1 = a ∨ ∃ u, l[q + 1 - 1]? = some u ∧ bef x u = false) := hid (.inr ⟨y, HY.out, HB.out⟩)
        go_wp2
        go_roundw
        case rel => exact ⟨q + 1, j, by go_num, rfl, by omega, by omega, hj, HR2.out, HI2, HJ⟩
        case measure => simp [intOf]; omega
      | true =>
        have HJ2 : Hid (q = m ∨ ∃ u, l[q]? = some u ∧ bef x u = true) := hid (.inr ⟨y, HY.out, HB.out⟩)
        go_wp2
        go_roundw
        case rel => exact ⟨i, q, rfl, rfl, hi, hqi, by omega, HR2.out, HI, HJ2⟩
        case measure => simp [intOf]; omega
    · obtain rfl : i = j := by omega
      have HHIGH : Hid (∀ t y, i ≤ t → t < m → l[t]? = some y → bef x y = true) := hid (fun t y g1 g2 gy => by
        rcases HJ.out with h | ⟨u, hu, hb⟩
        · omega
        · rcases Nat.lt_or_ge i t with g | g
          · exact bef_of_not hb (HS.out i t u y hi g g2 hu gy)
          · obtain rfl : t = i := by omega
            rw [hu] at gy; injection gy with gy; subst gy; exact hb)
      have HLOW : Hid (∀ t y, a ≤ t → t < i → l[t]? = some y → bef x y = false) := hid (fun t y g1 g2 gy => by
        rcases HI.out with h | ⟨u, hu, hb⟩
        · omega
        · rcases Nat.lt_or_ge t (i - 1) with g | g
          · exact not_bef_trans hb (HS.out t (i - 1) y u g1 g (by omega) gy hu)
          · obtain rfl : t = i - 1 := by omega
            rw [hu] at gy; injection gy with gy; subst gy; exact hb)
      have HRo := hid R
      obtain ⟨wo, hwo⟩ : ∃ z, z = wr := ⟨_, rfl⟩
      subst hwo
      clear R HI HJ hij hlt
      go_wp2
      go_loopw [17] (fun v wi => ∃ (k : Nat) (c2 : List Crd), v = .int .i64 k ∧ i ≤ k ∧ k ≤ m ∧ Rw w0 wi B g tl c2 ∧ Hid (Dn l c2 k m x) ∧ Hid (Mix a b l c2)) (fun v _ => (intOf v).toNat)
      case atStart => exact ⟨m, l, rfl, hj, Nat.le_refl _, HRo.out, hid (Dn.start HX.out), hid (Mix.refl _ _ _)⟩
      case round =>
        obtain ⟨q, c2, rfl, hiq, hqm, R, HU, HMX⟩ := hrel
        have hcl : c2.length = N := by rw [HU.out.len, HN.out]
        by_cases hlt : i < q
        · have hlt' : (i : Int) < (q : Int) := by omega
          obtain ⟨p, hq⟩ : ∃ p, p + 1 = q := ⟨q - 1, by omega⟩
          have f1 : (q : Int) - 1 = (p : Int) := by omega
          have hpN : (p : Int) < (N : Int) := by omega
          have hqN : (q : Int) < (N : Int) := by omega
          have wp := wrap_in (p : Int) (by omega)
          have wq := wrap_in (q : Int) (by omega)
          have ap := addr_row g (p * 9)
          have aq := addr_row g (q * 9)
          obtain ⟨y, hy⟩ : ∃ y, c2[p]? = some y := ⟨_, List.getElem?_eq_getElem (by omega)⟩
          have hyl : l[p]? = some y := by rw [← HU.out.out p (.inl (by omega))]; exact hy
          have hyb := HHIGH.out p y (by omega) (by omega) hyl
          have HX2 := hid HU.out.at_
          have HY := hid hy
          have HR1 := hid R.drew
          have HCL := hid hcl
          have HRs1 : Hid (Rw w0 (wr.drew.setCells g (q * 9) y.cells) B g tl (c2.set q y)) := hid (HR1.out.set (by omega) y)
          have HRs2 : Hid (Rw w0 ((wr.drew.setCells g (q * 9) y.cells).setCells g (p * 9) x.cells) B g tl ((c2.set q y).set p x)) := hid (HRs1.out.set (by rw [List.length_set]; omega) x)
          have HU2 : Hid (Dn l ((c2.set q y).set p x) p m x) := hid (by
            have h := HU.out
            rw [← hq] at h ⊢
            exact h.step hy)
          have HM2 : Hid (Mix a b l ((c2.set q y).set p x)) := hid (by
            have h := HU.out.at_
            rw [← hq] at h ⊢
            exact HMX.out.trans ((mix_adj' hy h hyb).wide (by omega) (by have := HM.out; omega)))
          have HQ := hid hq
          clear hy hyl hyb R hcl hq
          go_wp2_with fail
          refine wp_region_any (by kernel_rfl) ?_
          change wpAny _ _ _ _ _ _ _ (World.drew _)
          refine wpAny_take (i := 0) (oi := ({ dst := some 113, op := Op.move (Operand.tmp 0), type := 34, pos := "zsortanyfunc.go:422", after := #[], guard := none } : Oper)) (v := (.slice (some ⟨g, 0, none⟩) N C)) rfl (by kernel_rfl) (by kernel_rfl) (by kernel_rfl) (fun _ _ _ h => h) (Or.inl ⟨by rfl, by intro w; go_simp⟩) ?_
          simp only [Act.put, List.setIfInBounds_toArray, List.set_cons_zero, List.set_cons_succ]
          refine wpAny_take (i := 1) (oi := ({ dst := some 114, op := Op.move (Operand.tmp 17), type := 3, pos := "zsortanyfunc.go:422", after := #[], guard := none } : Oper)) (v := (.int .i64 (q : Int))) rfl (by kernel_rfl) (by kernel_rfl) (by kernel_rfl) (fun _ _ _ h => h) (Or.inl ⟨by rfl, by intro w; go_simp⟩) ?_
          simp only [Act.put, List.setIfInBounds_toArray, List.set_cons_zero, List.set_cons_succ]
          refine wpAny_take (i := 2) (oi := ({ dst := some 115, op := Op.move (Operand.tmp 0), type := 34, pos := "zsortanyfunc.go:422", after := #[{ on := 15, ground := Ground.gcOnly Departure.lateStores }], guard := none } : Oper)) (v := (.slice (some ⟨g, 0, none⟩) N C)) rfl (by kernel_rfl) (by kernel_rfl) (by kernel_rfl) (fun _ _ _ h => h) (Or.inl ⟨by rfl, by intro w; go_simp⟩) ?_
          simp only [Act.put, List.setIfInBounds_toArray, List.set_cons_zero, List.set_cons_succ]
          refine wpAny_take (i := 3) (oi := ({ dst := some 116, op := Op.move (Operand.tmp 17), type := 3, pos := "zsortanyfunc.go:422", after := #[{ on := 15, ground := Ground.gcOnly Departure.lateStores }], guard := none } : Oper)) (v := (.int .i64 (q : Int))) rfl (by kernel_rfl) (by kernel_rfl) (by kernel_rfl) (fun _ _ _ h => h) (Or.inl ⟨by rfl, by intro w; go_simp⟩) ?_
          simp only [Act.put, List.setIfInBounds_toArray, List.set_cons_zero, List.set_cons_succ]
          refine wpAny_take (i := 4) (oi := ({ dst := some 117, op := Op.binOp BinOp.sub 3 (Operand.tmp 116) (Operand.const (Value.int IntKind.i64 1)) 3, type := 3, pos := "zsortanyfunc.go:422", after := #[{ on := 3, ground := Ground.data }, { on := 15, ground := Ground.gcOnly Departure.lateStores }], guard := none } : Oper)) (v := (.int .i64 (p : Int))) rfl (by kernel_rfl) (by kernel_rfl) (by kernel_rfl) (fun _ _ _ h => h) (Or.inl ⟨by rfl, by intro w; go_simp⟩) ?_
          simp only [Act.put, List.setIfInBounds_toArray, List.set_cons_zero, List.set_cons_succ]
          refine wpAny_take (i := 5) (oi := ({ dst := some 118, op := Op.move (Operand.tmp 0), type := 34, pos := "zsortanyfunc.go:422", after := #[], guard := none } : Oper)) (v := (.slice (some ⟨g, 0, none⟩) N C)) rfl (by kernel_rfl) (by kernel_rfl) (by kernel_rfl) (fun _ _ _ h => h) (Or.inl ⟨by rfl, by intro w; go_simp⟩) ?_
          simp only [Act.put, List.setIfInBounds_toArray, List.set_cons_zero, List.set_cons_succ]
          refine wpAny_take (i := 6) (oi := ({ dst := some 119, op := Op.move (Operand.tmp 17), type := 3, pos := "zsortanyfunc.go:422", after := #[], guard := none } : Oper)) (v := (.int .i64 (q : Int))) rfl (by kernel_rfl) (by kernel_rfl) (by kernel_rfl) (fun _ _ _ h => h) (Or.inl ⟨by rfl, by intro w; go_simp⟩) ?_
          simp only [Act.put, List.setIfInBounds_toArray, List.set_cons_zero, List.set_cons_succ]
          refine wpAny_take (i := 7) (oi := ({ dst := some 120, op := Op.binOp BinOp.sub 3 (Operand.tmp 119) (Operand.const (Value.int IntKind.i64 1)) 3, type := 3, pos := "zsortanyfunc.go:422", after := #[{ on := 6, ground := Ground.data }], guard := none } : Oper)) (v := (.int .i64 (p : Int))) rfl (by kernel_rfl) (by kernel_rfl) (by kernel_rfl) (fun _ _ _ h => h) (Or.inl ⟨by rfl, by intro w; go_simp⟩) ?_
          simp only [Act.put, List.setIfInBounds_toArray, List.set_cons_zero, List.set_cons_succ]
          refine wpAny_take (i := 8) (oi := ({ dst := some 121, op := Op.indexAddr 34 (Operand.tmp 118) (Operand.tmp 120), type := 0, pos := "zsortanyfunc.go:422", after := #[{ on := 5, ground := Ground.data }, { on := 7, ground := Ground.data }], guard := none } : Oper)) (v := (.pointer (some ⟨g, p * 9, none⟩))) rfl (by kernel_rfl) (by kernel_rfl) (by kernel_rfl) (fun _ _ _ h => h) (Or.inl ⟨by rfl, by intro w; go_simp⟩) ?_
          simp only [Act.put, List.setIfInBounds_toArray, List.set_cons_zero, List.set_cons_succ]
          refine wpAny_take (i := 10) (oi := ({ dst := some 123, op := Op.move (Operand.tmp 0), type := 34, pos := "zsortanyfunc.go:422", after := #[], guard := none } : Oper)) (v := (.slice (some ⟨g, 0, none⟩) N C)) rfl (by kernel_rfl) (by kernel_rfl) (by kernel_rfl) (fun _ _ _ h => h) (Or.inl ⟨by rfl, by intro w; go_simp⟩) ?_
          simp only [Act.put, List.setIfInBounds_toArray, List.set_cons_zero, List.set_cons_succ]
          refine wpAny_take (i := 11) (oi := ({ dst := some 124, op := Op.move (Operand.tmp 17), type := 3, pos := "zsortanyfunc.go:422", after := #[], guard := none } : Oper)) (v := (.int .i64 (q : Int))) rfl (by kernel_rfl) (by kernel_rfl) (by kernel_rfl) (fun _ _ _ h => h) (Or.inl ⟨by rfl, by intro w; go_simp⟩) ?_
          simp only [Act.put, List.setIfInBounds_toArray, List.set_cons_zero, List.set_cons_succ]
          refine wpAny_take (i := 12) (oi := ({ dst := some 125, op := Op.indexAddr 34 (Operand.tmp 123) (Operand.tmp 124), type := 0, pos := "zsortanyfunc.go:422", after := #[{ on := 10, ground := Ground.data }, { on := 11, ground := Ground.data }], guard := none } : Oper)) (v := (.pointer (some ⟨g, q * 9, none⟩))) rfl (by kernel_rfl) (by kernel_rfl) (by kernel_rfl) (fun _ _ _ h => h) (Or.inl ⟨by rfl, by intro w; go_simp⟩) ?_
          simp only [Act.put, List.setIfInBounds_toArray, List.set_cons_zero, List.set_cons_succ]
          refine wpAny_ready (rs := [9, 13]) (by kernel_rfl) (by simp) ?_
          refine AllReady.cons (o := ({ dst := some 122, op := Op.load 53 (Operand.tmp 121), type := 53, pos := "zsortanyfunc.go:422", after := #[{ on := 8, ground := Ground.data }], guard := none } : Oper)) rfl (fun K hK => ?_) (AllReady.cons (o := ({ dst := some 126, op := Op.load 53 (Operand.tmp 125), type := 53, pos := "zsortanyfunc.go:422", after := #[{ on := 12, ground := Ground.data }], guard := none } : Oper)) rfl (fun K hK => ?_) AllReady.nil)
          · rw [if_pos (by rfl)]
            with_reducible refine wp_load_mid 53 (.tmp 121) ?_ g (p * 9) ?_ y.cells _ (HR1.out.row.range HY.out) Try.underlying53 rfl (info_credL _) ?_
            · rfl
            · rfl
            refine hK _ _ ?_
            clear hK K
            simp only [Act.put, List.setIfInBounds_toArray, List.set_cons_zero, List.set_cons_succ]
            refine wpAny_ready (rs := [13]) (by kernel_rfl) (by simp) ?_
            refine AllReady.cons (o := ({ dst := some 126, op := Op.load 53 (Operand.tmp 125), type := 53, pos := "zsortanyfunc.go:422", after := #[{ on := 12, ground := Ground.data }], guard := none } : Oper)) rfl (fun K hK => ?_) AllReady.nil
            rw [if_pos (by rfl)]
            with_reducible refine wp_load_mid 53 (.tmp 125) ?_ g (q * 9) ?_ x.cells _ (HR1.out.row.range HX2.out) Try.underlying53 rfl (info_credL _) ?_
            · rfl
            · rfl
            refine hK _ _ ?_
            clear hK K
            simp only [Act.put, List.setIfInBounds_toArray, List.set_cons_zero, List.set_cons_succ]
            refine wpAny_take (i := 14) (oi := ({ dst := some 127, op := Op.indexAddr 34 (Operand.tmp 113) (Operand.tmp 114), type := 0, pos := "zsortanyfunc.go:422", after := #[{ on := 0, ground := Ground.data }, { on := 1, ground := Ground.data }, { on := 0, ground := Ground.phase }, { on := 1, ground := Ground.phase }, { on := 2, ground := Ground.textOnly Departure.lateStores }, { on := 3, ground := Ground.textOnly Departure.lateStores }, { on := 4, ground := Ground.textOnly Departure.lateStores }, { on := 5, ground := Ground.phase }, { on := 6, ground := Ground.phase }, { on := 7, ground := Ground.phase }, { on := 8, ground := Ground.phase }, { on := 9, ground := Ground.phase }, { on := 10, ground := Ground.textOnly Departure.lateStores }, { on := 11, ground := Ground.textOnly Departure.lateStores }, { on := 12, ground := Ground.textOnly Departure.lateStoresUnsure }, { on := 13, ground := Ground.phase }], guard := none } : Oper)) (v := (.pointer (some ⟨g, q * 9, none⟩))) rfl (by kernel_rfl) (by kernel_rfl) (by kernel_rfl) (fun _ _ _ h => h) (Or.inl ⟨by rfl, by intro w; go_simp⟩) ?_
            simp only [Act.put, List.setIfInBounds_toArray, List.set_cons_zero, List.set_cons_succ]
            refine wpAny_ready (rs := [15]) (by kernel_rfl) (by simp) ?_
            refine AllReady.cons (o := ({ dst := none, op := Op.store 53 (Operand.tmp 127) (Operand.tmp 122), type := 0, pos := "zsortanyfunc.go:422", after := #[{ on := 14, ground := Ground.data }, { on := 9, ground := Ground.data }, { on := 0, ground := Ground.phase }, { on := 1, ground := Ground.phase }, { on := 2, ground := Ground.textOnly Departure.lateStores }, { on := 3, ground := Ground.textOnly Departure.lateStores }, { on := 4, ground := Ground.textOnly Departure.lateStores }, { on := 5, ground := Ground.phase }, { on := 6, ground := Ground.phase }, { on := 7, ground := Ground.phase }, { on := 8, ground := Ground.phase }, { on := 9, ground := Ground.phase }, { on := 10, ground := Ground.textOnly Departure.lateStores }, { on := 11, ground := Ground.textOnly Departure.lateStores }, { on := 12, ground := Ground.textOnly Departure.lateStoresUnsure }, { on := 13, ground := Ground.phase }], guard := none } : Oper)) rfl (fun K hK => ?_) AllReady.nil
            rw [if_pos (by rfl)]
            with_reducible refine wp_store_mid 53 (.tmp 127) (.tmp 122) ?_ g (q * 9) (y.cells).toArray ?_ ?_ (HR1.out.row.thereC (by have := HCL.out; omega) y) (info_credC _) (one_credC _) ?_
            · rfl
            · rfl
            · rfl
            refine hK _ _ ?_
            clear hK K
            simp only [Act.put, List.toList_toArray]
            refine wpAny_take (i := 16) (oi := ({ dst := some 128, op := Op.indexAddr 34 (Operand.tmp 115) (Operand.tmp 117), type := 0, pos := "zsortanyfunc.go:422", after := #[{ on := 2, ground := Ground.data }, { on := 4, ground := Ground.data }, { on := 0, ground := Ground.phase }, { on := 1, ground := Ground.phase }, { on := 2, ground := Ground.phase }, { on := 3, ground := Ground.phase }, { on := 4, ground := Ground.phase }, { on := 5, ground := Ground.phase }, { on := 6, ground := Ground.phase }, { on := 7, ground := Ground.phase }, { on := 8, ground := Ground.phase }, { on := 9, ground := Ground.phase }, { on := 10, ground := Ground.phase }, { on := 11, ground := Ground.phase }, { on := 12, ground := Ground.phase }, { on := 13, ground := Ground.phase }, { on := 14, ground := Ground.phase }, { on := 15, ground := Ground.phase }], guard := none } : Oper)) (v := (.pointer (some ⟨g, p * 9, none⟩))) rfl (by kernel_rfl) (by kernel_rfl) (by kernel_rfl) (fun _ _ _ h => h) (Or.inl ⟨by rfl, by intro w; go_simp⟩) ?_
            simp only [Act.put, List.setIfInBounds_toArray, List.set_cons_zero, List.set_cons_succ]
            refine wpAny_ready (rs := [17]) (by kernel_rfl) (by simp) ?_
            refine AllReady.cons (o := ({ dst := none, op := Op.store 53 (Operand.tmp 128) (Operand.tmp 126), type := 0, pos := "zsortanyfunc.go:422", after := #[{ on := 16, ground := Ground.data }, { on := 13, ground := Ground.data }, { on := 15, ground := Ground.chain }, { on := 0, ground := Ground.phase }, { on := 1, ground := Ground.phase }, { on := 2, ground := Ground.phase }, { on := 3, ground := Ground.phase }, { on := 4, ground := Ground.phase }, { on := 5, ground := Ground.phase }, { on := 6, ground := Ground.phase }, { on := 7, ground := Ground.phase }, { on := 8, ground := Ground.phase }, { on := 9, ground := Ground.phase }, { on := 10, ground := Ground.phase }, { on := 11, ground := Ground.phase }, { on := 12, ground := Ground.phase }, { on := 13, ground := Ground.phase }, { on := 14, ground := Ground.phase }, { on := 15, ground := Ground.phase }], guard := none } : Oper)) rfl (fun K hK => ?_) AllReady.nil
            rw [if_pos (by rfl)]
            with_reducible refine wp_store_mid 53 (.tmp 128) (.tmp 126) ?_ g (p * 9) (x.cells).toArray ?_ ?_ (HRs1.out.row.thereC (by rw [List.length_set]; have := HCL.out; omega) x) (info_credC _) (one_credC _) ?_
            · rfl
            · rfl
            · rfl
            refine hK _ _ ?_
            clear hK K
            simp only [Act.put, List.toList_toArray]
            refine wpAny_done (by kernel_rfl) ?_ _
            go_wp2
            go_roundw
            case rel => exact ⟨p, _, by first | rfl | rw [f1] | simp [f1], by have := HQ.out; omega, by have := HQ.out; omega, HRs2.out, HU2, HM2⟩
            case measure => simp [intOf]; have := HQ.out; omega
          · rw [if_pos (by rfl)]
            with_reducible refine wp_load_mid 53 (.tmp 125) ?_ g (q * 9) ?_ x.cells _ (HR1.out.row.range HX2.out) Try.underlying53 rfl (info_credL _) ?_
            · rfl
            · rfl
            refine hK _ _ ?_
            clear hK K
            simp only [Act.put, List.setIfInBounds_toArray, List.set_cons_zero, List.set_cons_succ]
            refine wpAny_ready (rs := [9]) (by kernel_rfl) (by simp) ?_
            refine AllReady.cons (o := ({ dst := some 122, op := Op.load 53 (Operand.tmp 121), type := 53, pos := "zsortanyfunc.go:422", after := #[{ on := 8, ground := Ground.data }], guard := none } : Oper)) rfl (fun K hK => ?_) AllReady.nil
            rw [if_pos (by rfl)]
            with_reducible refine wp_load_mid 53 (.tmp 121) ?_ g (p * 9) ?_ y.cells _ (HR1.out.row.range HY.out) Try.underlying53 rfl (info_credL _) ?_
            · rfl
            · rfl
            refine hK _ _ ?_
            clear hK K
            simp only [Act.put, List.setIfInBounds_toArray, List.set_cons_zero, List.set_cons_succ]
            refine wpAny_take (i := 14) (oi := ({ dst := some 127, op := Op.indexAddr 34 (Operand.tmp 113) (Operand.tmp 114), type := 0, pos := "zsortanyfunc.go:422", after := #[{ on := 0, ground := Ground.data }, { on := 1, ground := Ground.data }, { on := 0, ground := Ground.phase }, { on := 1, ground := Ground.phase }, { on := 2, ground := Ground.textOnly Departure.lateStores }, { on := 3, ground := Ground.textOnly Departure.lateStores }, { on := 4, ground := Ground.textOnly Departure.lateStores }, { on := 5, ground := Ground.phase }, { on := 6, ground := Ground.phase }, { on := 7, ground := Ground.phase }, { on := 8, ground := Ground.phase }, { on := 9, ground := Ground.phase }, { on := 10, ground := Ground.textOnly Departure.lateStores }, { on := 11, ground := Ground.textOnly Departure.lateStores }, { on := 12, ground := Ground.textOnly Departure.lateStoresUnsure }, { on := 13, ground := Ground.phase }], guard := none } : Oper)) (v := (.pointer (some ⟨g, q * 9, none⟩))) rfl (by kernel_rfl) (by kernel_rfl) (by kernel_rfl) (fun _ _ _ h => h) (Or.inl ⟨by rfl, by intro w; go_simp⟩) ?_
            simp only [Act.put, List.setIfInBounds_toArray, List.set_cons_zero, List.set_cons_succ]
            refine wpAny_ready (rs := [15]) (by kernel_rfl) (by simp) ?_
            refine AllReady.cons (o := ({ dst := none, op := Op.store 53 (Operand.tmp 127) (Operand.tmp 122), type := 0, pos := "zsortanyfunc.go:422", after := #[{ on := 14, ground := Ground.data }, { on := 9, ground := Ground.data }, { on := 0, ground := Ground.phase }, { on := 1, ground := Ground.phase }, { on := 2, ground := Ground.textOnly Departure.lateStores }, { on := 3, ground := Ground.textOnly Departure.lateStores }, { on := 4, ground := Ground.textOnly Departure.lateStores }, { on := 5, ground := Ground.phase }, { on := 6, ground := Ground.phase }, { on := 7, ground := Ground.phase }, { on := 8, ground := Ground.phase }, { on := 9, ground := Ground.phase }, { on := 10, ground := Ground.textOnly Departure.lateStores }, { on := 11, ground := Ground.textOnly Departure.lateStores }, { on := 12, ground := Ground.textOnly Departure.lateStoresUnsure }, { on := 13, ground := Ground.phase }], guard := none } : Oper)) rfl (fun K hK => ?_) AllReady.nil
            rw [if_pos (by rfl)]
            with_reducible refine wp_store_mid 53 (.tmp 127) (.tmp 122) ?_ g (q * 9) (y.cells).toArray ?_ ?_ (HR1.out.row.thereC (by have := HCL.out; omega) y) (info_credC _) (one_credC _) ?_
            · rfl
            · rfl
            · rfl
            refine hK _ _ ?_
            clear hK K
            simp only [Act.put, List.toList_toArray]
            refine wpAny_take (i := 16) (oi := ({ dst := some 128, op := Op.indexAddr 34 (Operand.tmp 115) (Operand.tmp 117), type := 0, pos := "zsortanyfunc.go:422", after := #[{ on := 2, ground := Ground.data }, { on := 4, ground := Ground.data }, { on := 0, ground := Ground.phase }, { on := 1, ground := Ground.phase }, { on := 2, ground := Ground.phase }, { on := 3, ground := Ground.phase }, { on := 4, ground := Ground.phase }, { on := 5, ground := Ground.phase }, { on := 6, ground := Ground.phase }, { on := 7, ground := Ground.phase }, { on := 8, ground := Ground.phase }, { on := 9, ground := Ground.phase }, { on := 10, ground := Ground.phase }, { on := 11, ground := Ground.phase }, { on := 12, ground := Ground.phase }, { on := 13, ground := Ground.phase }, { on := 14, ground := Ground.phase }, { on := 15, ground := Ground.phase }], guard := none } : Oper)) (v := (.pointer (some ⟨g, p * 9, none⟩))) rfl (by kernel_rfl) (by kernel_rfl) (by kernel_rfl) (fun _ _ _ h => h) (Or.inl ⟨by rfl, by intro w; go_simp⟩) ?_
            simp only [Act.put, List.setIfInBounds_toArray, List.set_cons_zero, List.set_cons_succ]
            refine wpAny_ready (rs := [17]) (by kernel_rfl) (by simp) ?_
            refine AllReady.cons (o := ({ dst := none, op := Op.store 53 (Operand.tmp 128) (Operand.tmp 126), type := 0, pos := "zsortanyfunc.go:422", after := #[{ on := 16, ground := Ground.data }, { on := 13, ground := Ground.data }, { on := 15, ground := Ground.chain }, { on := 0, ground := Ground.phase }, { on := 1, ground := Ground.phase }, { on := 2, ground := Ground.phase }, { on := 3, ground := Ground.phase }, { on := 4, ground := Ground.phase }, { on := 5, ground := Ground.phase }, { on := 6, ground := Ground.phase }, { on := 7, ground := Ground.phase }, { on := 8, ground := Ground.phase }, { on := 9, ground := Ground.phase }, { on := 10, ground := Ground.phase }, { on := 11, ground := Ground.phase }, { on := 12, ground := Ground.phase }, { on := 13, ground := Ground.phase }, { on := 14, ground := Ground.phase }, { on := 15, ground := Ground.phase }], guard := none } : Oper)) rfl (fun K hK => ?_) AllReady.nil
            rw [if_pos (by rfl)]
            with_reducible refine wp_store_mid 53 (.tmp 128) (.tmp 126) ?_ g (p * 9) (x.cells).toArray ?_ ?_ (HRs1.out.row.thereC (by rw [List.length_set]; have := HCL.out; omega) x) (info_credC _) (one_credC _) ?_
            · rfl
            · rfl
            · rfl
            refine hK _ _ ?_
            clear hK K
            simp only [Act.put, List.toList_toArray]
            refine wpAny_done (by kernel_rfl) ?_ _
            go_wp2
            go_roundw
            case rel => exact ⟨p, _, by first | rfl | rw [f1] | simp [f1], by have := HQ.out; omega, by have := HQ.out; omega, HRs2.out, HU2, HM2⟩
            case measure => simp [intOf]; have := HQ.out; omega
        · obtain rfl : i = q := by omega
          have hlt' : ¬ (i : Int) < (i : Int) := by omega
          go_wp2
          refine bodyPost_ret (results_none rfl _ _ _) rfl ?_
          exact ⟨rfl, c2, R, HMX.out, by rw [HM.out]; exact HU.out.srt hi HS.out HHIGH.out HLOW.out⟩
end Go.Proofs.Ytkimhdcngagmaaa.Sh
