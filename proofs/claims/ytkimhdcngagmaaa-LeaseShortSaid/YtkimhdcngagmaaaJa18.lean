/-
  slices.insertionSortCmpFunc at credentials, by contract.
-/
import Derived.Test.YtkimhdcngagmaaaJa17
set_option linter.unusedVariables false
set_option linter.unusedSimpArgs false
namespace Go.Proofs.Ytkimhdcngagmaaa.Sh
open Go Go.RowKit
set_option linter.unusedSimpArgs false
set_option maxRecDepth 100000

/-- Inside the inner loop: x, that stood at i of cur, stands at j. -/
structure InS (a b : Nat) (l cur c2 : List Crd) (j i : Nat) (x : Crd) : Prop where
  dn : Dn cur c2 j i x
  mix : Mix a b l c2
  less : ∀ t y, j ≤ t → t < i → cur[t]? = some y → bef x y = true
theorem InS.step {a b : Nat} {l cur c2 : List Crd} {j i : Nat} {x y : Crd} (h : InS a b l cur c2 (j + 1) i x) (hy : c2[j]? = some y) (hb : bef x y = true) (ha : a ≤ j) (hib : i < b) : InS a b l cur ((c2.set (j + 1) y).set j x) j i x := by
  have hle := h.dn.le
  refine ⟨h.dn.step hy, h.mix.trans ((mix_adj' hy h.dn.at_ hb).wide ha (by omega)), fun t z h1 h2 hz => ?_⟩
  rcases Nat.lt_or_ge j t with hlt | hge
  · exact h.less t z (by omega) h2 hz
  · obtain rfl : j = t := by omega
    rw [← h.dn.ahead (Nat.lt_succ_self _), hy] at hz
    injection hz with hz
    subst hz
    exact hb
theorem InS.stop {a b : Nat} {l cur c2 : List Crd} {j i : Nat} {x y : Crd} (h : InS a b l cur c2 (j + 1) i x) (hy : c2[j]? = some y) (hb : bef x y = false) (ha : a ≤ j) (hs : Srt a i cur) : Srt a (i + 1) c2 := by
  have hle := h.dn.le
  rw [h.dn.ahead (Nat.lt_succ_self _)] at hy
  refine h.dn.srt (by omega) hs h.less fun t z h1 h2 hz => ?_
  rcases Nat.lt_or_ge t j with hlt | hge
  · exact not_bef_trans hb (hs t j z y h1 hlt (by omega) hz hy)
  · obtain rfl : t = j := by omega
    rw [hy] at hz
    injection hz with hz
    subst hz
    exact hb
theorem InS.first {a b : Nat} {l cur c2 : List Crd} {i : Nat} {x : Crd} (h : InS a b l cur c2 a i x) (hs : Srt a i cur) : Srt a (i + 1) c2 :=
  h.dn.srt (Nat.le_refl _) hs h.less fun t z h1 h2 => by omega

set_option maxHeartbeats 16000000 in
theorem insertion_any {w0 w : World} {B g C : Nat} {tl : List Value} (l : List Crd) (N a b : Nat) (hN : l.length = N) (hNm : N ≤ 1000000000) (hab : a ≤ b) (hbN : b ≤ N) (h : Rw w0 w B g tl l) :
    Calls Try.prog 65 #[.slice (some ⟨g, 0, none⟩) N C, .int .i64 a, .int .i64 b, .func (.func 56) #[] #[]] w fun e w' => e = .returned (.tuple #[]) ∧ ∃ l', Rw w0 w' B g tl l' ∧ Mix a b l l' ∧ Srt a b l' := by
  have HN := hid hN
  have HR := hid h
  have wa := wrap_in ((a : Int) + 1) (by omega)
  clear hN h
  go_enter Try.func65, Try.ntmps65
  go_wp2
  go_loopw [8] (fun v wo => ∃ (i : Nat) (cur : List Crd), v = .int .i64 i ∧ a < i ∧ i ≤ b + 1 ∧ Rw w0 wo B g tl cur ∧ Hid (Mix a b l cur) ∧ Hid (Srt a i cur)) (fun v _ => b + 1 - (intOf v).toNat)
  case atStart => exact ⟨a + 1, l, by go_num, by omega, by omega, HR.out, hid (Mix.refl _ _ _), hid (Srt.one (by omega))⟩
  case round =>
    obtain ⟨i, cur, rfl, hai, hib, R, HM, HS⟩ := hrel
    by_cases hlt : i < b
    · have hlt' : (i : Int) < (b : Int) := by omega
      obtain ⟨x, hx⟩ : ∃ x, cur[i]? = some x := ⟨_, List.getElem?_eq_getElem (by rw [HM.out.len, HN.out]; omega)⟩
      have HI0 : Hid (InS a b l cur cur i i x) := hid ⟨Dn.start hx, HM.out, fun t y h1 h2 => by omega⟩
      have HRo := hid R
      obtain ⟨wo, hwo⟩ : ∃ z, z = wr := ⟨_, rfl⟩
      subst hwo
      clear R hx
      go_wp2
      go_loopw [9] (fun v wi => ∃ (j : Nat) (c2 : List Crd), v = .int .i64 j ∧ a ≤ j ∧ j ≤ i ∧ Rw w0 wi B g tl c2 ∧ Hid (InS a b l cur c2 j i x)) (fun v _ => (intOf v).toNat)
      case atStart => exact ⟨i, cur, rfl, by omega, Nat.le_refl _, HRo.out, HI0⟩
      case round =>
        obtain ⟨q, c2, rfl, haj, hji, R, HI⟩ := hrel
        have hcl : c2.length = N := by rw [HI.out.mix.len, HN.out]
        by_cases hja : a < q
        · obtain ⟨jp, hq⟩ : ∃ jp, jp + 1 = q := ⟨q - 1, by omega⟩
          obtain ⟨y, hy⟩ : ∃ y, c2[jp]? = some y := ⟨_, List.getElem?_eq_getElem (by omega)⟩
          have hxq : c2[q]? = some x := HI.out.dn.at_
          have hqN : (q : Int) < (N : Int) := by omega
          have hpN : (jp : Int) < (N : Int) := by omega
          have haq : (a : Int) < (q : Int) := by omega
          have e1 : (q : Int) - 1 = (jp : Int) := by omega
          have wp := wrap_in (jp : Int) (by omega)
          have wq := wrap_in (q : Int) (by omega)
          have ap := addr_row g (jp * 9)
          have aq := addr_row g (q * 9)
          obtain ⟨c, hc⟩ : ∃ c, cmpI x y = c := ⟨_, rfl⟩
          obtain ⟨bb, hbb⟩ : ∃ b, bef x y = b := ⟨_, rfl⟩
          have hcb : decide (c < 0) = bb := by rw [← hc, cmpI_neg, hbb]
          have HCMP : Hid (∀ W, Calls Try.prog 56 #[.agg x.cells.toArray, .agg y.cells.toArray] W fun e w' => e = .returned (.int .i64 c) ∧ Below W.heap.size W w') := hid (fun W => hc ▸ cmpC_any x y W)
          have HX := hid hxq
          have HY := hid hy
          have HB := hid hbb
          have HQ := hid hq
          have HR1 := hid R.drew
          have HCL := hid hcl
          clear hc hbb hxq hy hq R hcl
          go_wp2_with fail
          refine wp_region_held_drew (S := (fun W => W.rangeAt g (q * 9) x.cells ∧ W.rangeAt g (jp * 9) y.cells)) (by kernel_rfl) (⟨HR1.out.row.range HX.out, HR1.out.row.range HY.out⟩) (fun hHeld => ?_)
          refine wpAnyH_take (i := 0) (oi := ({ dst := some 18, op := Op.move (Operand.tmp 9), type := 3, pos := "zsortanyfunc.go:12", after := #[], guard := none } : Oper)) (v := (.int .i64 (q : Int))) rfl (by kernel_rfl) (by kernel_rfl) (by kernel_rfl) (fun _ _ _ h => h) (Or.inl ⟨by rfl, by intro w _; go_simp⟩) hHeld ?_
          simp only [Act.put, List.setIfInBounds_toArray, List.set_cons_zero, List.set_cons_succ]
          refine wpAnyH_take (i := 1) (oi := ({ dst := some 19, op := Op.move (Operand.tmp 1), type := 3, pos := "zsortanyfunc.go:12", after := #[], guard := none } : Oper)) (v := (.int .i64 (a : Int))) rfl (by kernel_rfl) (by kernel_rfl) (by kernel_rfl) (fun _ _ _ h => h) (Or.inl ⟨by rfl, by intro w _; go_simp⟩) hHeld ?_
          simp only [Act.put, List.setIfInBounds_toArray, List.set_cons_zero, List.set_cons_succ]
          refine wpAnyH_take (i := 2) (oi := ({ dst := some 20, op := Op.binOp BinOp.gtr 3 (Operand.tmp 18) (Operand.tmp 19) 3, type := 4, pos := "zsortanyfunc.go:12", after := #[{ on := 0, ground := Ground.data }, { on := 1, ground := Ground.data }], guard := none } : Oper)) (v := (.bool true)) rfl (by kernel_rfl) (by kernel_rfl) (by kernel_rfl) (fun _ _ _ h => h) (Or.inl ⟨by rfl, by intro w _; go_simp⟩) hHeld ?_
          simp only [Act.put, List.setIfInBounds_toArray, List.set_cons_zero, List.set_cons_succ]
          refine wpAnyH_take (i := 3) (oi := ({ dst := some 21, op := Op.move (Operand.tmp 20), type := 4, pos := "zsortanyfunc.go:12", after := #[{ on := 2, ground := Ground.data }], guard := none } : Oper)) (v := (.bool true)) rfl (by kernel_rfl) (by kernel_rfl) (by kernel_rfl) (fun _ _ _ h => h) (Or.inl ⟨by rfl, by intro w _; go_simp⟩) hHeld ?_
          simp only [Act.put, List.setIfInBounds_toArray, List.set_cons_zero, List.set_cons_succ]
          refine wpAnyH_take (i := 4) (oi := ({ dst := some 22, op := Op.move (Operand.tmp 3), type := 84, pos := "zsortanyfunc.go:12", after := #[{ on := 3, ground := Ground.guard }], guard := some (3, true) } : Oper)) (v := (.func (.func 56) #[] #[])) rfl (by kernel_rfl) (by kernel_rfl) (by kernel_rfl) (fun _ _ _ h => h) (Or.inl ⟨by rfl, by intro w _; go_simp⟩) hHeld ?_
          simp only [Act.put, List.setIfInBounds_toArray, List.set_cons_zero, List.set_cons_succ]
          refine wpAnyH_take (i := 5) (oi := ({ dst := some 23, op := Op.move (Operand.tmp 0), type := 34, pos := "zsortanyfunc.go:12", after := #[{ on := 3, ground := Ground.guard }], guard := some (3, true) } : Oper)) (v := (.slice (some ⟨g, 0, none⟩) N C)) rfl (by kernel_rfl) (by kernel_rfl) (by kernel_rfl) (fun _ _ _ h => h) (Or.inl ⟨by rfl, by intro w _; go_simp⟩) hHeld ?_
          simp only [Act.put, List.setIfInBounds_toArray, List.set_cons_zero, List.set_cons_succ]
          refine wpAnyH_take (i := 6) (oi := ({ dst := some 24, op := Op.move (Operand.tmp 9), type := 3, pos := "zsortanyfunc.go:12", after := #[{ on := 3, ground := Ground.guard }], guard := some (3, true) } : Oper)) (v := (.int .i64 (q : Int))) rfl (by kernel_rfl) (by kernel_rfl) (by kernel_rfl) (fun _ _ _ h => h) (Or.inl ⟨by rfl, by intro w _; go_simp⟩) hHeld ?_
          simp only [Act.put, List.setIfInBounds_toArray, List.set_cons_zero, List.set_cons_succ]
          refine wpAnyH_take (i := 7) (oi := ({ dst := some 25, op := Op.indexAddr 34 (Operand.tmp 23) (Operand.tmp 24), type := 0, pos := "zsortanyfunc.go:12", after := #[{ on := 5, ground := Ground.data }, { on := 6, ground := Ground.data }, { on := 3, ground := Ground.guard }], guard := some (3, true) } : Oper)) (v := (.pointer (some ⟨g, q * 9, none⟩))) rfl (by kernel_rfl) (by kernel_rfl) (by kernel_rfl) (fun _ _ _ h => h) (Or.inl ⟨by rfl, by intro w _; go_simp⟩) hHeld ?_
          simp only [Act.put, List.setIfInBounds_toArray, List.set_cons_zero, List.set_cons_succ]
          refine wpAnyH_take (i := 8) (oi := ({ dst := some 26, op := Op.load 53 (Operand.tmp 25), type := 53, pos := "zsortanyfunc.go:12", after := #[{ on := 7, ground := Ground.data }, { on := 3, ground := Ground.guard }], guard := some (3, true) } : Oper)) (v := .agg x.cells.toArray) rfl (by kernel_rfl) (by kernel_rfl) (by kernel_rfl) (fun _ _ _ h => h) (yieldsIf_load_mid (by rfl) 53 (.tmp 25) rfl g (q * 9) rfl x.cells _ (fun _ h => h.1) Try.underlying53 rfl (info_credL _)) hHeld ?_
          simp only [Act.put, List.setIfInBounds_toArray, List.set_cons_zero, List.set_cons_succ]
          refine wpAnyH_take (i := 9) (oi := ({ dst := some 27, op := Op.move (Operand.tmp 0), type := 34, pos := "zsortanyfunc.go:12", after := #[{ on := 3, ground := Ground.guard }], guard := some (3, true) } : Oper)) (v := (.slice (some ⟨g, 0, none⟩) N C)) rfl (by kernel_rfl) (by kernel_rfl) (by kernel_rfl) (fun _ _ _ h => h) (Or.inl ⟨by rfl, by intro w _; go_simp⟩) hHeld ?_
          simp only [Act.put, List.setIfInBounds_toArray, List.set_cons_zero, List.set_cons_succ]
          refine wpAnyH_take (i := 10) (oi := ({ dst := some 28, op := Op.move (Operand.tmp 9), type := 3, pos := "zsortanyfunc.go:12", after := #[{ on := 3, ground := Ground.guard }], guard := some (3, true) } : Oper)) (v := (.int .i64 (q : Int))) rfl (by kernel_rfl) (by kernel_rfl) (by kernel_rfl) (fun _ _ _ h => h) (Or.inl ⟨by rfl, by intro w _; go_simp⟩) hHeld ?_
          simp only [Act.put, List.setIfInBounds_toArray, List.set_cons_zero, List.set_cons_succ]
          refine wpAnyH_take (i := 11) (oi := ({ dst := some 29, op := Op.binOp BinOp.sub 3 (Operand.tmp 28) (Operand.const (Value.int IntKind.i64 1)) 3, type := 3, pos := "zsortanyfunc.go:12", after := #[{ on := 10, ground := Ground.data }, { on := 3, ground := Ground.guard }], guard := some (3, true) } : Oper)) (v := (.int .i64 (jp : Int))) rfl (by kernel_rfl) (by kernel_rfl) (by kernel_rfl) (fun _ _ _ h => h) (Or.inl ⟨by rfl, by intro w _; go_simp⟩) hHeld ?_
          simp only [Act.put, List.setIfInBounds_toArray, List.set_cons_zero, List.set_cons_succ]
          refine wpAnyH_take (i := 12) (oi := ({ dst := some 30, op := Op.indexAddr 34 (Operand.tmp 27) (Operand.tmp 29), type := 0, pos := "zsortanyfunc.go:12", after := #[{ on := 9, ground := Ground.data }, { on := 11, ground := Ground.data }, { on := 3, ground := Ground.guard }], guard := some (3, true) } : Oper)) (v := (.pointer (some ⟨g, jp * 9, none⟩))) rfl (by kernel_rfl) (by kernel_rfl) (by kernel_rfl) (fun _ _ _ h => h) (Or.inl ⟨by rfl, by intro w _; go_simp⟩) hHeld ?_
          simp only [Act.put, List.setIfInBounds_toArray, List.set_cons_zero, List.set_cons_succ]
          refine wpAnyH_take (i := 13) (oi := ({ dst := some 31, op := Op.load 53 (Operand.tmp 30), type := 53, pos := "zsortanyfunc.go:12", after := #[{ on := 12, ground := Ground.data }, { on := 3, ground := Ground.guard }], guard := some (3, true) } : Oper)) (v := .agg y.cells.toArray) rfl (by kernel_rfl) (by kernel_rfl) (by kernel_rfl) (fun _ _ _ h => h) (yieldsIf_load_mid (by rfl) 53 (.tmp 30) rfl g (jp * 9) rfl y.cells _ (fun _ h => h.2) Try.underlying53 rfl (info_credL _)) hHeld ?_
          simp only [Act.put, List.setIfInBounds_toArray, List.set_cons_zero, List.set_cons_succ]
          refine wpAnyH_ready (rs := [14]) (by kernel_rfl) (by simp) ?_
          refine AllReadyH.cons (o := ({ dst := some 32, op := Op.call { callee := Callee.value (Operand.tmp 22), args := #[Operand.tmp 26, Operand.tmp 31], argTypes := #[53, 53] }, type := 3, pos := "zsortanyfunc.go:12", after := #[{ on := 4, ground := Ground.data }, { on := 8, ground := Ground.data }, { on := 13, ground := Ground.data }, { on := 3, ground := Ground.chain }, { on := 3, ground := Ground.guard }], guard := some (3, true) } : Oper)) rfl (fun K hK => ?_) AllReadyH.nil
          rw [if_pos (by rfl)]
          go_simp
          refine (HCMP.out _).mono ?_
          rintro er w2 ⟨rfl, bl⟩
          have HR2 := hid (HR1.out.kept bl)
          clear bl
          refine hK.out _ _ (⟨HR2.out.row.range HX.out, HR2.out.row.range HY.out⟩) (fun hHeld2 => ?_)
          clear hK K hHeld
          try simp only [Act.put, List.setIfInBounds_toArray, List.set_cons_zero, List.set_cons_succ]
          refine wpAnyH_take (i := 15) (oi := ({ dst := some 33, op := Op.binOp BinOp.lss 3 (Operand.tmp 32) (Operand.const (Value.int IntKind.i64 0)) 3, type := 4, pos := "zsortanyfunc.go:12", after := #[{ on := 14, ground := Ground.data }, { on := 3, ground := Ground.guard }], guard := some (3, true) } : Oper)) (v := (.bool bb)) rfl (by kernel_rfl) (by kernel_rfl) (by kernel_rfl) (fun _ _ _ h => h) (Or.inl ⟨by rfl, by intro w _; go_simp⟩) hHeld2 ?_
          simp only [Act.put, List.setIfInBounds_toArray, List.set_cons_zero, List.set_cons_succ]
          refine wpAnyH_take (i := 16) (oi := ({ dst := some 34, op := Op.pick (Operand.tmp 21) (Operand.tmp 33) (Operand.const (Value.bool false)), type := 4, pos := "zsortanyfunc.go:12", after := #[{ on := 3, ground := Ground.data }, { on := 15, ground := Ground.data }], guard := none } : Oper)) (v := (.bool bb)) rfl (by kernel_rfl) (by kernel_rfl) (by kernel_rfl) (fun _ _ _ h => h) (Or.inl ⟨by rfl, by intro w _; go_simp⟩) hHeld2 ?_
          simp only [Act.put, List.setIfInBounds_toArray, List.set_cons_zero, List.set_cons_succ]
          refine wpAnyH_done (by kernel_rfl) ?_ _
          clear hHeld2
          cases bb with
          | true =>
            have HRs1 : Hid (Rw w0 (w2.drew.setCells g (q * 9) y.cells) B g tl (c2.set q y)) := hid (HR2.out.drew.set (by have := HCL.out; omega) y)
            have HRs2 : Hid (Rw w0 ((w2.drew.setCells g (q * 9) y.cells).setCells g (jp * 9) x.cells) B g tl ((c2.set q y).set jp x)) := hid (HRs1.out.set (by rw [List.length_set]; have := HCL.out; omega) x)
            have HI2 : Hid (InS a b l cur ((c2.set q y).set jp x) jp i x) := hid (by
              have := HI.out
              rw [← HQ.out] at this ⊢
              exact this.step HY.out HB.out (by have := HQ.out; omega) hlt)
            have HRd := hid HR2.out.drew
            go_wp2_with fail
            refine wp_region_any (by kernel_rfl) ?_
            change wpAny _ _ _ _ _ _ _ (World.drew _)
            refine wpAny_take (i := 0) (oi := ({ dst := some 37, op := Op.move (Operand.tmp 0), type := 34, pos := "zsortanyfunc.go:13", after := #[], guard := none } : Oper)) (v := (.slice (some ⟨g, 0, none⟩) N C)) rfl (by kernel_rfl) (by kernel_rfl) (by kernel_rfl) (fun _ _ _ h => h) (Or.inl ⟨by rfl, by intro w; go_simp⟩) ?_
            simp only [Act.put, List.setIfInBounds_toArray, List.set_cons_zero, List.set_cons_succ]
            refine wpAny_take (i := 1) (oi := ({ dst := some 38, op := Op.move (Operand.tmp 9), type := 3, pos := "zsortanyfunc.go:13", after := #[], guard := none } : Oper)) (v := (.int .i64 (q : Int))) rfl (by kernel_rfl) (by kernel_rfl) (by kernel_rfl) (fun _ _ _ h => h) (Or.inl ⟨by rfl, by intro w; go_simp⟩) ?_
            simp only [Act.put, List.setIfInBounds_toArray, List.set_cons_zero, List.set_cons_succ]
            refine wpAny_take (i := 2) (oi := ({ dst := some 39, op := Op.move (Operand.tmp 0), type := 34, pos := "zsortanyfunc.go:13", after := #[{ on := 15, ground := Ground.gcOnly Departure.lateStores }], guard := none } : Oper)) (v := (.slice (some ⟨g, 0, none⟩) N C)) rfl (by kernel_rfl) (by kernel_rfl) (by kernel_rfl) (fun _ _ _ h => h) (Or.inl ⟨by rfl, by intro w; go_simp⟩) ?_
            simp only [Act.put, List.setIfInBounds_toArray, List.set_cons_zero, List.set_cons_succ]
            refine wpAny_take (i := 3) (oi := ({ dst := some 40, op := Op.move (Operand.tmp 9), type := 3, pos := "zsortanyfunc.go:13", after := #[{ on := 15, ground := Ground.gcOnly Departure.lateStores }], guard := none } : Oper)) (v := (.int .i64 (q : Int))) rfl (by kernel_rfl) (by kernel_rfl) (by kernel_rfl) (fun _ _ _ h => h) (Or.inl ⟨by rfl, by intro w; go_simp⟩) ?_
            simp only [Act.put, List.setIfInBounds_toArray, List.set_cons_zero, List.set_cons_succ]
            refine wpAny_take (i := 4) (oi := ({ dst := some 41, op := Op.binOp BinOp.sub 3 (Operand.tmp 40) (Operand.const (Value.int IntKind.i64 1)) 3, type := 3, pos := "zsortanyfunc.go:13", after := #[{ on := 3, ground := Ground.data }, { on := 15, ground := Ground.gcOnly Departure.lateStores }], guard := none } : Oper)) (v := (.int .i64 (jp : Int))) rfl (by kernel_rfl) (by kernel_rfl) (by kernel_rfl) (fun _ _ _ h => h) (Or.inl ⟨by rfl, by intro w; go_simp⟩) ?_
            simp only [Act.put, List.setIfInBounds_toArray, List.set_cons_zero, List.set_cons_succ]
            refine wpAny_take (i := 5) (oi := ({ dst := some 42, op := Op.move (Operand.tmp 0), type := 34, pos := "zsortanyfunc.go:13", after := #[], guard := none } : Oper)) (v := (.slice (some ⟨g, 0, none⟩) N C)) rfl (by kernel_rfl) (by kernel_rfl) (by kernel_rfl) (fun _ _ _ h => h) (Or.inl ⟨by rfl, by intro w; go_simp⟩) ?_
            simp only [Act.put, List.setIfInBounds_toArray, List.set_cons_zero, List.set_cons_succ]
            refine wpAny_take (i := 6) (oi := ({ dst := some 43, op := Op.move (Operand.tmp 9), type := 3, pos := "zsortanyfunc.go:13", after := #[], guard := none } : Oper)) (v := (.int .i64 (q : Int))) rfl (by kernel_rfl) (by kernel_rfl) (by kernel_rfl) (fun _ _ _ h => h) (Or.inl ⟨by rfl, by intro w; go_simp⟩) ?_
            simp only [Act.put, List.setIfInBounds_toArray, List.set_cons_zero, List.set_cons_succ]
            refine wpAny_take (i := 7) (oi := ({ dst := some 44, op := Op.binOp BinOp.sub 3 (Operand.tmp 43) (Operand.const (Value.int IntKind.i64 1)) 3, type := 3, pos := "zsortanyfunc.go:13", after := #[{ on := 6, ground := Ground.data }], guard := none } : Oper)) (v := (.int .i64 (jp : Int))) rfl (by kernel_rfl) (by kernel_rfl) (by kernel_rfl) (fun _ _ _ h => h) (Or.inl ⟨by rfl, by intro w; go_simp⟩) ?_
            simp only [Act.put, List.setIfInBounds_toArray, List.set_cons_zero, List.set_cons_succ]
            refine wpAny_take (i := 8) (oi := ({ dst := some 45, op := Op.indexAddr 34 (Operand.tmp 42) (Operand.tmp 44), type := 0, pos := "zsortanyfunc.go:13", after := #[{ on := 5, ground := Ground.data }, { on := 7, ground := Ground.data }], guard := none } : Oper)) (v := (.pointer (some ⟨g, jp * 9, none⟩))) rfl (by kernel_rfl) (by kernel_rfl) (by kernel_rfl) (fun _ _ _ h => h) (Or.inl ⟨by rfl, by intro w; go_simp⟩) ?_
            simp only [Act.put, List.setIfInBounds_toArray, List.set_cons_zero, List.set_cons_succ]
            refine wpAny_take (i := 10) (oi := ({ dst := some 47, op := Op.move (Operand.tmp 0), type := 34, pos := "zsortanyfunc.go:13", after := #[], guard := none } : Oper)) (v := (.slice (some ⟨g, 0, none⟩) N C)) rfl (by kernel_rfl) (by kernel_rfl) (by kernel_rfl) (fun _ _ _ h => h) (Or.inl ⟨by rfl, by intro w; go_simp⟩) ?_
            simp only [Act.put, List.setIfInBounds_toArray, List.set_cons_zero, List.set_cons_succ]
            refine wpAny_take (i := 11) (oi := ({ dst := some 48, op := Op.move (Operand.tmp 9), type := 3, pos := "zsortanyfunc.go:13", after := #[], guard := none } : Oper)) (v := (.int .i64 (q : Int))) rfl (by kernel_rfl) (by kernel_rfl) (by kernel_rfl) (fun _ _ _ h => h) (Or.inl ⟨by rfl, by intro w; go_simp⟩) ?_
            simp only [Act.put, List.setIfInBounds_toArray, List.set_cons_zero, List.set_cons_succ]
            refine wpAny_take (i := 12) (oi := ({ dst := some 49, op := Op.indexAddr 34 (Operand.tmp 47) (Operand.tmp 48), type := 0, pos := "zsortanyfunc.go:13", after := #[{ on := 10, ground := Ground.data }, { on := 11, ground := Ground.data }], guard := none } : Oper)) (v := (.pointer (some ⟨g, q * 9, none⟩))) rfl (by kernel_rfl) (by kernel_rfl) (by kernel_rfl) (fun _ _ _ h => h) (Or.inl ⟨by rfl, by intro w; go_simp⟩) ?_
            simp only [Act.put, List.setIfInBounds_toArray, List.set_cons_zero, List.set_cons_succ]
            refine wpAny_ready (rs := [9, 13]) (by kernel_rfl) (by simp) ?_
            refine AllReady.cons (o := ({ dst := some 46, op := Op.load 53 (Operand.tmp 45), type := 53, pos := "zsortanyfunc.go:13", after := #[{ on := 8, ground := Ground.data }], guard := none } : Oper)) rfl (fun K hK => ?_) (AllReady.cons (o := ({ dst := some 50, op := Op.load 53 (Operand.tmp 49), type := 53, pos := "zsortanyfunc.go:13", after := #[{ on := 12, ground := Ground.data }], guard := none } : Oper)) rfl (fun K hK => ?_) AllReady.nil)
            · rw [if_pos (by rfl)]
              with_reducible refine wp_load_mid 53 (.tmp 45) ?_ g (jp * 9) ?_ y.cells _ (HRd.out.row.range HY.out) Try.underlying53 rfl (info_credL _) ?_
              · rfl
              · rfl
              refine hK _ _ ?_
              clear hK K
              simp only [Act.put, List.setIfInBounds_toArray, List.set_cons_zero, List.set_cons_succ]
              refine wpAny_ready (rs := [13]) (by kernel_rfl) (by simp) ?_
              refine AllReady.cons (o := ({ dst := some 50, op := Op.load 53 (Operand.tmp 49), type := 53, pos := "zsortanyfunc.go:13", after := #[{ on := 12, ground := Ground.data }], guard := none } : Oper)) rfl (fun K hK => ?_) AllReady.nil
              rw [if_pos (by rfl)]
              with_reducible refine wp_load_mid 53 (.tmp 49) ?_ g (q * 9) ?_ x.cells _ (HRd.out.row.range HX.out) Try.underlying53 rfl (info_credL _) ?_
              · rfl
              · rfl
              refine hK _ _ ?_
              clear hK K
              simp only [Act.put, List.setIfInBounds_toArray, List.set_cons_zero, List.set_cons_succ]
              refine wpAny_take (i := 14) (oi := ({ dst := some 51, op := Op.indexAddr 34 (Operand.tmp 37) (Operand.tmp 38), type := 0, pos := "zsortanyfunc.go:13", after := #[{ on := 0, ground := Ground.data }, { on := 1, ground := Ground.data }, { on := 0, ground := Ground.phase }, { on := 1, ground := Ground.phase }, { on := 2, ground := Ground.textOnly Departure.lateStores }, { on := 3, ground := Ground.textOnly Departure.lateStores }, { on := 4, ground := Ground.textOnly Departure.lateStores }, { on := 5, ground := Ground.phase }, { on := 6, ground := Ground.phase }, { on := 7, ground := Ground.phase }, { on := 8, ground := Ground.phase }, { on := 9, ground := Ground.phase }, { on := 10, ground := Ground.textOnly Departure.lateStores }, { on := 11, ground := Ground.textOnly Departure.lateStores }, { on := 12, ground := Ground.textOnly Departure.lateStoresUnsure }, { on := 13, ground := Ground.phase }], guard := none } : Oper)) (v := (.pointer (some ⟨g, q * 9, none⟩))) rfl (by kernel_rfl) (by kernel_rfl) (by kernel_rfl) (fun _ _ _ h => h) (Or.inl ⟨by rfl, by intro w; go_simp⟩) ?_
              simp only [Act.put, List.setIfInBounds_toArray, List.set_cons_zero, List.set_cons_succ]
              refine wpAny_ready (rs := [15]) (by kernel_rfl) (by simp) ?_
              refine AllReady.cons (o := ({ dst := none, op := Op.store 53 (Operand.tmp 51) (Operand.tmp 46), type := 0, pos := "zsortanyfunc.go:13", after := #[{ on := 14, ground := Ground.data }, { on := 9, ground := Ground.data }, { on := 0, ground := Ground.phase }, { on := 1, ground := Ground.phase }, { on := 2, ground := Ground.textOnly Departure.lateStores }, { on := 3, ground := Ground.textOnly Departure.lateStores }, { on := 4, ground := Ground.textOnly Departure.lateStores }, { on := 5, ground := Ground.phase }, { on := 6, ground := Ground.phase }, { on := 7, ground := Ground.phase }, { on := 8, ground := Ground.phase }, { on := 9, ground := Ground.phase }, { on := 10, ground := Ground.textOnly Departure.lateStores }, { on := 11, ground := Ground.textOnly Departure.lateStores }, { on := 12, ground := Ground.textOnly Departure.lateStoresUnsure }, { on := 13, ground := Ground.phase }], guard := none } : Oper)) rfl (fun K hK => ?_) AllReady.nil
              rw [if_pos (by rfl)]
              with_reducible refine wp_store_mid 53 (.tmp 51) (.tmp 46) ?_ g (q * 9) (y.cells).toArray ?_ ?_ (HRd.out.row.thereC (by have := HCL.out; omega) y) (info_credC _) (one_credC _) ?_
              · rfl
              · rfl
              · rfl
              refine hK _ _ ?_
              clear hK K
              simp only [Act.put, List.toList_toArray]
              refine wpAny_take (i := 16) (oi := ({ dst := some 52, op := Op.indexAddr 34 (Operand.tmp 39) (Operand.tmp 41), type := 0, pos := "zsortanyfunc.go:13", after := #[{ on := 2, ground := Ground.data }, { on := 4, ground := Ground.data }, { on := 0, ground := Ground.phase }, { on := 1, ground := Ground.phase }, { on := 2, ground := Ground.phase }, { on := 3, ground := Ground.phase }, { on := 4, ground := Ground.phase }, { on := 5, ground := Ground.phase }, { on := 6, ground := Ground.phase }, { on := 7, ground := Ground.phase }, { on := 8, ground := Ground.phase }, { on := 9, ground := Ground.phase }, { on := 10, ground := Ground.phase }, { on := 11, ground := Ground.phase }, { on := 12, ground := Ground.phase }, { on := 13, ground := Ground.phase }, { on := 14, ground := Ground.phase }, { on := 15, ground := Ground.phase }], guard := none } : Oper)) (v := (.pointer (some ⟨g, jp * 9, none⟩))) rfl (by kernel_rfl) (by kernel_rfl) (by kernel_rfl) (fun _ _ _ h => h) (Or.inl ⟨by rfl, by intro w; go_simp⟩) ?_
              simp only [Act.put, List.setIfInBounds_toArray, List.set_cons_zero, List.set_cons_succ]
              refine wpAny_ready (rs := [17]) (by kernel_rfl) (by simp) ?_
              refine AllReady.cons (o := ({ dst := none, op := Op.store 53 (Operand.tmp 52) (Operand.tmp 50), type := 0, pos := "zsortanyfunc.go:13", after := #[{ on := 16, ground := Ground.data }, { on := 13, ground := Ground.data }, { on := 15, ground := Ground.chain }, { on := 0, ground := Ground.phase }, { on := 1, ground := Ground.phase }, { on := 2, ground := Ground.phase }, { on := 3, ground := Ground.phase }, { on := 4, ground := Ground.phase }, { on := 5, ground := Ground.phase }, { on := 6, ground := Ground.phase }, { on := 7, ground := Ground.phase }, { on := 8, ground := Ground.phase }, { on := 9, ground := Ground.phase }, { on := 10, ground := Ground.phase }, { on := 11, ground := Ground.phase }, { on := 12, ground := Ground.phase }, { on := 13, ground := Ground.phase }, { on := 14, ground := Ground.phase }, { on := 15, ground := Ground.phase }], guard := none } : Oper)) rfl (fun K hK => ?_) AllReady.nil
              rw [if_pos (by rfl)]
              with_reducible refine wp_store_mid 53 (.tmp 52) (.tmp 50) ?_ g (jp * 9) (x.cells).toArray ?_ ?_ (HRs1.out.row.thereC (by rw [List.length_set]; have := HCL.out; omega) x) (info_credC _) (one_credC _) ?_
              · rfl
              · rfl
              · rfl
              refine hK _ _ ?_
              clear hK K
              simp only [Act.put, List.toList_toArray]
              refine wpAny_done (by kernel_rfl) ?_ _
              go_wp2
              go_roundw
              case rel => exact ⟨jp, _, by first | rfl | rw [e1] | simp [e1], by have := HQ.out; omega, by have := HQ.out; omega, HRs2.out, HI2⟩
              case measure => simp [intOf]; have := HQ.out; omega
            · rw [if_pos (by rfl)]
              with_reducible refine wp_load_mid 53 (.tmp 49) ?_ g (q * 9) ?_ x.cells _ (HRd.out.row.range HX.out) Try.underlying53 rfl (info_credL _) ?_
              · rfl
              · rfl
              refine hK _ _ ?_
              clear hK K
              simp only [Act.put, List.setIfInBounds_toArray, List.set_cons_zero, List.set_cons_succ]
              refine wpAny_ready (rs := [9]) (by kernel_rfl) (by simp) ?_
              refine AllReady.cons (o := ({ dst := some 46, op := Op.load 53 (Operand.tmp 45), type := 53, pos := "zsortanyfunc.go:13", after := #[{ on := 8, ground := Ground.data }], guard := none } : Oper)) rfl (fun K hK => ?_) AllReady.nil
              rw [if_pos (by rfl)]
              with_reducible refine wp_load_mid 53 (.tmp 45) ?_ g (jp * 9) ?_ y.cells _ (HRd.out.row.range HY.out) Try.underlying53 rfl (info_credL _) ?_
              · rfl
              · rfl
              refine hK _ _ ?_
              clear hK K
              simp only [Act.put, List.setIfInBounds_toArray, List.set_cons_zero, List.set_cons_succ]
              refine wpAny_take (i := 14) (oi := ({ dst := some 51, op := Op.indexAddr 34 (Operand.tmp 37) (Operand.tmp 38), type := 0, pos := "zsortanyfunc.go:13", after := #[{ on := 0, ground := Ground.data }, { on := 1, ground := Ground.data }, { on := 0, ground := Ground.phase }, { on := 1, ground := Ground.phase }, { on := 2, ground := Ground.textOnly Departure.lateStores }, { on := 3, ground := Ground.textOnly Departure.lateStores }, { on := 4, ground := Ground.textOnly Departure.lateStores }, { on := 5, ground := Ground.phase }, { on := 6, ground := Ground.phase }, { on := 7, ground := Ground.phase }, { on := 8, ground := Ground.phase }, { on := 9, ground := Ground.phase }, { on := 10, ground := Ground.textOnly Departure.lateStores }, { on := 11, ground := Ground.textOnly Departure.lateStores }, { on := 12, ground := Ground.textOnly Departure.lateStoresUnsure }, { on := 13, ground := Ground.phase }], guard := none } : Oper)) (v := (.pointer (some ⟨g, q * 9, none⟩))) rfl (by kernel_rfl) (by kernel_rfl) (by kernel_rfl) (fun _ _ _ h => h) (Or.inl ⟨by rfl, by intro w; go_simp⟩) ?_
              simp only [Act.put, List.setIfInBounds_toArray, List.set_cons_zero, List.set_cons_succ]
              refine wpAny_ready (rs := [15]) (by kernel_rfl) (by simp) ?_
              refine AllReady.cons (o := ({ dst := none, op := Op.store 53 (Operand.tmp 51) (Operand.tmp 46), type := 0, pos := "zsortanyfunc.go:13", after := #[{ on := 14, ground := Ground.data }, { on := 9, ground := Ground.data }, { on := 0, ground := Ground.phase }, { on := 1, ground := Ground.phase }, { on := 2, ground := Ground.textOnly Departure.lateStores }, { on := 3, ground := Ground.textOnly Departure.lateStores }, { on := 4, ground := Ground.textOnly Departure.lateStores }, { on := 5, ground := Ground.phase }, { on := 6, ground := Ground.phase }, { on := 7, ground := Ground.phase }, { on := 8, ground := Ground.phase }, { on := 9, ground := Ground.phase }, { on := 10, ground := Ground.textOnly Departure.lateStores }, { on := 11, ground := Ground.textOnly Departure.lateStores }, { on := 12, ground := Ground.textOnly Departure.lateStoresUnsure }, { on := 13, ground := Ground.phase }], guard := none } : Oper)) rfl (fun K hK => ?_) AllReady.nil
              rw [if_pos (by rfl)]
              with_reducible refine wp_store_mid 53 (.tmp 51) (.tmp 46) ?_ g (q * 9) (y.cells).toArray ?_ ?_ (HRd.out.row.thereC (by have := HCL.out; omega) y) (info_credC _) (one_credC _) ?_
              · rfl
              · rfl
              · rfl
              refine hK _ _ ?_
              clear hK K
              simp only [Act.put, List.toList_toArray]
              refine wpAny_take (i := 16) (oi := ({ dst := some 52, op := Op.indexAddr 34 (Operand.tmp 39) (Operand.tmp 41), type := 0, pos := "zsortanyfunc.go:13", after := #[{ on := 2, ground := Ground.data }, { on := 4, ground := Ground.data }, { on := 0, ground := Ground.phase }, { on := 1, ground := Ground.phase }, { on := 2, ground := Ground.phase }, { on := 3, ground := Ground.phase }, { on := 4, ground := Ground.phase }, { on := 5, ground := Ground.phase }, { on := 6, ground := Ground.phase }, { on := 7, ground := Ground.phase }, { on := 8, ground := Ground.phase }, { on := 9, ground := Ground.phase }, { on := 10, ground := Ground.phase }, { on := 11, ground := Ground.phase }, { on := 12, ground := Ground.phase }, { on := 13, ground := Ground.phase }, { on := 14, ground := Ground.phase }, { on := 15, ground := Ground.phase }], guard := none } : Oper)) (v := (.pointer (some ⟨g, jp * 9, none⟩))) rfl (by kernel_rfl) (by kernel_rfl) (by kernel_rfl) (fun _ _ _ h => h) (Or.inl ⟨by rfl, by intro w; go_simp⟩) ?_
              simp only [Act.put, List.setIfInBounds_toArray, List.set_cons_zero, List.set_cons_succ]
              refine wpAny_ready (rs := [17]) (by kernel_rfl) (by simp) ?_
              refine AllReady.cons (o := ({ dst := none, op := Op.store 53 (Operand.tmp 52) (Operand.tmp 50), type := 0, pos := "zsortanyfunc.go:13", after := #[{ on := 16, ground := Ground.data }, { on := 13, ground := Ground.data }, { on := 15, ground := Ground.chain }, { on := 0, ground := Ground.phase }, { on := 1, ground := Ground.phase }, { on := 2, ground := Ground.phase }, { on := 3, ground := Ground.phase }, { on := 4, ground := Ground.phase }, { on := 5, ground := Ground.phase }, { on := 6, ground := Ground.phase }, { on := 7, ground := Ground.phase }, { on := 8, ground := Ground.phase }, { on := 9, ground := Ground.phase }, { on := 10, ground := Ground.phase }, { on := 11, ground := Ground.phase }, { on := 12, ground := Ground.phase }, { on := 13, ground := Ground.phase }, { on := 14, ground := Ground.phase }, { on := 15, ground := Ground.phase }], guard := none } : Oper)) rfl (fun K hK => ?_) AllReady.nil
              rw [if_pos (by rfl)]
              with_reducible refine wp_store_mid 53 (.tmp 52) (.tmp 50) ?_ g (jp * 9) (x.cells).toArray ?_ ?_ (HRs1.out.row.thereC (by rw [List.length_set]; have := HCL.out; omega) x) (info_credC _) (one_credC _) ?_
              · rfl
              · rfl
              · rfl
              refine hK _ _ ?_
              clear hK K
              simp only [Act.put, List.toList_toArray]
              refine wpAny_done (by kernel_rfl) ?_ _
              go_wp2
              go_roundw
              case rel => exact ⟨jp, _, by first | rfl | rw [e1] | simp [e1], by have := HQ.out; omega, by have := HQ.out; omega, HRs2.out, HI2⟩
              case measure => simp [intOf]; have := HQ.out; omega
          | false =>
            have HS2 : Hid (Srt a (i + 1) c2) := hid (by
              have := HI.out
              rw [← HQ.out] at this
              exact this.stop HY.out HB.out (by have := HQ.out; omega) HS.out)
            go_wp2
            go_roundw
            case rel => exact ⟨i + 1, c2, by go_num, by omega, by omega, HR2.out, hid HI.out.mix, HS2⟩
            case measure => simp [intOf]; omega
        · obtain rfl : a = q := by omega
          have hgt : ¬ (a : Int) < (a : Int) := by omega
          have HS2 : Hid (Srt a (i + 1) c2) := hid (HI.out.first HS.out)
          have HR1 := hid R
          clear R
          go_wp2_with fail
          go_quiet (fail)
          have HRq : Hid (Rw w0 (wr.drewN nq) B g tl c2) := hid ⟨HR1.out.row, below_drewN HR1.out.bel _, HR1.out.hB⟩
          go_wp2
          go_roundw
          case rel => exact ⟨i + 1, c2, by go_num, by omega, by omega, HRq.out, hid HI.out.mix, HS2⟩
          case measure => simp [intOf]; omega
    · have hlt' : ¬ (i : Int) < (b : Int) := by omega
      go_wp2
      go_end0
      exact ⟨rfl, cur, R, HM.out, HS.out.less (Nat.le_refl _) (by omega)⟩
end Go.Proofs.Ytkimhdcngagmaaa.Sh
