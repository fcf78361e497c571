/-
  slices.swapRangeCmpFunc and slices.rotateCmpFunc at credentials, by contract.
-/
import Derived.Test.YtkimhdcngagmaaaJa17
set_option linter.unusedVariables false
set_option linter.unusedSimpArgs false
namespace Go.Proofs.Ytkimhdcngagmaaa.Sh
open Go Go.RowKit
set_option linter.unusedSimpArgs false
set_option maxRecDepth 100000

theorem set_midL {A B : List Crd} {x y : Crd} {k : Nat} (h : A.length = k) : (A ++ x :: B).set k y = A ++ y :: B := by
  subst h
  rw [List.set_append_right _ _ (Nat.le_refl _), Nat.sub_self, List.set_cons_zero]
theorem get_midL {A B : List Crd} {x : Crd} {k : Nat} (h : A.length = k) : (A ++ x :: B)[k]? = some x := by
  subst h
  rw [List.getElem?_append_right (Nat.le_refl _), Nat.sub_self, List.getElem?_cons_zero]
/-- The first k of X and of Y exchanged. -/
def swp (P X M Y S : List Crd) (k : Nat) : List Crd := P ++ (Y.take k ++ X.drop k) ++ M ++ (X.take k ++ Y.drop k) ++ S
theorem swp_zero (P X M Y S : List Crd) : swp P X M Y S 0 = P ++ X ++ M ++ Y ++ S := by simp [swp]
theorem swp_all {P X M Y S : List Crd} {n : Nat} (hx : X.length = n) (hy : Y.length = n) : swp P X M Y S n = P ++ Y ++ M ++ X ++ S := by
  unfold swp
  rw [List.take_of_length_le (by omega), List.take_of_length_le (by omega), List.drop_of_length_le (by omega), List.drop_of_length_le (by omega)]
  simp
theorem swp_step {P X M Y S : List Crd} {n k a b : Nat} (hx : X.length = n) (hy : Y.length = n) (hk : k < n) (ha : P.length = a) (hb : P.length + X.length + M.length = b) :
    ∃ x y, (swp P X M Y S k)[a + k]? = some x ∧ (swp P X M Y S k)[b + k]? = some y ∧ ((swp P X M Y S k).set (a + k) y).set (b + k) x = swp P X M Y S (k + 1) := by
  have hkx : k < X.length := by omega
  have hky : k < Y.length := by omega
  obtain ⟨x, dx, tx⟩ : ∃ x, X.drop k = x :: X.drop (k + 1) ∧ X.take (k + 1) = X.take k ++ [x] := ⟨X[k], List.drop_eq_getElem_cons hkx, List.take_succ_eq_append_getElem hkx⟩
  obtain ⟨y, dy, ty⟩ : ∃ y, Y.drop k = y :: Y.drop (k + 1) ∧ Y.take (k + 1) = Y.take k ++ [y] := ⟨Y[k], List.drop_eq_getElem_cons hky, List.take_succ_eq_append_getElem hky⟩
  have e1 : swp P X M Y S k = (P ++ Y.take k) ++ x :: (X.drop (k + 1) ++ M ++ X.take k ++ y :: (Y.drop (k + 1) ++ S)) := by
    unfold swp
    rw [dx, dy]
    simp
  have e2 : ∀ z : Crd, (P ++ Y.take k) ++ z :: (X.drop (k + 1) ++ M ++ X.take k ++ y :: (Y.drop (k + 1) ++ S)) = ((P ++ Y.take k) ++ z :: (X.drop (k + 1) ++ M ++ X.take k)) ++ y :: (Y.drop (k + 1) ++ S) := fun z => by simp
  have l1 : (P ++ Y.take k).length = a + k := by rw [List.length_append, List.length_take]; omega
  have l2 : ∀ z : Crd, ((P ++ Y.take k) ++ z :: (X.drop (k + 1) ++ M ++ X.take k)).length = b + k := fun z => by
    simp only [List.length_append, List.length_cons, List.length_take, List.length_drop]; omega
  refine ⟨x, y, ?_, ?_, ?_⟩
  · rw [e1]; exact get_midL l1
  · rw [e1, e2]; exact get_midL (l2 _)
  · rw [e1, set_midL l1, e2, set_midL (l2 _)]
    unfold swp
    rw [tx, ty]
    simp
theorem swp_len (P X M Y S : List Crd) (k n : Nat) (hx : X.length = n) (hy : Y.length = n) (hk : k ≤ n) : (swp P X M Y S k).length = P.length + n + M.length + n + S.length := by
  unfold swp
  simp only [List.length_append, List.length_take, List.length_drop]
  omega

set_option maxHeartbeats 4000000 in
theorem swapRange_any {w0 w : World} {B g C : Nat} {tl : List Value} (P X M Y S : List Crd) (N a b n : Nat) (hN : (P ++ X ++ M ++ Y ++ S).length = N) (hNm : N ≤ 1000000000) (hx : X.length = n) (hy : Y.length = n) (ha : P.length = a) (hb : P.length + X.length + M.length = b) (h : Rw w0 w B g tl (P ++ X ++ M ++ Y ++ S)) (cv : Value) :
    Calls Try.prog 68 #[.slice (some ⟨g, 0, none⟩) N C, .int .i64 a, .int .i64 b, .int .i64 n, cv] w fun e w' => e = .returned (.tuple #[]) ∧ Rw w0 w' B g tl (P ++ Y ++ M ++ X ++ S) := by
  have hNN : P.length + n + M.length + n + S.length = N := by rw [← hN]; simp only [List.length_append]; omega
  have HR : Hid (Rw w0 w B g tl (swp P X M Y S 0)) := hid (by rw [swp_zero]; exact h)
  have HST := hid (fun k (hk : k < n) => swp_step (S := S) hx hy hk ha hb)
  have HLEN := hid (fun k (hk : k ≤ n) => (swp_len P X M Y S k n hx hy hk).trans hNN)
  have HE := hid (swp_all (P := P) (M := M) (S := S) hx hy)
  have hab : a + n ≤ b := by omega
  have hbn : b + n ≤ N := by omega
  clear hN h hx hy ha hb hNN
  go_enter Try.func68, Try.ntmps68
  go_wp2
  go_loopw [10] (fun i wr => ∃ (k : Nat) (cur : List Crd), i = .int .i64 k ∧ k ≤ n ∧ Hid (cur = swp P X M Y S k) ∧ Rw w0 wr B g tl cur) (fun i _ => n - (intOf i).toNat)
  case atStart => exact ⟨0, _, rfl, Nat.zero_le _, hid rfl, HR.out⟩
  case round =>
    obtain ⟨k, cur, rfl, hk, HC, R⟩ := hrel
    by_cases hlt : k < n
    · have hlt' : (k : Int) < (n : Int) := by omega
      have hcl : cur.length = N := by rw [HC.out]; exact HLEN.out k hk
      obtain ⟨p, hp⟩ : ∃ p, a + k = p := ⟨_, rfl⟩
      obtain ⟨q, hq⟩ : ∃ q, b + k = q := ⟨_, rfl⟩
      have hp' : (a : Int) + (k : Int) = (p : Int) := by omega
      have hq' : (b : Int) + (k : Int) = (q : Int) := by omega
      have hpN : (p : Int) < (N : Int) := by omega
      have hqN : (q : Int) < (N : Int) := by omega
      have wp := wrap_in (p : Int) (by omega)
      have wq := wrap_in (q : Int) (by omega)
      have ap := addr_row g (p * 9)
      have aq := addr_row g (q * 9)
      obtain ⟨x, y, hx, hy, hs⟩ := HST.out k hlt
      rw [← HC.out, hp] at hx hs
      rw [← HC.out, hq] at hy
      rw [hq] at hs
      have HX := hid hx
      have HY := hid hy
      have HS := hid hs
      have HR1 := hid R.drew
      have HCL := hid hcl
      have HR2 : Hid (Rw w0 (wr.drew.setCells g (p * 9) y.cells) B g tl (cur.set p y)) := hid (HR1.out.set (by omega) y)
      have HR3 : Hid (Rw w0 ((wr.drew.setCells g (p * 9) y.cells).setCells g (q * 9) x.cells) B g tl ((cur.set p y).set q x)) := hid (HR2.out.set (by rw [List.length_set]; omega) x)
      clear hp hq hx hy hs R hcl
      go_wp2_with fail
      refine wp_region_any (by kernel_rfl) ?_
      change wpAny _ _ _ _ _ _ _ (World.drew _)
      refine wpAny_take (i := 0) (oi := ({ dst := some 16, op := Op.move (Operand.tmp 0), type := 34, pos := "zsortanyfunc.go:331", after := #[], guard := none } : Oper)) (v := (.slice (some ⟨g, 0, none⟩) N C)) rfl (by kernel_rfl) (by kernel_rfl) (by kernel_rfl) (fun _ _ _ h => h) (Or.inl ⟨by rfl, by intro w; go_simp⟩) ?_
      simp only [Act.put, List.setIfInBounds_toArray, List.set_cons_zero, List.set_cons_succ]
      refine wpAny_take (i := 1) (oi := ({ dst := some 17, op := Op.move (Operand.tmp 1), type := 3, pos := "zsortanyfunc.go:331", after := #[], guard := none } : Oper)) (v := (.int .i64 (a : Int))) rfl (by kernel_rfl) (by kernel_rfl) (by kernel_rfl) (fun _ _ _ h => h) (Or.inl ⟨by rfl, by intro w; go_simp⟩) ?_
      simp only [Act.put, List.setIfInBounds_toArray, List.set_cons_zero, List.set_cons_succ]
      refine wpAny_take (i := 2) (oi := ({ dst := some 18, op := Op.move (Operand.tmp 10), type := 3, pos := "zsortanyfunc.go:331", after := #[], guard := none } : Oper)) (v := (.int .i64 (k : Int))) rfl (by kernel_rfl) (by kernel_rfl) (by kernel_rfl) (fun _ _ _ h => h) (Or.inl ⟨by rfl, by intro w; go_simp⟩) ?_
      simp only [Act.put, List.setIfInBounds_toArray, List.set_cons_zero, List.set_cons_succ]
      refine wpAny_take (i := 3) (oi := ({ dst := some 19, op := Op.binOp BinOp.add 3 (Operand.tmp 17) (Operand.tmp 18) 3, type := 3, pos := "zsortanyfunc.go:331", after := #[{ on := 1, ground := Ground.data }, { on := 2, ground := Ground.data }], guard := none } : Oper)) (v := (.int .i64 (p : Int))) rfl (by kernel_rfl) (by kernel_rfl) (by kernel_rfl) (fun _ _ _ h => h) (Or.inl ⟨by rfl, by intro w; go_simp⟩) ?_
      simp only [Act.put, List.setIfInBounds_toArray, List.set_cons_zero, List.set_cons_succ]
      refine wpAny_take (i := 4) (oi := ({ dst := some 20, op := Op.move (Operand.tmp 0), type := 34, pos := "zsortanyfunc.go:331", after := #[{ on := 21, ground := Ground.gcOnly Departure.lateStores }], guard := none } : Oper)) (v := (.slice (some ⟨g, 0, none⟩) N C)) rfl (by kernel_rfl) (by kernel_rfl) (by kernel_rfl) (fun _ _ _ h => h) (Or.inl ⟨by rfl, by intro w; go_simp⟩) ?_
      simp only [Act.put, List.setIfInBounds_toArray, List.set_cons_zero, List.set_cons_succ]
      refine wpAny_take (i := 5) (oi := ({ dst := some 21, op := Op.move (Operand.tmp 2), type := 3, pos := "zsortanyfunc.go:331", after := #[{ on := 21, ground := Ground.gcOnly Departure.lateStores }], guard := none } : Oper)) (v := (.int .i64 (b : Int))) rfl (by kernel_rfl) (by kernel_rfl) (by kernel_rfl) (fun _ _ _ h => h) (Or.inl ⟨by rfl, by intro w; go_simp⟩) ?_
      simp only [Act.put, List.setIfInBounds_toArray, List.set_cons_zero, List.set_cons_succ]
      refine wpAny_take (i := 6) (oi := ({ dst := some 22, op := Op.move (Operand.tmp 10), type := 3, pos := "zsortanyfunc.go:331", after := #[{ on := 21, ground := Ground.gcOnly Departure.lateStores }], guard := none } : Oper)) (v := (.int .i64 (k : Int))) rfl (by kernel_rfl) (by kernel_rfl) (by kernel_rfl) (fun _ _ _ h => h) (Or.inl ⟨by rfl, by intro w; go_simp⟩) ?_
      simp only [Act.put, List.setIfInBounds_toArray, List.set_cons_zero, List.set_cons_succ]
      refine wpAny_take (i := 7) (oi := ({ dst := some 23, op := Op.binOp BinOp.add 3 (Operand.tmp 21) (Operand.tmp 22) 3, type := 3, pos := "zsortanyfunc.go:331", after := #[{ on := 5, ground := Ground.data }, { on := 6, ground := Ground.data }, { on := 21, ground := Ground.gcOnly Departure.lateStores }], guard := none } : Oper)) (v := (.int .i64 (q : Int))) rfl (by kernel_rfl) (by kernel_rfl) (by kernel_rfl) (fun _ _ _ h => h) (Or.inl ⟨by rfl, by intro w; go_simp⟩) ?_
      simp only [Act.put, List.setIfInBounds_toArray, List.set_cons_zero, List.set_cons_succ]
      refine wpAny_take (i := 8) (oi := ({ dst := some 24, op := Op.move (Operand.tmp 0), type := 34, pos := "zsortanyfunc.go:331", after := #[], guard := none } : Oper)) (v := (.slice (some ⟨g, 0, none⟩) N C)) rfl (by kernel_rfl) (by kernel_rfl) (by kernel_rfl) (fun _ _ _ h => h) (Or.inl ⟨by rfl, by intro w; go_simp⟩) ?_
      simp only [Act.put, List.setIfInBounds_toArray, List.set_cons_zero, List.set_cons_succ]
      refine wpAny_take (i := 9) (oi := ({ dst := some 25, op := Op.move (Operand.tmp 2), type := 3, pos := "zsortanyfunc.go:331", after := #[], guard := none } : Oper)) (v := (.int .i64 (b : Int))) rfl (by kernel_rfl) (by kernel_rfl) (by kernel_rfl) (fun _ _ _ h => h) (Or.inl ⟨by rfl, by intro w; go_simp⟩) ?_
      simp only [Act.put, List.setIfInBounds_toArray, List.set_cons_zero, List.set_cons_succ]
      refine wpAny_take (i := 10) (oi := ({ dst := some 26, op := Op.move (Operand.tmp 10), type := 3, pos := "zsortanyfunc.go:331", after := #[], guard := none } : Oper)) (v := (.int .i64 (k : Int))) rfl (by kernel_rfl) (by kernel_rfl) (by kernel_rfl) (fun _ _ _ h => h) (Or.inl ⟨by rfl, by intro w; go_simp⟩) ?_
      simp only [Act.put, List.setIfInBounds_toArray, List.set_cons_zero, List.set_cons_succ]
      refine wpAny_take (i := 11) (oi := ({ dst := some 27, op := Op.binOp BinOp.add 3 (Operand.tmp 25) (Operand.tmp 26) 3, type := 3, pos := "zsortanyfunc.go:331", after := #[{ on := 9, ground := Ground.data }, { on := 10, ground := Ground.data }], guard := none } : Oper)) (v := (.int .i64 (q : Int))) rfl (by kernel_rfl) (by kernel_rfl) (by kernel_rfl) (fun _ _ _ h => h) (Or.inl ⟨by rfl, by intro w; go_simp⟩) ?_
      simp only [Act.put, List.setIfInBounds_toArray, List.set_cons_zero, List.set_cons_succ]
      refine wpAny_take (i := 12) (oi := ({ dst := some 28, op := Op.indexAddr 34 (Operand.tmp 24) (Operand.tmp 27), type := 0, pos := "zsortanyfunc.go:331", after := #[{ on := 8, ground := Ground.data }, { on := 11, ground := Ground.data }], guard := none } : Oper)) (v := (.pointer (some ⟨g, q * 9, none⟩))) rfl (by kernel_rfl) (by kernel_rfl) (by kernel_rfl) (fun _ _ _ h => h) (Or.inl ⟨by rfl, by intro w; go_simp⟩) ?_
      simp only [Act.put, List.setIfInBounds_toArray, List.set_cons_zero, List.set_cons_succ]
      refine wpAny_take (i := 14) (oi := ({ dst := some 30, op := Op.move (Operand.tmp 0), type := 34, pos := "zsortanyfunc.go:331", after := #[], guard := none } : Oper)) (v := (.slice (some ⟨g, 0, none⟩) N C)) rfl (by kernel_rfl) (by kernel_rfl) (by kernel_rfl) (fun _ _ _ h => h) (Or.inl ⟨by rfl, by intro w; go_simp⟩) ?_
      simp only [Act.put, List.setIfInBounds_toArray, List.set_cons_zero, List.set_cons_succ]
      refine wpAny_take (i := 15) (oi := ({ dst := some 31, op := Op.move (Operand.tmp 1), type := 3, pos := "zsortanyfunc.go:331", after := #[], guard := none } : Oper)) (v := (.int .i64 (a : Int))) rfl (by kernel_rfl) (by kernel_rfl) (by kernel_rfl) (fun _ _ _ h => h) (Or.inl ⟨by rfl, by intro w; go_simp⟩) ?_
      simp only [Act.put, List.setIfInBounds_toArray, List.set_cons_zero, List.set_cons_succ]
      refine wpAny_take (i := 16) (oi := ({ dst := some 32, op := Op.move (Operand.tmp 10), type := 3, pos := "zsortanyfunc.go:331", after := #[], guard := none } : Oper)) (v := (.int .i64 (k : Int))) rfl (by kernel_rfl) (by kernel_rfl) (by kernel_rfl) (fun _ _ _ h => h) (Or.inl ⟨by rfl, by intro w; go_simp⟩) ?_
      simp only [Act.put, List.setIfInBounds_toArray, List.set_cons_zero, List.set_cons_succ]
      refine wpAny_take (i := 17) (oi := ({ dst := some 33, op := Op.binOp BinOp.add 3 (Operand.tmp 31) (Operand.tmp 32) 3, type := 3, pos := "zsortanyfunc.go:331", after := #[{ on := 15, ground := Ground.data }, { on := 16, ground := Ground.data }], guard := none } : Oper)) (v := (.int .i64 (p : Int))) rfl (by kernel_rfl) (by kernel_rfl) (by kernel_rfl) (fun _ _ _ h => h) (Or.inl ⟨by rfl, by intro w; go_simp⟩) ?_
      simp only [Act.put, List.setIfInBounds_toArray, List.set_cons_zero, List.set_cons_succ]
      refine wpAny_take (i := 18) (oi := ({ dst := some 34, op := Op.indexAddr 34 (Operand.tmp 30) (Operand.tmp 33), type := 0, pos := "zsortanyfunc.go:331", after := #[{ on := 14, ground := Ground.data }, { on := 17, ground := Ground.data }], guard := none } : Oper)) (v := (.pointer (some ⟨g, p * 9, none⟩))) rfl (by kernel_rfl) (by kernel_rfl) (by kernel_rfl) (fun _ _ _ h => h) (Or.inl ⟨by rfl, by intro w; go_simp⟩) ?_
      simp only [Act.put, List.setIfInBounds_toArray, List.set_cons_zero, List.set_cons_succ]
      refine wpAny_ready (rs := [13, 19]) (by kernel_rfl) (by simp) ?_
      refine AllReady.cons (o := ({ dst := some 29, op := Op.load 53 (Operand.tmp 28), type := 53, pos := "zsortanyfunc.go:331", after := #[{ on := 12, ground := Ground.data }], guard := none } : Oper)) rfl (fun K hK => ?_) (AllReady.cons (o := ({ dst := some 35, op := Op.load 53 (Operand.tmp 34), type := 53, pos := "zsortanyfunc.go:331", after := #[{ on := 18, ground := Ground.data }], guard := none } : Oper)) rfl (fun K hK => ?_) AllReady.nil)
      · rw [if_pos (by rfl)]
        with_reducible refine wp_load_mid 53 (.tmp 28) ?_ g (q * 9) ?_ y.cells _ (HR1.out.row.range HY.out) Try.underlying53 rfl (info_credL _) ?_
        · rfl
        · rfl
        refine hK _ _ ?_
        clear hK K
        simp only [Act.put, List.setIfInBounds_toArray, List.set_cons_zero, List.set_cons_succ]
        refine wpAny_ready (rs := [19]) (by kernel_rfl) (by simp) ?_
        refine AllReady.cons (o := ({ dst := some 35, op := Op.load 53 (Operand.tmp 34), type := 53, pos := "zsortanyfunc.go:331", after := #[{ on := 18, ground := Ground.data }], guard := none } : Oper)) rfl (fun K hK => ?_) AllReady.nil
        rw [if_pos (by rfl)]
        with_reducible refine wp_load_mid 53 (.tmp 34) ?_ g (p * 9) ?_ x.cells _ (HR1.out.row.range HX.out) Try.underlying53 rfl (info_credL _) ?_
        · rfl
        · rfl
        refine hK _ _ ?_
        clear hK K
        simp only [Act.put, List.setIfInBounds_toArray, List.set_cons_zero, List.set_cons_succ]
        refine wpAny_take (i := 20) (oi := ({ dst := some 36, op := Op.indexAddr 34 (Operand.tmp 16) (Operand.tmp 19), type := 0, pos := "zsortanyfunc.go:331", after := #[{ on := 0, ground := Ground.data }, { on := 3, ground := Ground.data }, { on := 0, ground := Ground.phase }, { on := 1, ground := Ground.phase }, { on := 2, ground := Ground.phase }, { on := 3, ground := Ground.phase }, { on := 4, ground := Ground.textOnly Departure.lateStores }, { on := 5, ground := Ground.textOnly Departure.lateStores }, { on := 6, ground := Ground.textOnly Departure.lateStores }, { on := 7, ground := Ground.textOnly Departure.lateStores }, { on := 8, ground := Ground.phase }, { on := 9, ground := Ground.phase }, { on := 10, ground := Ground.phase }, { on := 11, ground := Ground.phase }, { on := 12, ground := Ground.phase }, { on := 13, ground := Ground.phase }, { on := 14, ground := Ground.textOnly Departure.lateStores }, { on := 15, ground := Ground.textOnly Departure.lateStores }, { on := 16, ground := Ground.textOnly Departure.lateStores }, { on := 17, ground := Ground.textOnly Departure.lateStores }, { on := 18, ground := Ground.textOnly Departure.lateStoresUnsure }, { on := 19, ground := Ground.phase }], guard := none } : Oper)) (v := (.pointer (some ⟨g, p * 9, none⟩))) rfl (by kernel_rfl) (by kernel_rfl) (by kernel_rfl) (fun _ _ _ h => h) (Or.inl ⟨by rfl, by intro w; go_simp⟩) ?_
        simp only [Act.put, List.setIfInBounds_toArray, List.set_cons_zero, List.set_cons_succ]
        refine wpAny_ready (rs := [21]) (by kernel_rfl) (by simp) ?_
        refine AllReady.cons (o := ({ dst := none, op := Op.store 53 (Operand.tmp 36) (Operand.tmp 29), type := 0, pos := "zsortanyfunc.go:331", after := #[{ on := 20, ground := Ground.data }, { on := 13, ground := Ground.data }, { on := 0, ground := Ground.phase }, { on := 1, ground := Ground.phase }, { on := 2, ground := Ground.phase }, { on := 3, ground := Ground.phase }, { on := 4, ground := Ground.textOnly Departure.lateStores }, { on := 5, ground := Ground.textOnly Departure.lateStores }, { on := 6, ground := Ground.textOnly Departure.lateStores }, { on := 7, ground := Ground.textOnly Departure.lateStores }, { on := 8, ground := Ground.phase }, { on := 9, ground := Ground.phase }, { on := 10, ground := Ground.phase }, { on := 11, ground := Ground.phase }, { on := 12, ground := Ground.phase }, { on := 13, ground := Ground.phase }, { on := 14, ground := Ground.textOnly Departure.lateStores }, { on := 15, ground := Ground.textOnly Departure.lateStores }, { on := 16, ground := Ground.textOnly Departure.lateStores }, { on := 17, ground := Ground.textOnly Departure.lateStores }, { on := 18, ground := Ground.textOnly Departure.lateStoresUnsure }, { on := 19, ground := Ground.phase }], guard := none } : Oper)) rfl (fun K hK => ?_) AllReady.nil
        rw [if_pos (by rfl)]
        with_reducible refine wp_store_mid 53 (.tmp 36) (.tmp 29) ?_ g (p * 9) (y.cells).toArray ?_ ?_ (HR1.out.row.thereC (by have := HCL.out; omega) y) (info_credC _) (one_credC _) ?_
        · rfl
        · rfl
        · rfl
        refine hK _ _ ?_
        clear hK K
        simp only [Act.put, List.toList_toArray]
        refine wpAny_take (i := 22) (oi := ({ dst := some 37, op := Op.indexAddr 34 (Operand.tmp 20) (Operand.tmp 23), type := 0, pos := "zsortanyfunc.go:331", after := #[{ on := 4, ground := Ground.data }, { on := 7, ground := Ground.data }, { on := 0, ground := Ground.phase }, { on := 1, ground := Ground.phase }, { on := 2, ground := Ground.phase }, { on := 3, ground := Ground.phase }, { on := 4, ground := Ground.phase }, { on := 5, ground := Ground.phase }, { on := 6, ground := Ground.phase }, { on := 7, ground := Ground.phase }, { on := 8, ground := Ground.phase }, { on := 9, ground := Ground.phase }, { on := 10, ground := Ground.phase }, { on := 11, ground := Ground.phase }, { on := 12, ground := Ground.phase }, { on := 13, ground := Ground.phase }, { on := 14, ground := Ground.phase }, { on := 15, ground := Ground.phase }, { on := 16, ground := Ground.phase }, { on := 17, ground := Ground.phase }, { on := 18, ground := Ground.phase }, { on := 19, ground := Ground.phase }, { on := 20, ground := Ground.phase }, { on := 21, ground := Ground.phase }], guard := none } : Oper)) (v := (.pointer (some ⟨g, q * 9, none⟩))) rfl (by kernel_rfl) (by kernel_rfl) (by kernel_rfl) (fun _ _ _ h => h) (Or.inl ⟨by rfl, by intro w; go_simp⟩) ?_
        simp only [Act.put, List.setIfInBounds_toArray, List.set_cons_zero, List.set_cons_succ]
        refine wpAny_ready (rs := [23]) (by kernel_rfl) (by simp) ?_
        refine AllReady.cons (o := ({ dst := none, op := Op.store 53 (Operand.tmp 37) (Operand.tmp 35), type := 0, pos := "zsortanyfunc.go:331", after := #[{ on := 22, ground := Ground.data }, { on := 19, ground := Ground.data }, { on := 21, ground := Ground.chain }, { on := 0, ground := Ground.phase }, { on := 1, ground := Ground.phase }, { on := 2, ground := Ground.phase }, { on := 3, ground := Ground.phase }, { on := 4, ground := Ground.phase }, { on := 5, ground := Ground.phase }, { on := 6, ground := Ground.phase }, { on := 7, ground := Ground.phase }, { on := 8, ground := Ground.phase }, { on := 9, ground := Ground.phase }, { on := 10, ground := Ground.phase }, { on := 11, ground := Ground.phase }, { on := 12, ground := Ground.phase }, { on := 13, ground := Ground.phase }, { on := 14, ground := Ground.phase }, { on := 15, ground := Ground.phase }, { on := 16, ground := Ground.phase }, { on := 17, ground := Ground.phase }, { on := 18, ground := Ground.phase }, { on := 19, ground := Ground.phase }, { on := 20, ground := Ground.phase }, { on := 21, ground := Ground.phase }], guard := none } : Oper)) rfl (fun K hK => ?_) AllReady.nil
        rw [if_pos (by rfl)]
        with_reducible refine wp_store_mid 53 (.tmp 37) (.tmp 35) ?_ g (q * 9) (x.cells).toArray ?_ ?_ (HR2.out.row.thereC (by rw [List.length_set]; have := HCL.out; omega) x) (info_credC _) (one_credC _) ?_
        · rfl
        · rfl
        · rfl
        refine hK _ _ ?_
        clear hK K
        simp only [Act.put, List.toList_toArray]
        refine wpAny_done (by kernel_rfl) ?_ _
        go_wp2
        go_roundw
        case rel => exact ⟨k + 1, _, by go_num, by omega, hid HS.out, HR3.out⟩
        case measure => simp [intOf]; omega
      · rw [if_pos (by rfl)]
        with_reducible refine wp_load_mid 53 (.tmp 34) ?_ g (p * 9) ?_ x.cells _ (HR1.out.row.range HX.out) Try.underlying53 rfl (info_credL _) ?_
        · rfl
        · rfl
        refine hK _ _ ?_
        clear hK K
        simp only [Act.put, List.setIfInBounds_toArray, List.set_cons_zero, List.set_cons_succ]
        refine wpAny_ready (rs := [13]) (by kernel_rfl) (by simp) ?_
        refine AllReady.cons (o := ({ dst := some 29, op := Op.load 53 (Operand.tmp 28), type := 53, pos := "zsortanyfunc.go:331", after := #[{ on := 12, ground := Ground.data }], guard := none } : Oper)) rfl (fun K hK => ?_) AllReady.nil
        rw [if_pos (by rfl)]
        with_reducible refine wp_load_mid 53 (.tmp 28) ?_ g (q * 9) ?_ y.cells _ (HR1.out.row.range HY.out) Try.underlying53 rfl (info_credL _) ?_
        · rfl
        · rfl
        refine hK _ _ ?_
        clear hK K
        simp only [Act.put, List.setIfInBounds_toArray, List.set_cons_zero, List.set_cons_succ]
        refine wpAny_take (i := 20) (oi := ({ dst := some 36, op := Op.indexAddr 34 (Operand.tmp 16) (Operand.tmp 19), type := 0, pos := "zsortanyfunc.go:331", after := #[{ on := 0, ground := Ground.data }, { on := 3, ground := Ground.data }, { on := 0, ground := Ground.phase }, { on := 1, ground := Ground.phase }, { on := 2, ground := Ground.phase }, { on := 3, ground := Ground.phase }, { on := 4, ground := Ground.textOnly Departure.lateStores }, { on := 5, ground := Ground.textOnly Departure.lateStores }, { on := 6, ground := Ground.textOnly Departure.lateStores }, { on := 7, ground := Ground.textOnly Departure.lateStores }, { on := 8, ground := Ground.phase }, { on := 9, ground := Ground.phase }, { on := 10, ground := Ground.phase }, { on := 11, ground := Ground.phase }, { on := 12, ground := Ground.phase }, { on := 13, ground := Ground.phase }, { on := 14, ground := Ground.textOnly Departure.lateStores }, { on := 15, ground := Ground.textOnly Departure.lateStores }, { on := 16, ground := Ground.textOnly Departure.lateStores }, { on := 17, ground := Ground.textOnly Departure.lateStores }, { on := 18, ground := Ground.textOnly Departure.lateStoresUnsure }, { on := 19, ground := Ground.phase }], guard := none } : Oper)) (v := (.pointer (some ⟨g, p * 9, none⟩))) rfl (by kernel_rfl) (by kernel_rfl) (by kernel_rfl) (fun _ _ _ h => h) (Or.inl ⟨by rfl, by intro w; go_simp⟩) ?_
        simp only [Act.put, List.setIfInBounds_toArray, List.set_cons_zero, List.set_cons_succ]
        refine wpAny_ready (rs := [21]) (by kernel_rfl) (by simp) ?_
        refine AllReady.cons (o := ({ dst := none, op := Op.store 53 (Operand.tmp 36) (Operand.tmp 29), type := 0, pos := "zsortanyfunc.go:331", after := #[{ on := 20, ground := Ground.data }, { on := 13, ground := Ground.data }, { on := 0, ground := Ground.phase }, { on := 1, ground := Ground.phase }, { on := 2, ground := Ground.phase }, { on := 3, ground := Ground.phase }, { on := 4, ground := Ground.textOnly Departure.lateStores }, { on := 5, ground := Ground.textOnly Departure.lateStores }, { on := 6, ground := Ground.textOnly Departure.lateStores }, { on := 7, ground := Ground.textOnly Departure.lateStores }, { on := 8, ground := Ground.phase }, { on := 9, ground := Ground.phase }, { on := 10, ground := Ground.phase }, { on := 11, ground := Ground.phase }, { on := 12, ground := Ground.phase }, { on := 13, ground := Ground.phase }, { on := 14, ground := Ground.textOnly Departure.lateStores }, { on := 15, ground := Ground.textOnly Departure.lateStores }, { on := 16, ground := Ground.textOnly Departure.lateStores }, { on := 17, ground := Ground.textOnly Departure.lateStores }, { on := 18, ground := Ground.textOnly Departure.lateStoresUnsure }, { on := 19, ground := Ground.phase }], guard := none } : Oper)) rfl (fun K hK => ?_) AllReady.nil
        rw [if_pos (by rfl)]
        with_reducible refine wp_store_mid 53 (.tmp 36) (.tmp 29) ?_ g (p * 9) (y.cells).toArray ?_ ?_ (HR1.out.row.thereC (by have := HCL.out; omega) y) (info_credC _) (one_credC _) ?_
        · rfl
        · rfl
        · rfl
        refine hK _ _ ?_
        clear hK K
        simp only [Act.put, List.toList_toArray]
        refine wpAny_take (i := 22) (oi := ({ dst := some 37, op := Op.indexAddr 34 (Operand.tmp 20) (Operand.tmp 23), type := 0, pos := "zsortanyfunc.go:331", after := #[{ on := 4, ground := Ground.data }, { on := 7, ground := Ground.data }, { on := 0, ground := Ground.phase }, { on := 1, ground := Ground.phase }, { on := 2, ground := Ground.phase }, { on := 3, ground := Ground.phase }, { on := 4, ground := Ground.phase }, { on := 5, ground := Ground.phase }, { on := 6, ground := Ground.phase }, { on := 7, ground := Ground.phase }, { on := 8, ground := Ground.phase }, { on := 9, ground := Ground.phase }, { on := 10, ground := Ground.phase }, { on := 11, ground := Ground.phase }, { on := 12, ground := Ground.phase }, { on := 13, ground := Ground.phase }, { on := 14, ground := Ground.phase }, { on := 15, ground := Ground.phase }, { on := 16, ground := Ground.phase }, { on := 17, ground := Ground.phase }, { on := 18, ground := Ground.phase }, { on := 19, ground := Ground.phase }, { on := 20, ground := Ground.phase }, { on := 21, ground := Ground.phase }], guard := none } : Oper)) (v := (.pointer (some ⟨g, q * 9, none⟩))) rfl (by kernel_rfl) (by kernel_rfl) (by kernel_rfl) (fun _ _ _ h => h) (Or.inl ⟨by rfl, by intro w; go_simp⟩) ?_
        simp only [Act.put, List.setIfInBounds_toArray, List.set_cons_zero, List.set_cons_succ]
        refine wpAny_ready (rs := [23]) (by kernel_rfl) (by simp) ?_
        refine AllReady.cons (o := ({ dst := none, op := Op.store 53 (Operand.tmp 37) (Operand.tmp 35), type := 0, pos := "zsortanyfunc.go:331", after := #[{ on := 22, ground := Ground.data }, { on := 19, ground := Ground.data }, { on := 21, ground := Ground.chain }, { on := 0, ground := Ground.phase }, { on := 1, ground := Ground.phase }, { on := 2, ground := Ground.phase }, { on := 3, ground := Ground.phase }, { on := 4, ground := Ground.phase }, { on := 5, ground := Ground.phase }, { on := 6, ground := Ground.phase }, { on := 7, ground := Ground.phase }, { on := 8, ground := Ground.phase }, { on := 9, ground := Ground.phase }, { on := 10, ground := Ground.phase }, { on := 11, ground := Ground.phase }, { on := 12, ground := Ground.phase }, { on := 13, ground := Ground.phase }, { on := 14, ground := Ground.phase }, { on := 15, ground := Ground.phase }, { on := 16, ground := Ground.phase }, { on := 17, ground := Ground.phase }, { on := 18, ground := Ground.phase }, { on := 19, ground := Ground.phase }, { on := 20, ground := Ground.phase }, { on := 21, ground := Ground.phase }], guard := none } : Oper)) rfl (fun K hK => ?_) AllReady.nil
        rw [if_pos (by rfl)]
        with_reducible refine wp_store_mid 53 (.tmp 37) (.tmp 35) ?_ g (q * 9) (x.cells).toArray ?_ ?_ (HR2.out.row.thereC (by rw [List.length_set]; have := HCL.out; omega) x) (info_credC _) (one_credC _) ?_
        · rfl
        · rfl
        · rfl
        refine hK _ _ ?_
        clear hK K
        simp only [Act.put, List.toList_toArray]
        refine wpAny_done (by kernel_rfl) ?_ _
        go_wp2
        go_roundw
        case rel => exact ⟨k + 1, _, by go_num, by omega, hid HS.out, HR3.out⟩
        case measure => simp [intOf]; omega
    · obtain rfl : n = k := by omega
      go_wp2
      go_end0
      exact ⟨rfl, by rw [← HE.out, ← HC.out]; exact R⟩

/-- What is left to rotate, and where: U and V lie where they are to lie. -/
def Rot (P X Y S cur : List Crd) (m i j : Nat) : Prop := ∃ U Xr Yr V, cur = P ++ U ++ Xr ++ Yr ++ V ++ S ∧ Xr.length = i ∧ Yr.length = j ∧ P.length + U.length + i = m ∧ U ++ Yr ++ Xr ++ V = Y ++ X
set_option maxHeartbeats 4000000 in
theorem rotate_any {w0 w : World} {B g C : Nat} {tl : List Value} (P X Y S : List Crd) (N a m b : Nat) (hN : (P ++ X ++ Y ++ S).length = N) (hNm : N ≤ 1000000000) (ha : P.length = a) (hm : P.length + X.length = m) (hb : P.length + X.length + Y.length = b) (hx : 0 < X.length) (hy : 0 < Y.length) (h : Rw w0 w B g tl (P ++ X ++ Y ++ S)) (cv : Value) :
    Calls Try.prog 67 #[.slice (some ⟨g, 0, none⟩) N C, .int .i64 a, .int .i64 m, .int .i64 b, cv] w fun e w' => e = .returned (.tuple #[]) ∧ Rw w0 w' B g tl (P ++ Y ++ X ++ S) := by
  have HR := hid h
  have HRot : Hid (Rot P X Y S (P ++ X ++ Y ++ S) m (m - a) (b - m)) := hid ⟨[], X, Y, [], by simp, by omega, by omega, by simp; omega, by simp⟩
  have hNN : P.length + X.length + Y.length + S.length = N := by rw [← hN]; simp only [List.length_append]
  have HST : Hid (∀ cur i j, Rot P X Y S cur m i j → cur.length = N ∧ i ≤ m ∧ m + j ≤ N) := hid (fun cur i j hr => by
    obtain ⟨U, Xr, Yr, V, h1, h2, h3, h4, h5⟩ := hr
    have h6 := congrArg List.length h5
    rw [h1]
    simp only [List.length_append] at h6 ⊢
    omega)
  have SW : Hid (∀ (W : World) (cur : List Crd) (i j : Nat), Rot P X Y S cur m i j → Rw w0 W B g tl cur →
      (j < i → ∃ cur', Rot P X Y S cur' m (i - j) j ∧ Calls Try.prog 68 #[.slice (some ⟨g, 0, none⟩) N C, .int .i64 ((m - i : Nat) : Int), .int .i64 (m : Int), .int .i64 (j : Int), cv] W fun e w' => e = .returned (.tuple #[]) ∧ Rw w0 w' B g tl cur') ∧
      (i < j → ∃ cur', Rot P X Y S cur' m i (j - i) ∧ Calls Try.prog 68 #[.slice (some ⟨g, 0, none⟩) N C, .int .i64 ((m - i : Nat) : Int), .int .i64 ((m + j - i : Nat) : Int), .int .i64 (i : Int), cv] W fun e w' => e = .returned (.tuple #[]) ∧ Rw w0 w' B g tl cur') ∧
      (i = j → Calls Try.prog 68 #[.slice (some ⟨g, 0, none⟩) N C, .int .i64 ((m - i : Nat) : Int), .int .i64 (m : Int), .int .i64 (i : Int), cv] W fun e w' => e = .returned (.tuple #[]) ∧ Rw w0 w' B g tl (P ++ Y ++ X ++ S))) := hid (fun W cur i j hr hW => by
    obtain ⟨U, Xr, Yr, V, h1, h2, h3, h4, h5⟩ := hr
    have h6 := congrArg List.length h5
    simp only [List.length_append] at h6
    refine ⟨fun hlt => ?_, fun hlt => ?_, fun he => ?_⟩
    · have e : cur = (P ++ U) ++ Xr.take j ++ Xr.drop j ++ Yr ++ (V ++ S) := by rw [h1]; simp
      refine ⟨(P ++ U) ++ Yr ++ Xr.drop j ++ Xr.take j ++ (V ++ S), ⟨U ++ Yr, Xr.drop j, Xr.take j, V, by simp, by rw [List.length_drop]; omega, by rw [List.length_take]; omega, by rw [List.length_append]; omega, by rw [← h5]; simp⟩, ?_⟩
      refine swapRange_any (P ++ U) (Xr.take j) (Xr.drop j) Yr (V ++ S) N _ _ j ?_ hNm (by rw [List.length_take]; omega) h3 (by rw [List.length_append]; omega) (by rw [List.length_append, List.length_take, List.length_drop]; omega) (e ▸ hW) cv
      simp only [List.length_append, List.length_take, List.length_drop]; omega
    · have e : cur = (P ++ U) ++ Xr ++ Yr.take (j - i) ++ Yr.drop (j - i) ++ (V ++ S) := by rw [h1]; simp
      refine ⟨(P ++ U) ++ Yr.drop (j - i) ++ Yr.take (j - i) ++ Xr ++ (V ++ S), ⟨U, Yr.drop (j - i), Yr.take (j - i), Xr ++ V, by simp, by rw [List.length_drop]; omega, by rw [List.length_take]; omega, h4, by rw [← h5]; simp⟩, ?_⟩
      refine swapRange_any (P ++ U) Xr (Yr.take (j - i)) (Yr.drop (j - i)) (V ++ S) N _ _ i ?_ hNm h2 (by rw [List.length_drop]; omega) (by rw [List.length_append]; omega) (by rw [List.length_append, List.length_take]; omega) (e ▸ hW) cv
      simp only [List.length_append, List.length_take, List.length_drop]; omega
    · have e : cur = (P ++ U) ++ Xr ++ [] ++ Yr ++ (V ++ S) := by rw [h1]; simp
      have e2 : P ++ Y ++ X ++ S = (P ++ U) ++ Yr ++ [] ++ Xr ++ (V ++ S) := by rw [List.append_assoc P Y X, ← h5]; simp
      rw [e2]
      refine swapRange_any (P ++ U) Xr [] Yr (V ++ S) N _ _ i ?_ hNm h2 (by omega) (by rw [List.length_append]; omega) (by rw [List.length_append]; simp; omega) (e ▸ hW) cv
      simp only [List.length_append, List.length_nil]; omega)
  have ha' : a ≤ m := by omega
  have hm' : m ≤ b := by omega
  have hbN : b ≤ N := by omega
  have hi0 : 1 ≤ m - a := by omega
  have hj0 : 1 ≤ b - m := by omega
  have e1 : (m : Int) - (a : Int) = ((m - a : Nat) : Int) := by omega
  have e2 : (b : Int) - (m : Int) = ((b - m : Nat) : Int) := by omega
  clear hN h ha hm hb hx hy hNN
  obtain ⟨i0, hi⟩ : ∃ i0, m - a = i0 := ⟨_, rfl⟩
  obtain ⟨j0, hj⟩ : ∃ j0, b - m = j0 := ⟨_, rfl⟩
  rw [hi] at e1 hi0 HRot
  rw [hj] at e2 hj0 HRot
  clear hi hj
  go_enter Try.func67, Try.ntmps67
  go_wp2
  go_loopw [10, 11] (fun vi vj wr => ∃ (i j : Nat) (cur : List Crd), vi = .int .i64 i ∧ vj = .int .i64 j ∧ 1 ≤ i ∧ 1 ≤ j ∧ Hid (Rot P X Y S cur m i j) ∧ Rw w0 wr B g tl cur) (fun vi vj _ => (intOf vi).toNat + (intOf vj).toNat)
  case atStart => exact ⟨i0, j0, _, by first | rfl | rw [e1] | simp [e1], by first | rfl | rw [e2] | simp [e2], hi0, hj0, hid HRot.out, HR.out⟩
  case round =>
    obtain ⟨i, j, cur, rfl, rfl, hi1, hj1, HRc, R⟩ := hrel
    obtain ⟨hcl, him, hjN⟩ := HST.out cur i j HRc.out
    obtain ⟨s1, s2, s3⟩ := SW.out wr cur i j HRc.out R
    have f1 : (m : Int) - (i : Int) = ((m - i : Nat) : Int) := by omega
    have g0 : (0 : Int) ≤ (m : Int) - (i : Int) := by omega
    by_cases hgt : j < i
    · obtain ⟨cur', hrc, hcall⟩ := s1 hgt
      have HRC := hid hrc
      have HCALL := hid hcall
      have q1 : ¬ (i : Int) = (j : Int) := by omega
      have q2 : (j : Int) < (i : Int) := by omega
      have f2 : (i : Int) - (j : Int) = ((i - j : Nat) : Int) := by omega
      have qb : ((i : Int) == (j : Int)) = false := beq_eq_false_iff_ne.2 q1
      clear hcl s1 s2 s3 hrc hcall
      go_wp2_with fail
      refine HCALL.out.mono ?_
      rintro er w2 ⟨rfl, R2⟩
      go_wp2
      go_roundw
      case rel => exact ⟨i - j, j, cur', by first | rfl | rw [f2] | go_num, rfl, by omega, hj1, hid HRC.out, R2⟩
      case measure => simp [intOf]; omega
    · by_cases hlt : i < j
      · obtain ⟨cur', hrc, hcall⟩ := s2 hlt
        have HRC := hid hrc
        have HCALL := hid hcall
        have q1 : ¬ (i : Int) = (j : Int) := by omega
        have q2 : ¬ (j : Int) < (i : Int) := by omega
        have f2 : (j : Int) - (i : Int) = ((j - i : Nat) : Int) := by omega
        have f3 : (m : Int) + (j : Int) - (i : Int) = ((m + j - i : Nat) : Int) := by omega
        have qb : ((i : Int) == (j : Int)) = false := beq_eq_false_iff_ne.2 q1
        clear hcl s1 s2 s3 hrc hcall
        go_wp2_with fail
        refine HCALL.out.mono ?_
        rintro er w2 ⟨rfl, R2⟩
        go_wp2
        go_roundw
        case rel => exact ⟨i, j - i, cur', rfl, by first | rfl | rw [f2] | go_num, hi1, by omega, hid HRC.out, R2⟩
        case measure => simp [intOf]; omega
      · obtain rfl : i = j := by omega
        have HCALL := hid (s3 rfl)
        clear hcl s1 s2 s3
        go_wp2_with fail
        refine HCALL.out.mono ?_
        rintro er w2 ⟨rfl, R2⟩
        go_wp2
        go_end0
        exact ⟨rfl, R2⟩
end Go.Proofs.Ytkimhdcngagmaaa.Sh
