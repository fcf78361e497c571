import Derived.Test.YtkggagnaiiemlaaDoorCrSt1
/-
  slices.swapRangeCmpFunc and slices.rotateCmpFunc at credentials, by contract.
-/
namespace Go.Proofs.YtkggagnaiiemlaaDoor.Sh
open Go Go.RowKit
set_option linter.unusedSimpArgs false
set_option maxRecDepth 100000

theorem set_midL {A B : List Crd} {x y : Crd} {k : Nat} (h : A.length = k) : (A ++ x :: B).set k y = A ++ y :: B := by
  subst h
  rw [List.set_append_right _ _ (Nat.le_refl _), Nat.sub_self, List.set_cons_zero]
theorem get_midL {A B : List Crd} {x : Crd} {k : Nat} (h : A.length = k) : (A ++ x :: B)[k]? = some x := by
  subst h
  rw [List.getElem?_append_right (Nat.le_refl _), Nat.sub_self, List.getElem?_cons_zero]
/-- The first k of X and of Y exchanged. -/
def swp (P X M Y S : List Crd) (k : Nat) : List Crd := P ++ (Y.take k ++ X.drop k) ++ M ++ (X.take k ++ Y.drop k) ++ S
theorem swp_zero (P X M Y S : List Crd) : swp P X M Y S 0 = P ++ X ++ M ++ Y ++ S := by simp [swp]
theorem swp_all {P X M Y S : List Crd} {n : Nat} (hx : X.length = n) (hy : Y.length = n) : swp P X M Y S n = P ++ Y ++ M ++ X ++ S := by
  unfold swp
  rw [List.take_of_length_le (by omega), List.take_of_length_le (by omega), List.drop_of_length_le (by omega), List.drop_of_length_le (by omega)]
  simp
theorem swp_step {P X M Y S : List Crd} {n k a b : Nat} (hx : X.length = n) (hy : Y.length = n) (hk : k < n) (ha : P.length = a) (hb : P.length + X.length + M.length = b) :
    ∃ x y, (swp P X M Y S k)[a + k]? = some x ∧ (swp P X M Y S k)[b + k]? = some y ∧ ((swp P X M Y S k).set (a + k) y).set (b + k) x = swp P X M Y S (k + 1) := by
  have hkx : k < X.length := by omega
  have hky : k < Y.length := by omega
  obtain ⟨x, dx, tx⟩ : ∃ x, X.drop k = x :: X.drop (k + 1) ∧ X.take (k + 1) = X.take k ++ [x] := ⟨X[k], List.drop_eq_getElem_cons hkx, List.take_succ_eq_append_getElem hkx⟩
  obtain ⟨y, dy, ty⟩ : ∃ y, Y.drop k = y :: Y.drop (k + 1) ∧ Y.take (k + 1) = Y.take k ++ [y] := ⟨Y[k], List.drop_eq_getElem_cons hky, List.take_succ_eq_append_getElem hky⟩
  have e1 : swp P X M Y S k = (P ++ Y.take k) ++ x :: (X.drop (k + 1) ++ M ++ X.take k ++ y :: (Y.drop (k + 1) ++ S)) := by
    unfold swp
    rw [dx, dy]
    simp
  have e2 : ∀ z : Crd, (P ++ Y.take k) ++ z :: (X.drop (k + 1) ++ M ++ X.take k ++ y :: (Y.drop (k + 1) ++ S)) = ((P ++ Y.take k) ++ z :: (X.drop (k + 1) ++ M ++ X.take k)) ++ y :: (Y.drop (k + 1) ++ S) := fun z => by simp
  have l1 : (P ++ Y.take k).length = a + k := by rw [List.length_append, List.length_take]; omega
  have l2 : ∀ z : Crd, ((P ++ Y.take k) ++ z :: (X.drop (k + 1) ++ M ++ X.take k)).length = b + k := fun z => by
    simp only [List.length_append, List.length_cons, List.length_take, List.length_drop]; omega
  refine ⟨x, y, ?_, ?_, ?_⟩
  · rw [e1]; exact get_midL l1
  · rw [e1, e2]; exact get_midL (l2 _)
  · rw [e1, set_midL l1, e2, set_midL (l2 _)]
    unfold swp
    rw [tx, ty]
    simp
theorem swp_len (P X M Y S : List Crd) (k n : Nat) (hx : X.length = n) (hy : Y.length = n) (hk : k ≤ n) : (swp P X M Y S k).length = P.length + n + M.length + n + S.length := by
  unfold swp
  simp only [List.length_append, List.length_take, List.length_drop]
  omega

set_option maxHeartbeats 4000000 in
theorem swapRange_any {w0 w : World} {B g C : Nat} {tl : List Value} (P X M Y S : List Crd) (N a b n : Nat) (hN : (P ++ X ++ M ++ Y ++ S).length = N) (hNm : N ≤ 1000000000) (hx : X.length = n) (hy : Y.length = n) (ha : P.length = a) (hb : P.length + X.length + M.length = b) (h : Rw w0 w B g tl (P ++ X ++ M ++ Y ++ S)) (cv : Value) :
    Calls Tryd.prog 92 #[.slice (some ⟨g, 0, none⟩) N C, .int .i64 a, .int .i64 b, .int .i64 n, cv] w fun e w' => e = .returned (.tuple #[]) ∧ Rw w0 w' B g tl (P ++ Y ++ M ++ X ++ S) := by
  have hNN : P.length + n + M.length + n + S.length = N := by rw [← hN]; simp only [List.length_append]; omega
  have HR : Hid (Rw w0 w B g tl (swp P X M Y S 0)) := hid (by rw [swp_zero]; exact h)
  have HST := hid (fun k (hk : k < n) => swp_step (S := S) hx hy hk ha hb)
  have HLEN := hid (fun k (hk : k ≤ n) => (swp_len P X M Y S k n hx hy hk).trans hNN)
  have HE := hid (swp_all (P := P) (M := M) (S := S) hx hy)
  have hab : a + n ≤ b := by omega
  have hbn : b + n ≤ N := by omega
  clear hN h hx hy ha hb hNN
  go_enter Tryd.func92, Tryd.ntmps92
  go_wp2
  go_loopw [10] (fun i wr => ∃ (k : Nat) (cur : List Crd), i = .int .i64 k ∧ k ≤ n ∧ Hid (cur = swp P X M Y S k) ∧ Rw w0 wr B g tl cur) (fun i _ => n - (intOf i).toNat)
  case atStart => exact ⟨0, _, rfl, Nat.zero_le _, hid rfl, HR.out⟩
  case round =>
    obtain ⟨k, cur, rfl, hk, HC, R⟩ := hrel
    by_cases hlt : k < n
    · have hlt' : (k : Int) < (n : Int) := by omega
      have hcl : cur.length = N := by rw [HC.out]; exact HLEN.out k hk
      obtain ⟨p, hp⟩ : ∃ p, a + k = p := ⟨_, rfl⟩
      obtain ⟨q, hq⟩ : ∃ q, b + k = q := ⟨_, rfl⟩
      have hp' : (a : Int) + (k : Int) = (p : Int) := by omega
      have hq' : (b : Int) + (k : Int) = (q : Int) := by omega
      have hpN : (p : Int) < (N : Int) := by omega
      have hqN : (q : Int) < (N : Int) := by omega
      have wp := wrap_in (p : Int) (by omega)
      have wq := wrap_in (q : Int) (by omega)
      have ap := addr_row g (p * 9)
      have aq := addr_row g (q * 9)
      obtain ⟨x, y, hx, hy, hs⟩ := HST.out k hlt
      rw [← HC.out, hp] at hx hs
      rw [← HC.out, hq] at hy
      rw [hq] at hs
      have HX := hid hx
      have HY := hid hy
      have HS := hid hs
      have HR1 := hid R.drew
      have HCL := hid hcl
      have HR2 : Hid (Rw w0 (wr.drew.setCells g (p * 9) y.cells) B g tl (cur.set p y)) := hid (HR1.out.set (by omega) y)
      have HR3 : Hid (Rw w0 ((wr.drew.setCells g (p * 9) y.cells).setCells g (q * 9) x.cells) B g tl ((cur.set p y).set q x)) := hid (HR2.out.set (by rw [List.length_set]; omega) x)
      clear hp hq hx hy hs R hcl
      go_wp2_with fail
      refine wp_region_any (by kernel_rfl) ?_
      change wpAny _ _ _ _ _ _ _ (World.drew _)
      refine wpAny_take (i := 0) (oi := ({ dst := some 16, op := Op.move (Operand.tmp 0), type := 51, pos := "zsortanyfunc.go:331", after := #[], guard := none } : Oper)) (v := (.slice (some ⟨g, 0, none⟩) N C)) rfl (by kernel_rfl) (by kernel_rfl) (by kernel_rfl) (fun _ _ _ h => h) (Or.inl ⟨by rfl, by intro w; go_simp⟩) ?_
      simp only [Act.put, List.setIfInBounds_toArray, List.set_cons_zero, List.set_cons_succ]
      refine wpAny_take (i := 1) (oi := ({ dst := some 17, op := Op.move (Operand.tmp 1), type := 3, pos := "zsortanyfunc.go:331", after := #[], guard := none } : Oper)) (v := (.int .i64 (a : Int))) rfl (by kernel_rfl) (by kernel_rfl) (by kernel_rfl) (fun _ _ _ h => h) (Or.inl ⟨by rfl, by intro w; go_simp⟩) ?_
      simp only [Act.put, List.setIfInBounds_toArray, List.set_cons_zero, List.set_cons_succ]
      refine wpAny_take (i := 2) (oi := ({ dst := some 18, op := Op.move (Operand.tmp 10), type := 3, pos := "zsortanyfunc.go:331", after := #[], guard := none } : Oper)) (v := (.int .i64 (k : Int))) rfl (by kernel_rfl) (by kernel_rfl) (by kernel_rfl) (fun _ _ _ h => h) (Or.inl ⟨by rfl, by intro w; go_simp⟩) ?_
      simp only [Act.put, List.setIfInBounds_toArray, List.set_cons_zero, List.set_cons_succ]
      refine wpAny_take (i := 3) (oi := ({ dst := some 19, op := Op.binOp BinOp.add 3 (Operand.tmp 17) (Operand.tmp 18) 3, type := 3, pos := "zsortanyfunc.go:331", after := #[{ on := 1, ground := Ground.data }, { on := 2, ground := Ground.data }], guard := none } : Oper)) (v := (.int .i64 (p : Int))) rfl (by kernel_rfl) (by kernel_rfl) (by kernel_rfl) (fun _ _ _ h => h) (Or.inl ⟨by rfl, by intro w; go_simp⟩) ?_
      simp only [Act.put, List.setIfInBounds_toArray, List.set_cons_zero, List.set_cons_succ]
      refine wpAny_take (i := 4) (oi := ({ dst := some 20, op := Op.move (Operand.tmp 0), type := 51, pos := "zsortanyfunc.go:331", after := #[{ on := 21, ground := Ground.gcOnly Departure.lateStores }], guard := none } : Oper)) (v := (.slice (some ⟨g, 0, none⟩) N C)) rfl (by kernel_rfl) (by kernel_rfl) (by kernel_rfl) (fun _ _ _ h => h) (Or.inl ⟨by rfl, by intro w; go_simp⟩) ?_
      simp only [Act.put, List.setIfInBounds_toArray, List.set_cons_zero, List.set_cons_succ]
      refine wpAny_take (i := 5) (oi := ({ dst := some 21, op := Op.move (Operand.tmp 2), type := 3, pos := "zsortanyfunc.go:331", after := #[{ on := 21, ground := Ground.gcOnly Departure.lateStores }], guard := none } : Oper)) (v := (.int .i64 (b : Int))) rfl (by kernel_rfl) (by kernel_rfl) (by kernel_rfl) (fun _ _ _ h => h) (Or.inl ⟨by rfl, by intro w; go_simp⟩) ?_
      simp only [Act.put, List.setIfInBounds_toArray, List.set_cons_zero, List.set_cons_succ]
      refine wpAny_take (i := 6) (oi := ({ dst := some 22, op := Op.move (Operand.tmp 10), type := 3, pos := "zsortanyfunc.go:331", after := #[{ on := 21, ground := Ground.gcOnly Departure.lateStores }], guard := none } : Oper)) (v := (.int .i64 (k : Int))) rfl (by kernel_rfl) (by kernel_rfl) (by kernel_rfl) (fun _ _ _ h => h) (Or.inl ⟨by rfl, by intro w; go_simp⟩) ?_
      simp only [Act.put, List.setIfInBounds_toArray, List.set_cons_zero, List.set_cons_succ]
      refine wpAny_take (i := 7) (oi := ({ dst := some 23, op := Op.binOp BinOp.add 3 (Operand.tmp 21) (Operand.tmp 22) 3, type := 3, pos := "zsortanyfunc.go:331", after := #[{ on := 5, ground := Ground.data }, { on := 6, ground := Ground.data }, { on := 21, ground := Ground.gcOnly Departure.lateStores }], guard := none } : Oper)) (v := (.int .i64 (q : Int))) rfl (by kernel_rfl) (by kernel_rfl) (by kernel_rfl) (fun _ _ _ h => h) (Or.inl ⟨by rfl, by intro w; go_simp⟩) ?_
      simp only [Act.put, List.setIfInBounds_toArray, List.set_cons_zero, List.set_cons_succ]
      refine wpAny_take (i := 8) (oi := ({ dst := some 24, op := Op.move (Operand.tmp 0), type := 51, pos := "zsortanyfunc.go:331", after := #[], guard := none } : Oper)) (v := (.slice (some ⟨g, 0, none⟩) N C)) rfl (by kernel_rfl) (by kernel_rfl) (by kernel_rfl) (fun _ _ _ h => h) (Or.inl ⟨by rfl, by intro w; go_simp⟩) ?_
      simp only [Act.put, List.setIfInBounds_toArray, List.set_cons_zero, List.set_cons_succ]
      refine wpAny_take (i := 9) (oi := ({ dst := some 25, op := Op.move (Operand.tmp 2), type := 3, pos := "zsortanyfunc.go:331", after := #[], guard := none } : Oper)) (v := (.int .i64 (b : Int))) rfl (by kernel_rfl) (by kernel_rfl) (by kernel_rfl) (fun _ _ _ h => h) (Or.inl ⟨by rfl, by intro w; go_simp⟩) ?_
      simp only [Act.put, List.setIfInBounds_toArray, List.set_cons_zero, List.set_cons_succ]
      refine wpAny_take (i := 10) (oi := ({ dst := some 26, op := Op.move (Operand.tmp 10), type := 3, pos := "zsortanyfunc.go:331", after := #[], guard := none } : Oper)) (v := (.int .i64 (k : Int))) rfl (by kernel_rfl) (by kernel_rfl) (by kernel_rfl) (fun _ _ _ h => h) (Or.inl ⟨by rfl, by intro w; go_simp⟩) ?_
      simp only [Act.put, List.setIfInBounds_toArray, List.set_cons_zero, List.set_cons_succ]
      refine wpAny_take (i := 11) (oi := ({ dst := some 27, op := Op.binOp BinOp.add 3 (Operand.tmp 25) (Operand.tmp 26) 3, type := 3, pos := "zsortanyfunc.go:331", after := #[{ on := 9, ground := Ground.data }, { on := 10, ground := Ground.data }], guard := none } : Oper)) (v := (.int .i64 (q : Int))) rfl (by kernel_rfl) (by kernel_rfl) (by kernel_rfl) (fun _ _ _ h => h) (Or.inl ⟨by rfl, by intro w; go_simp⟩) ?_
      simp only [Act.put, List.setIfInBounds_toArray, List.set_cons_zero, List.set_cons_succ]
      refine wpAny_take (i := 12) (oi := ({ dst := some 28, op := Op.indexAddr 51 (Operand.tmp 24) (Operand.tmp 27), type := 0, pos := "zsortanyfunc.go:331", after := #[{ on := 8, ground := Ground.data }, { on := 11, ground := Ground.data }], guard := none } : Oper)) (v := (.pointer (some ⟨g, q * 9, none⟩))) rfl (by kernel_rfl) (by kernel_rfl) (by kernel_rfl) (fun _ _ _ h => h) (Or.inl ⟨by rfl, by intro w; go_simp⟩) ?_
      simp only [Act.put, List.setIfInBounds_toArray, List.set_cons_zero, List.set_cons_succ]
      refine wpAny_take (i := 14) (oi := ({ dst := some 30, op := Op.move (Operand.tmp 0), type := 51, pos := "zsortanyfunc.go:331", after := #[], guard := none } : Oper)) (v := (.slice (some ⟨g, 0, none⟩) N C)) rfl (by kernel_rfl) (by kernel_rfl) (by kernel_rfl) (fun _ _ _ h => h) (Or.inl ⟨by rfl, by intro w; go_simp⟩) ?_
      simp only [Act.put, List.setIfInBounds_toArray, List.set_cons_zero, List.set_cons_succ]
      refine wpAny_take (i := 15) (oi := ({ dst := some 31, op := Op.move (Operand.tmp 1), type := 3, pos := "zsortanyfunc.go:331", after := #[], guard := none } : Oper)) (v := (.int .i64 (a : Int))) rfl (by kernel_rfl) (by kernel_rfl) (by kernel_rfl) (fun _ _ _ h => h) (Or.inl ⟨by rfl, by intro w; go_simp⟩) ?_
      simp only [Act.put, List.setIfInBounds_toArray, List.set_cons_zero, List.set_cons_succ]
      refine wpAny_take (i := 16) (oi := ({ dst := some 32, op := Op.move (Operand.tmp 10), type := 3, pos := "zsortanyfunc.go:331", after := #[], guard := none } : Oper)) (v := (.int .i64 (k : Int))) rfl (by kernel_rfl) (by kernel_rfl) (by kernel_rfl) (fun _ _ _ h => h) (Or.inl ⟨by rfl, by intro w; go_simp⟩) ?_
      simp only [Act.put, List.setIfInBounds_toArray, List.set_cons_zero, List.set_cons_succ]
      refine wpAny_take (i := 17) (oi := ({ dst := some 33, op := Op.binOp BinOp.add 3 (Operand.tmp 31) (Operand.tmp 32) 3, type := 3, pos := "zsortanyfunc.go:331", after := #[{ on := 15, ground := Ground.data }, { on := 16, ground := Ground.data }], guard := none } : Oper)) (v := (.int .i64 (p : Int))) rfl (by kernel_rfl) (by kernel_rfl) (by kernel_rfl) (fun _ _ _ h => h) (Or.inl ⟨by rfl, by intro w; go_simp⟩) ?_
      simp only [Act.put, List.setIfInBounds_toArray, List.set_cons_zero, List.set_cons_succ]
      refine wpAny_take (i := 18) (oi := ({ dst := some 34, op := Op.indexAddr 51 (Operand.tmp 30) (Operand.tmp 33), type := 0, pos := "zsortanyfunc.go:331", after := #[{ on := 14, ground := Ground.data }, { on := 17, ground := Ground.data }], guard := none } : Oper)) (v := (.pointer (some ⟨g, p * 9, none⟩))) rfl (by kernel_rfl) (by kernel_rfl) (by kernel_rfl) (fun _ _ _ h => h) (Or.inl ⟨by rfl, by intro w; go_simp⟩) ?_
      simp only [Act.put, List.setIfInBounds_toArray, List.set_cons_zero, List.set_cons_succ]
      refine wpAny_ready (rs := [13, 19]) (by kernel_rfl) (by simp) ?_
      refine AllReady.cons (o := ({ dst := some 29, op := Op.load 27 (Operand.tmp 28), type := 27, pos := "zsortanyfunc.go:331", after := #[{ on := 12, ground := Ground.data }], guard := none } : Oper)) rfl (fun K hK => ?_) (AllReady.cons (o := ({ dst := some 35, op := Op.load 27 (Operand.tmp 34), type := 27, pos := "zsortanyfunc.go:331", after := #[{ on := 18, ground := Ground.data }], guard := none } : Oper)) rfl (fun K hK => ?_) AllReady.nil)
      · rw [if_pos (by rfl)]
        with_reducible refine wp_load_mid 27 (.tmp 28) ?_ g (q * 9) ?_ y.cells _ (HR1.out.row.range HY.out) Tryd.underlying27 rfl (info_credL _) ?_
        · rfl
        · rfl
        refine hK _ _ ?_
        clear hK K
        simp only [Act.put, List.setIfInBounds_toArray, List.set_cons_zero, List.set_cons_succ]
        refine wpAny_ready (rs := [19]) (by kernel_rfl) (by simp) ?_
        refine AllReady.cons (o := ({ dst := some 35, op := Op.load 27 (Operand.tmp 34), type := 27, pos := "zsortanyfunc.go:331", after := #[{ on := 18, ground := Ground.data }], guard := none } : Oper)) rfl (fun K hK => ?_) AllReady.nil
        rw [if_pos (by rfl)]
        with_reducible refine wp_load_mid 27 (.tmp 34) ?_ g (p * 9) ?_ x.cells _ (HR1.out.row.range HX.out) Tryd.underlying27 rfl (info_credL _) ?_
        · rfl
        · rfl
        refine hK _ _ ?_
        clear hK K
        simp only [Act.put, List.setIfInBounds_toArray, List.set_cons_zero, List.set_cons_succ]
        refine wpAny_take (i := 20) (oi := ({ dst := some 36, op := Op.indexAddr 51 (Operand.tmp 16) (Operand.tmp 19), type := 0, pos := "zsortanyfunc.go:331", after := #[{ on := 0, ground := Ground.data }, { on := 3, ground := Ground.data }, { on := 0, ground := Ground.phase }, { on := 1, ground := Ground.phase }, { on := 2, ground := Ground.phase }, { on := 3, ground := Ground.phase }, { on := 4, ground := Ground.textOnly Departure.lateStores }, { on := 5, ground := Ground.textOnly Departure.lateStores }, { on := 6, ground := Ground.textOnly Departure.lateStores }, { on := 7, ground := Ground.textOnly Departure.lateStores }, { on := 8, ground := Ground.phase }, { on := 9, ground := Ground.phase }, { on := 10, ground := Ground.phase }, { on := 11, ground := Ground.phase }, { on := 12, ground := Ground.phase }, { on := 13, ground := Ground.phase }, { on := 14, ground := Ground.textOnly Departure.lateStores }, { on := 15, ground := Ground.textOnly Departure.lateStores }, { on := 16, ground := Ground.textOnly Departure.lateStores }, { on := 17, ground := Ground.textOnly Departure.lateStores }, { on := 18, ground := Ground.textOnly Departure.lateStoresUnsure }, { on := 19, ground := Ground.phase }], guard := none } : Oper)) (v := (.pointer (some ⟨g, p * 9, none⟩))) rfl (by kernel_rfl) (by kernel_rfl) (by kernel_rfl) (fun _ _ _ h => h) (Or.inl ⟨by rfl, by intro w; go_simp⟩) ?_
        simp only [Act.put, List.setIfInBounds_toArray, List.set_cons_zero, List.set_cons_succ]
        refine wpAny_ready (rs := [21]) (by kernel_rfl) (by simp) ?_
        refine AllReady.cons (o := ({ dst := none, op := Op.store 27 (Operand.tmp 36) (Operand.tmp 29), type := 0, pos := "zsortanyfunc.go:331", after := #[{ on := 20, ground := Ground.data }, { on := 13, ground := Ground.data }, { on := 0, ground := Ground.phase }, { on := 1, ground := Ground.phase }, { on := 2, ground := Ground.phase }, { on := 3, ground := Ground.phase }, { on := 4, ground := Ground.textOnly Departure.lateStores }, { on := 5, ground := Ground.textOnly Departure.lateStores }, { on := 6, ground := Ground.textOnly Departure.lateStores }, { on := 7, ground := Ground.textOnly Departure.lateStores }, { on := 8, ground := Ground.phase }, { on := 9, ground := Ground.phase }, { on := 10, ground := Ground.phase }, { on := 11, ground := Ground.phase }, { on := 12, ground := Ground.phase }, { on := 13, ground := Ground.phase }, { on := 14, ground := Ground.textOnly Departure.lateStores }, { on := 15, ground := Ground.textOnly Departure.lateStores }, { on := 16, ground := Ground.textOnly Departure.lateStores }, { on := 17, ground := Ground.textOnly Departure.lateStores }, { on := 18, ground := Ground.textOnly Departure.lateStoresUnsure }, { on := 19, ground := Ground.phase }], guard := none } : Oper)) rfl (fun K hK => ?_) AllReady.nil
        rw [if_pos (by rfl)]
        with_reducible refine wp_store_mid 27 (.tmp 36) (.tmp 29) ?_ g (p * 9) (y.cells).toArray ?_ ?_ (HR1.out.row.thereC (by have := HCL.out; omega) y) (info_credC _) (one_credC _) ?_
        · rfl
        · rfl
        · rfl
        refine hK _ _ ?_
        clear hK K
        simp only [Act.put, List.toList_toArray]
        refine wpAny_take (i := 22) (oi := ({ dst := some 37, op := Op.indexAddr 51 (Operand.tmp 20) (Operand.tmp 23), type := 0, pos := "zsortanyfunc.go:331", after := #[{ on := 4, ground := Ground.data }, { on := 7, ground := Ground.data }, { on := 0, ground := Ground.phase }, { on := 1, ground := Ground.phase }, { on := 2, ground := Ground.phase }, { on := 3, ground := Ground.phase }, { on := 4, ground := Ground.phase }, { on := 5, ground := Ground.phase }, { on := 6, ground := Ground.phase }, { on := 7, ground := Ground.phase }, { on := 8, ground := Ground.phase }, { on := 9, ground := Ground.phase }, { on := 10, ground := Ground.phase }, { on := 11, ground := Ground.phase }, { on := 12, ground := Ground.phase }, { on := 13, ground := Ground.phase }, { on := 14, ground := Ground.phase }, { on := 15, ground := Ground.phase }, { on := 16, ground := Ground.phase }, { on := 17, ground := Ground.phase }, { on := 18, ground := Ground.phase }, { on := 19, ground := Ground.phase }, { on := 20, ground := Ground.phase }, { on := 21, ground := Ground.phase }], guard := none } : Oper)) (v := (.pointer (some ⟨g, q * 9, none⟩))) rfl (by kernel_rfl) (by kernel_rfl) (by kernel_rfl) (fun _ _ _ h => h) (Or.inl ⟨by rfl, by intro w; go_simp⟩) ?_
        simp only [Act.put, List.setIfInBounds_toArray, List.set_cons_zero, List.set_cons_succ]
        refine wpAny_ready (rs := [23]) (by kernel_rfl) (by simp) ?_
        refine AllReady.cons (o := ({ dst := none, op := Op.store 27 (Operand.tmp 37) (Operand.tmp 35), type := 0, pos := "zsortanyfunc.go:331", after := #[{ on := 22, ground := Ground.data }, { on := 19, ground := Ground.data }, { on := 21, ground := Ground.chain }, { on := 0, ground := Ground.phase }, { on := 1, ground := Ground.phase }, { on := 2, ground := Ground.phase }, { on := 3, ground := Ground.phase }, { on := 4, ground := Ground.phase }, { on := 5, ground := Ground.phase }, { on := 6, ground := Ground.phase }, { on := 7, ground := Ground.phase }, { on := 8, ground := Ground.phase }, { on := 9, ground := Ground.phase }, { on := 10, ground := Ground.phase }, { on := 11, ground := Ground.phase }, { on := 12, ground := Ground.phase }, { on := 13, ground := Ground.phase }, { on := 14, ground := Ground.phase }, { on := 15, ground := Ground.phase }, { on := 16, ground := Ground.phase }, { on := 17, ground := Ground.phase }, { on := 18, ground := Ground.phase }, { on := 19, ground := Ground.phase }, { on := 20, ground := Ground.phase }, { on := 21, ground := Ground.phase }], guard := none } : Oper)) rfl (fun K hK => ?_) AllReady.nil
        rw [if_pos (by rfl)]
        with_reducible refine wp_store_mid 27 (.tmp 37) (.tmp 35) ?_ g (q * 9) (x.cells).toArray ?_ ?_ (HR2.out.row.thereC (by rw [List.length_set]; have := HCL.out; omega) x) (info_credC _) (one_credC _) ?_
        · rfl
        · rfl
        · rfl
        refine hK _ _ ?_
        clear hK K
        simp only [Act.put, List.toList_toArray]
        refine wpAny_done (by kernel_rfl) ?_ _
        go_wp2
        go_roundw
        case rel => exact ⟨k + 1, _, by go_num, by omega, hid HS.out, HR3.out⟩
        case measure => simp [intOf]; omega
      · rw [if_pos (by rfl)]
        with_reducible refine wp_load_mid 27 (.tmp 34) ?_ g (p * 9) ?_ x.cells _ (HR1.out.row.range HX.out) Tryd.underlying27 rfl (info_credL _) ?_
        · rfl
        · rfl
        refine hK _ _ ?_
        clear hK K
        simp only [Act.put, List.setIfInBounds_toArray, List.set_cons_zero, List.set_cons_succ]
        refine wpAny_ready (rs := [13]) (by kernel_rfl) (by simp) ?_
        refine AllReady.cons (o := ({ dst := some 29, op := Op.load 27 (Operand.tmp 28), type := 27, pos := "zsortanyfunc.go:331", after := #[{ on := 12, ground := Ground.data }], guard := none } : Oper)) rfl (fun K hK => ?_) AllReady.nil
        rw [if_pos (by rfl)]
        with_reducible refine wp_load_mid 27 (.tmp 28) ?_ g (q * 9) ?_ y.cells _ (HR1.out.row.range HY.out) Tryd.underlying27 rfl (info_credL _) ?_
        · rfl
        · rfl
        refine hK _ _ ?_
        clear hK K
        simp only [Act.put, List.setIfInBounds_toArray, List.set_cons_zero, List.set_cons_succ]
        refine wpAny_take (i := 20) (oi := ({ dst := some 36, op := Op.indexAddr 51 (Operand.tmp 16) (Operand.tmp 19), type := 0, pos := "zsortanyfunc.go:331", after := #[{ on := 0, ground := Ground.data }, { on := 3, ground := Ground.data }, { on := 0, ground := Ground.phase }, { on := 1, ground := Ground.phase }, { on := 2, ground := Ground.phase }, { on := 3, ground := Ground.phase }, { on := 4, ground := Ground.textOnly Departure.lateStores }, { on := 5, ground := Ground.textOnly Departure.lateStores }, { on := 6, ground := Ground.textOnly Departure.lateStores }, { on := 7, ground := Ground.textOnly Departure.lateStores }, { on := 8, ground := Ground.phase }, { on := 9, ground := Ground.phase }, { on := 10, ground := Ground.phase }, { on := 11, ground := Ground.phase }, { on := 12, ground := Ground.phase }, { on := 13, ground := Ground.phase }, { on := 14, ground := Ground.textOnly Departure.lateStores }, { on := 15, ground := Ground.textOnly Departure.lateStores }, { on := 16, ground := Ground.textOnly Departure.lateStores }, { on := 17, ground := Ground.textOnly Departure.lateStores }, { on := 18, ground := Ground.textOnly Departure.lateStoresUnsure }, { on := 19, ground := Ground.phase }], guard := none } : Oper)) (v := (.pointer (some ⟨g, p * 9, none⟩))) rfl (by kernel_rfl) (by kernel_rfl) (by kernel_rfl) (fun _ _ _ h => h) (Or.inl ⟨by rfl, by intro w; go_simp⟩) ?_
        simp only [Act.put, List.setIfInBounds_toArray, List.set_cons_zero, List.set_cons_succ]
        refine wpAny_ready (rs := [21]) (by kernel_rfl) (by simp) ?_
        refine AllReady.cons (o := ({ dst := none, op := Op.store 27 (Operand.tmp 36) (Operand.tmp 29), type := 0, pos := "zsortanyfunc.go:331", after := #[{ on := 20, ground := Ground.data }, { on := 13, ground := Ground.data }, { on := 0, ground := Ground.phase }, { on := 1, ground := Ground.phase }, { on := 2, ground := Ground.phase }, { on := 3, ground := Ground.phase }, { on := 4, ground := Ground.textOnly Departure.lateStores }, { on := 5, ground := Ground.textOnly Departure.lateStores }, { on := 6, ground := Ground.textOnly Departure.lateStores }, { on := 7, ground := Ground.textOnly Departure.lateStores }, { on := 8, ground := Ground.phase }, { on := 9, ground := Ground.phase }, { on := 10, ground := Ground.phase }, { on := 11, ground := Ground.phase }, { on := 12, ground := Ground.phase }, { on := 13, ground := Ground.phase }, { on := 14, ground := Ground.textOnly Departure.lateStores }, { on := 15, ground := Ground.textOnly Departure.lateStores }, { on := 16, ground := Ground.textOnly Departure.lateStores }, { on := 17, ground := Ground.textOnly Departure.lateStores }, { on := 18, ground := Ground.textOnly Departure.lateStoresUnsure }, { on := 19, ground := Ground.phase }], guard := none } : Oper)) rfl (fun K hK => ?_) AllReady.nil
        rw [if_pos (by rfl)]
        with_reducible refine wp_store_mid 27 (.tmp 36) (.tmp 29) ?_ g (p * 9) (y.cells).toArray ?_ ?_ (HR1.out.row.thereC (by have := HCL.out; omega) y) (info_credC _) (one_credC _) ?_
        · rfl
        · rfl
        · rfl
        refine hK _ _ ?_
        clear hK K
        simp only [Act.put, List.toList_toArray]
        refine wpAny_take (i := 22) (oi := ({ dst := some 37, op := Op.indexAddr 51 (Operand.tmp 20) (Operand.tmp 23), type := 0, pos := "zsortanyfunc.go:331", after := #[{ on := 4, ground := Ground.data }, { on := 7, ground := Ground.data }, { on := 0, ground := Ground.phase }, { on := 1, ground := Ground.phase }, { on := 2, ground := Ground.phase }, { on := 3, ground := Ground.phase }, { on := 4, ground := Ground.phase }, { on := 5, ground := Ground.phase }, { on := 6, ground := Ground.phase }, { on := 7, ground := Ground.phase }, { on := 8, ground := Ground.phase }, { on := 9, ground := Ground.phase }, { on := 10, ground := Ground.phase }, { on := 11, ground := Ground.phase }, { on := 12, ground := Ground.phase }, { on := 13, ground := Ground.phase }, { on := 14, ground := Ground.phase }, { on := 15, ground := Ground.phase }, { on := 16, ground := Ground.phase }, { on := 17, ground := Ground.phase }, { on := 18, ground := Ground.phase }, { on := 19, ground := Ground.phase }, { on := 20, ground := Ground.phase }, { on := 21, ground := Ground.phase }], guard := none } : Oper)) (v := (.pointer (some ⟨g, q * 9, none⟩))) rfl (by kernel_rfl) (by kernel_rfl) (by kernel_rfl) (fun _ _ _ h => h) (Or.inl ⟨by rfl, by intro w; go_simp⟩) ?_
        simp only [Act.put, List.setIfInBounds_toArray, List.set_cons_zero, List.set_cons_succ]
        refine wpAny_ready (rs := [23]) (by kernel_rfl) (by simp) ?_
        refine AllReady.cons (o := ({ dst := none, op := Op.store 27 (Operand.tmp 37) (Operand.tmp 35), type := 0, pos := "zsortanyfunc.go:331", after := #[{ on := 22, ground := Ground.data }, { on := 19, ground := Ground.data }, { on := 21, ground := Ground.chain }, { on := 0, ground := Ground.phase }, { on := 1, ground := Ground.phase }, { on := 2, ground := Ground.phase }, { on := 3, ground := Ground.phase }, { on := 4, ground := Ground.phase }, { on := 5, ground := Ground.phase }, { on := 6, ground := Ground.phase }, { on := 7, ground := Ground.phase }, { on := 8, ground := Ground.phase }, { on := 9, ground := Ground.phase }, { on := 10, ground := Ground.phase }, { on := 11, ground := Ground.phase }, { on := 12, ground := Ground.phase }, { on := 13, ground := Ground.phase }, { on := 14, ground := Ground.phase }, { on := 15, ground := Ground.phase }, { on := 16, ground := Ground.phase }, { on := 17, ground := Ground.phase }, { on := 18, ground := Ground.phase }, { on := 19, ground := Ground.phase }, { on := 20, ground := Ground.phase }, { on := 21, ground := Ground.phase }], guard := none } : Oper)) rfl (fun K hK => ?_) AllReady.nil
        rw [if_pos (by rfl)]
        with_reducible refine wp_store_mid 27 (.tmp 37) (.tmp 35) ?_ g (q * 9) (x.cells).toArray ?_ ?_ (HR2.out.row.thereC (by rw [List.length_set]; have := HCL.out; omega) x) (info_credC _) (one_credC _) ?_
        · rfl
        · rfl
        · rfl
        refine hK _ _ ?_
        clear hK K
        simp only [Act.put, List.toList_toArray]
        refine wpAny_done (by kernel_rfl) ?_ _
        go_wp2
        go_roundw
        case rel => exact ⟨k + 1, _, by go_num, by omega, hid HS.out, HR3.out⟩
        case measure => simp [intOf]; omega
    · obtain rfl : n = k := by omega
      go_wp2
      go_end0
      exact ⟨rfl, by rw [← HE.out, ← HC.out]; exact R⟩

/-- What is left to rotate, and where: U and V lie where they are to lie. -/
def Rot (P X Y S cur : List Crd) (m i j : Nat) : Prop := ∃ U Xr Yr V, cur = P ++ U ++ Xr ++ Yr ++ V ++ S ∧ Xr.length = i ∧ Yr.length = j ∧ P.length + U.length + i = m ∧ U ++ Yr ++ Xr ++ V = Y ++ X
set_option maxHeartbeats 4000000 in
theorem rotate_any {w0 w : World} {B g C : Nat} {tl : List Value} (P X Y S : List Crd) (N a m b : Nat) (hN : (P ++ X ++ Y ++ S).length = N) (hNm : N ≤ 1000000000) (ha : P.length = a) (hm : P.length + X.length = m) (hb : P.length + X.length + Y.length = b) (hx : 0 < X.length) (hy : 0 < Y.length) (h : Rw w0 w B g tl (P ++ X ++ Y ++ S)) (cv : Value) :
    Calls Tryd.prog 87 #[.slice (some ⟨g, 0, none⟩) N C, .int .i64 a, .int .i64 m, .int .i64 b, cv] w fun e w' => e = .returned (.tuple #[]) ∧ Rw w0 w' B g tl (P ++ Y ++ X ++ S) := by
  have HR := hid h
  have HRot : Hid (Rot P X Y S (P ++ X ++ Y ++ S) m (m - a) (b - m)) := hid ⟨[], X, Y, [], by simp, by omega, by omega, by simp; omega, by simp⟩
  have hNN : P.length + X.length + Y.length + S.length = N := by rw [← hN]; simp only [List.length_append]
  have HST : Hid (∀ cur i j, Rot P X Y S cur m i j → cur.length = N ∧ i ≤ m ∧ m + j ≤ N) := hid (fun cur i j hr => by
    obtain ⟨U, Xr, Yr, V, h1, h2, h3, h4, h5⟩ := hr
    have h6 := congrArg List.length h5
    rw [h1]
    simp only [List.length_append] at h6 ⊢
    omega)
  have SW : Hid (∀ (W : World) (cur : List Crd) (i j : Nat), Rot P X Y S cur m i j → Rw w0 W B g tl cur →
      (j < i → ∃ cur', Rot P X Y S cur' m (i - j) j ∧ Calls Tryd.prog 92 #[.slice (some ⟨g, 0, none⟩) N C, .int .i64 ((m - i : Nat) : Int), .int .i64 (m : Int), .int .i64 (j : Int), cv] W fun e w' => e = .returned (.tuple #[]) ∧ Rw w0 w' B g tl cur') ∧
      (i < j → ∃ cur', Rot P X Y S cur' m i (j - i) ∧ Calls Tryd.prog 92 #[.slice (some ⟨g, 0, none⟩) N C, .int .i64 ((m - i : Nat) : Int), .int .i64 ((m + j - i : Nat) : Int), .int .i64 (i : Int), cv] W fun e w' => e = .returned (.tuple #[]) ∧ Rw w0 w' B g tl cur') ∧
      (i = j → Calls Tryd.prog 92 #[.slice (some ⟨g, 0, none⟩) N C, .int .i64 ((m - i : Nat) : Int), .int .i64 (m : Int), .int .i64 (i : Int), cv] W fun e w' => e = .returned (.tuple #[]) ∧ Rw w0 w' B g tl (P ++ Y ++ X ++ S))) := hid (fun W cur i j hr hW => by
    obtain ⟨U, Xr, Yr, V, h1, h2, h3, h4, h5⟩ := hr
    have h6 := congrArg List.length h5
    simp only [List.length_append] at h6
    refine ⟨fun hlt => ?_, fun hlt => ?_, fun he => ?_⟩
    · have e : cur = (P ++ U) ++ Xr.take j ++ Xr.drop j ++ Yr ++ (V ++ S) := by rw [h1]; simp
      refine ⟨(P ++ U) ++ Yr ++ Xr.drop j ++ Xr.take j ++ (V ++ S), ⟨U ++ Yr, Xr.drop j, Xr.take j, V, by simp, by rw [List.length_drop]; omega, by rw [List.length_take]; omega, by rw [List.length_append]; omega, by rw [← h5]; simp⟩, ?_⟩
      refine swapRange_any (P ++ U) (Xr.take j) (Xr.drop j) Yr (V ++ S) N _ _ j ?_ hNm (by rw [List.length_take]; omega) h3 (by rw [List.length_append]; omega) (by rw [List.length_append, List.length_take, List.length_drop]; omega) (e ▸ hW) cv
      simp only [List.length_append, List.length_take, List.length_drop]; omega
    · have e : cur = (P ++ U) ++ Xr ++ Yr.take (j - i) ++ Yr.drop (j - i) ++ (V ++ S) := by rw [h1]; simp
      refine ⟨(P ++ U) ++ Yr.drop (j - i) ++ Yr.take (j - i) ++ Xr ++ (V ++ S), ⟨U, Yr.drop (j - i), Yr.take (j - i), Xr ++ V, by simp, by rw [List.length_drop]; omega, by rw [List.length_take]; omega, h4, by rw [← h5]; simp⟩, ?_⟩
      refine swapRange_any (P ++ U) Xr (Yr.take (j - i)) (Yr.drop (j - i)) (V ++ S) N _ _ i ?_ hNm h2 (by rw [List.length_drop]; omega) (by rw [List.length_append]; omega) (by rw [List.length_append, List.length_take]; omega) (e ▸ hW) cv
      simp only [List.length_append, List.length_take, List.length_drop]; omega
    · have e : cur = (P ++ U) ++ Xr ++ [] ++ Yr ++ (V ++ S) := by rw [h1]; simp
      have e2 : P ++ Y ++ X ++ S = (P ++ U) ++ Yr ++ [] ++ Xr ++ (V ++ S) := by rw [List.append_assoc P Y X, ← h5]; simp
      rw [e2]
      refine swapRange_any (P ++ U) Xr [] Yr (V ++ S) N _ _ i ?_ hNm h2 (by omega) (by rw [List.length_append]; omega) (by rw [List.length_append]; simp; omega) (e ▸ hW) cv
      simp only [List.length_append, List.length_nil]; omega)
  have ha' : a ≤ m := by omega
  have hm' : m ≤ b := by omega
  have hbN : b ≤ N := by omega
  have hi0 : 1 ≤ m - a := by omega
  have hj0 : 1 ≤ b - m := by omega
  have e1 : (m : Int) - (a : Int) = ((m - a : Nat) : Int) := by omega
  have e2 : (b : Int) - (m : Int) = ((b - m : Nat) : Int) := by omega
  clear hN h ha hm hb hx hy hNN
  obtain ⟨i0, hi⟩ : ∃ i0, m - a = i0 := ⟨_, rfl⟩
  obtain ⟨j0, hj⟩ : ∃ j0, b - m = j0 := ⟨_, rfl⟩
  rw [hi] at e1 hi0 HRot
  rw [hj] at e2 hj0 HRot
  clear hi hj
  go_enter Tryd.func87, Tryd.ntmps87
  go_wp2
  go_loopw [10, 11] (fun vi vj wr => ∃ (i j : Nat) (cur : List Crd), vi = .int .i64 i ∧ vj = .int .i64 j ∧ 1 ≤ i ∧ 1 ≤ j ∧ Hid (Rot P X Y S cur m i j) ∧ Rw w0 wr B g tl cur) (fun vi vj _ => (intOf vi).toNat + (intOf vj).toNat)
  case atStart => exact ⟨i0, j0, _, by first | rfl | rw [e1] | simp [e1], by first | rfl | rw [e2] | simp [e2], hi0, hj0, hid HRot.out, HR.out⟩
  case round =>
    obtain ⟨i, j, cur, rfl, rfl, hi1, hj1, HRc, R⟩ := hrel
    obtain ⟨hcl, him, hjN⟩ := HST.out cur i j HRc.out
    obtain ⟨s1, s2, s3⟩ := SW.out wr cur i j HRc.out R
    have f1 : (m : Int) - (i : Int) = ((m - i : Nat) : Int) := by omega
    have g0 : (0 : Int) ≤ (m : Int) - (i : Int) := by omega
    by_cases hgt : j < i
    · obtain ⟨cur', hrc, hcall⟩ := s1 hgt
      have HRC := hid hrc
      have HCALL := hid hcall
      have q1 : ¬ (i : Int) = (j : Int) := by omega
      have q2 : (j : Int) < (i : Int) := by omega
      have f2 : (i : Int) - (j : Int) = ((i - j : Nat) : Int) := by omega
      have qb : ((i : Int) == (j : Int)) = false := beq_eq_false_iff_ne.2 q1
      clear hcl s1 s2 s3 hrc hcall
      go_wp2_with fail
      refine HCALL.out.mono ?_
      rintro er w2 ⟨rfl, R2⟩
      go_wp2
      go_roundw
      case rel => exact ⟨i - j, j, cur', by first | rfl | rw [f2] | go_num, rfl, by omega, hj1, hid HRC.out, R2⟩
      case measure => simp [intOf]; omega
    · by_cases hlt : i < j
      · obtain ⟨cur', hrc, hcall⟩ := s2 hlt
        have HRC := hid hrc
        have HCALL := hid hcall
        have q1 : ¬ (i : Int) = (j : Int) := by omega
        have q2 : ¬ (j : Int) < (i : Int) := by omega
        have f2 : (j : Int) - (i : Int) = ((j - i : Nat) : Int) := by omega
        have f3 : (m : Int) + (j : Int) - (i : Int) = ((m + j - i : Nat) : Int) := by omega
        have qb : ((i : Int) == (j : Int)) = false := beq_eq_false_iff_ne.2 q1
        clear hcl s1 s2 s3 hrc hcall
        go_wp2_with fail
        refine HCALL.out.mono ?_
        rintro er w2 ⟨rfl, R2⟩
        go_wp2
        go_roundw
        case rel => exact ⟨i, j - i, cur', rfl, by first | rfl | rw [f2] | go_num, hi1, by omega, hid HRC.out, R2⟩
        case measure => simp [intOf]; omega
      · obtain rfl : i = j := by omega
        have HCALL := hid (s3 rfl)
        clear hcl s1 s2 s3
        go_wp2_with fail
        refine HCALL.out.mono ?_
        rintro er w2 ⟨rfl, R2⟩
        go_wp2
        go_end0
        exact ⟨rfl, R2⟩
end Go.Proofs.YtkggagnaiiemlaaDoor.Sh
/-
  slices.insertionSortCmpFunc at credentials, by contract.
-/
namespace Go.Proofs.YtkggagnaiiemlaaDoor.Sh
open Go Go.RowKit
set_option linter.unusedSimpArgs false
set_option maxRecDepth 100000

/-- Inside the inner loop: x, that stood at i of cur, stands at j. -/
structure InS (a b : Nat) (l cur c2 : List Crd) (j i : Nat) (x : Crd) : Prop where
  dn : Dn cur c2 j i x
  mix : Mix a b l c2
  less : ∀ t y, j ≤ t → t < i → cur[t]? = some y → bef x y = true
theorem InS.step {a b : Nat} {l cur c2 : List Crd} {j i : Nat} {x y : Crd} (h : InS a b l cur c2 (j + 1) i x) (hy : c2[j]? = some y) (hb : bef x y = true) (ha : a ≤ j) (hib : i < b) : InS a b l cur ((c2.set (j + 1) y).set j x) j i x := by
  have hle := h.dn.le
  refine ⟨h.dn.step hy, h.mix.trans ((mix_adj' hy h.dn.at_ hb).wide ha (by omega)), fun t z h1 h2 hz => ?_⟩
  rcases Nat.lt_or_ge j t with hlt | hge
  · exact h.less t z (by omega) h2 hz
  · obtain rfl : j = t := by omega
    rw [← h.dn.ahead (Nat.lt_succ_self _), hy] at hz
    injection hz with hz
    subst hz
    exact hb
theorem InS.stop {a b : Nat} {l cur c2 : List Crd} {j i : Nat} {x y : Crd} (h : InS a b l cur c2 (j + 1) i x) (hy : c2[j]? = some y) (hb : bef x y = false) (ha : a ≤ j) (hs : Srt a i cur) : Srt a (i + 1) c2 := by
  have hle := h.dn.le
  rw [h.dn.ahead (Nat.lt_succ_self _)] at hy
  refine h.dn.srt (by omega) hs h.less fun t z h1 h2 hz => ?_
  rcases Nat.lt_or_ge t j with hlt | hge
  · exact not_bef_trans hb (hs t j z y h1 hlt (by omega) hz hy)
  · obtain rfl : t = j := by omega
    rw [hy] at hz
    injection hz with hz
    subst hz
    exact hb
theorem InS.first {a b : Nat} {l cur c2 : List Crd} {i : Nat} {x : Crd} (h : InS a b l cur c2 a i x) (hs : Srt a i cur) : Srt a (i + 1) c2 :=
  h.dn.srt (Nat.le_refl _) hs h.less fun t z h1 h2 => by omega

set_option maxHeartbeats 16000000 in
theorem insertion_any {w0 w : World} {B g C : Nat} {tl : List Value} (l : List Crd) (N a b : Nat) (hN : l.length = N) (hNm : N ≤ 1000000000) (hab : a ≤ b) (hbN : b ≤ N) (h : Rw w0 w B g tl l) :
    Calls Tryd.prog 81 #[.slice (some ⟨g, 0, none⟩) N C, .int .i64 a, .int .i64 b, .func (.func 55) #[] #[]] w fun e w' => e = .returned (.tuple #[]) ∧ ∃ l', Rw w0 w' B g tl l' ∧ Mix a b l l' ∧ Srt a b l' := by
  have HN := hid hN
  have HR := hid h
  have wa := wrap_in ((a : Int) + 1) (by omega)
  clear hN h
  go_enter Tryd.func81, Tryd.ntmps81
  go_wp2
  go_loopw [8] (fun v wo => ∃ (i : Nat) (cur : List Crd), v = .int .i64 i ∧ a < i ∧ i ≤ b + 1 ∧ Rw w0 wo B g tl cur ∧ Hid (Mix a b l cur) ∧ Hid (Srt a i cur)) (fun v _ => b + 1 - (intOf v).toNat)
  case atStart => exact ⟨a + 1, l, by go_num, by omega, by omega, HR.out, hid (Mix.refl _ _ _), hid (Srt.one (by omega))⟩
  case round =>
    obtain ⟨i, cur, rfl, hai, hib, R, HM, HS⟩ := hrel
    by_cases hlt : i < b
    · have hlt' : (i : Int) < (b : Int) := by omega
      obtain ⟨x, hx⟩ : ∃ x, cur[i]? = some x := ⟨_, List.getElem?_eq_getElem (by rw [HM.out.len, HN.out]; omega)⟩
      have HI0 : Hid (InS a b l cur cur i i x) := hid ⟨Dn.start hx, HM.out, fun t y h1 h2 => by omega⟩
      have HRo := hid R
      obtain ⟨wo, hwo⟩ : ∃ z, z = wr := ⟨_, rfl⟩
      subst hwo
      clear R hx
      go_wp2
      go_loopw [9] (fun v wi => ∃ (j : Nat) (c2 : List Crd), v = .int .i64 j ∧ a ≤ j ∧ j ≤ i ∧ Rw w0 wi B g tl c2 ∧ Hid (InS a b l cur c2 j i x)) (fun v _ => (intOf v).toNat)
      case atStart => exact ⟨i, cur, rfl, by omega, Nat.le_refl _, HRo.out, HI0⟩
      case round =>
        obtain ⟨q, c2, rfl, haj, hji, R, HI⟩ := hrel
        have hcl : c2.length = N := by rw [HI.out.mix.len, HN.out]
        by_cases hja : a < q
        · obtain ⟨jp, hq⟩ : ∃ jp, jp + 1 = q := ⟨q - 1, by omega⟩
          obtain ⟨y, hy⟩ : ∃ y, c2[jp]? = some y := ⟨_, List.getElem?_eq_getElem (by omega)⟩
          have hxq : c2[q]? = some x := HI.out.dn.at_
          have hqN : (q : Int) < (N : Int) := by omega
          have hpN : (jp : Int) < (N : Int) := by omega
          have haq : (a : Int) < (q : Int) := by omega
          have e1 : (q : Int) - 1 = (jp : Int) := by omega
          have wp := wrap_in (jp : Int) (by omega)
          have wq := wrap_in (q : Int) (by omega)
          have ap := addr_row g (jp * 9)
          have aq := addr_row g (q * 9)
          obtain ⟨c, hc⟩ : ∃ c, cmpI x y = c := ⟨_, rfl⟩
          obtain ⟨bb, hbb⟩ : ∃ b, bef x y = b := ⟨_, rfl⟩
          have hcb : decide (c < 0) = bb := by rw [← hc, cmpI_neg, hbb]
          have HCMP : Hid (∀ W, Calls Tryd.prog 55 #[.agg x.cells.toArray, .agg y.cells.toArray] W fun e w' => e = .returned (.int .i64 c) ∧ Below W.heap.size W w') := hid (fun W => hc ▸ cmpC_any x y W)
          have HX := hid hxq
          have HY := hid hy
          have HB := hid hbb
          have HQ := hid hq
          have HR1 := hid R.drew
          have HCL := hid hcl
          clear hc hbb hxq hy hq R hcl
          go_wp2_with fail
          refine wp_region_held_drew (S := (fun W => W.rangeAt g (q * 9) x.cells ∧ W.rangeAt g (jp * 9) y.cells)) (by kernel_rfl) (⟨HR1.out.row.range HX.out, HR1.out.row.range HY.out⟩) (fun hHeld => ?_)
          refine wpAnyH_take (i := 0) (oi := ({ dst := some 18, op := Op.move (Operand.tmp 9), type := 3, pos := "zsortanyfunc.go:12", after := #[], guard := none } : Oper)) (v := (.int .i64 (q : Int))) rfl (by kernel_rfl) (by kernel_rfl) (by kernel_rfl) (fun _ _ _ h => h) (Or.inl ⟨by rfl, by intro w _; go_simp⟩) hHeld ?_
          simp only [Act.put, List.setIfInBounds_toArray, List.set_cons_zero, List.set_cons_succ]
          refine wpAnyH_take (i := 1) (oi := ({ dst := some 19, op := Op.move (Operand.tmp 1), type := 3, pos := "zsortanyfunc.go:12", after := #[], guard := none } : Oper)) (v := (.int .i64 (a : Int))) rfl (by kernel_rfl) (by kernel_rfl) (by kernel_rfl) (fun _ _ _ h => h) (Or.inl ⟨by rfl, by intro w _; go_simp⟩) hHeld ?_
          simp only [Act.put, List.setIfInBounds_toArray, List.set_cons_zero, List.set_cons_succ]
          refine wpAnyH_take (i := 2) (oi := ({ dst := some 20, op := Op.binOp BinOp.gtr 3 (Operand.tmp 18) (Operand.tmp 19) 3, type := 4, pos := "zsortanyfunc.go:12", after := #[{ on := 0, ground := Ground.data }, { on := 1, ground := Ground.data }], guard := none } : Oper)) (v := (.bool true)) rfl (by kernel_rfl) (by kernel_rfl) (by kernel_rfl) (fun _ _ _ h => h) (Or.inl ⟨by rfl, by intro w _; go_simp⟩) hHeld ?_
          simp only [Act.put, List.setIfInBounds_toArray, List.set_cons_zero, List.set_cons_succ]
          refine wpAnyH_take (i := 3) (oi := ({ dst := some 21, op := Op.move (Operand.tmp 20), type := 4, pos := "zsortanyfunc.go:12", after := #[{ on := 2, ground := Ground.data }], guard := none } : Oper)) (v := (.bool true)) rfl (by kernel_rfl) (by kernel_rfl) (by kernel_rfl) (fun _ _ _ h => h) (Or.inl ⟨by rfl, by intro w _; go_simp⟩) hHeld ?_
          simp only [Act.put, List.setIfInBounds_toArray, List.set_cons_zero, List.set_cons_succ]
          refine wpAnyH_take (i := 4) (oi := ({ dst := some 22, op := Op.move (Operand.tmp 3), type := 74, pos := "zsortanyfunc.go:12", after := #[{ on := 3, ground := Ground.guard }], guard := some (3, true) } : Oper)) (v := (.func (.func 55) #[] #[])) rfl (by kernel_rfl) (by kernel_rfl) (by kernel_rfl) (fun _ _ _ h => h) (Or.inl ⟨by rfl, by intro w _; go_simp⟩) hHeld ?_
          simp only [Act.put, List.setIfInBounds_toArray, List.set_cons_zero, List.set_cons_succ]
          refine wpAnyH_take (i := 5) (oi := ({ dst := some 23, op := Op.move (Operand.tmp 0), type := 51, pos := "zsortanyfunc.go:12", after := #[{ on := 3, ground := Ground.guard }], guard := some (3, true) } : Oper)) (v := (.slice (some ⟨g, 0, none⟩) N C)) rfl (by kernel_rfl) (by kernel_rfl) (by kernel_rfl) (fun _ _ _ h => h) (Or.inl ⟨by rfl, by intro w _; go_simp⟩) hHeld ?_
          simp only [Act.put, List.setIfInBounds_toArray, List.set_cons_zero, List.set_cons_succ]
          refine wpAnyH_take (i := 6) (oi := ({ dst := some 24, op := Op.move (Operand.tmp 9), type := 3, pos := "zsortanyfunc.go:12", after := #[{ on := 3, ground := Ground.guard }], guard := some (3, true) } : Oper)) (v := (.int .i64 (q : Int))) rfl (by kernel_rfl) (by kernel_rfl) (by kernel_rfl) (fun _ _ _ h => h) (Or.inl ⟨by rfl, by intro w _; go_simp⟩) hHeld ?_
          simp only [Act.put, List.setIfInBounds_toArray, List.set_cons_zero, List.set_cons_succ]
          refine wpAnyH_take (i := 7) (oi := ({ dst := some 25, op := Op.indexAddr 51 (Operand.tmp 23) (Operand.tmp 24), type := 0, pos := "zsortanyfunc.go:12", after := #[{ on := 5, ground := Ground.data }, { on := 6, ground := Ground.data }, { on := 3, ground := Ground.guard }], guard := some (3, true) } : Oper)) (v := (.pointer (some ⟨g, q * 9, none⟩))) rfl (by kernel_rfl) (by kernel_rfl) (by kernel_rfl) (fun _ _ _ h => h) (Or.inl ⟨by rfl, by intro w _; go_simp⟩) hHeld ?_
          simp only [Act.put, List.setIfInBounds_toArray, List.set_cons_zero, List.set_cons_succ]
          refine wpAnyH_take (i := 8) (oi := ({ dst := some 26, op := Op.load 27 (Operand.tmp 25), type := 27, pos := "zsortanyfunc.go:12", after := #[{ on := 7, ground := Ground.data }, { on := 3, ground := Ground.guard }], guard := some (3, true) } : Oper)) (v := .agg x.cells.toArray) rfl (by kernel_rfl) (by kernel_rfl) (by kernel_rfl) (fun _ _ _ h => h) (yieldsIf_load_mid (by rfl) 27 (.tmp 25) rfl g (q * 9) rfl x.cells _ (fun _ h => h.1) Tryd.underlying27 rfl (info_credL _)) hHeld ?_
          simp only [Act.put, List.setIfInBounds_toArray, List.set_cons_zero, List.set_cons_succ]
          refine wpAnyH_take (i := 9) (oi := ({ dst := some 27, op := Op.move (Operand.tmp 0), type := 51, pos := "zsortanyfunc.go:12", after := #[{ on := 3, ground := Ground.guard }], guard := some (3, true) } : Oper)) (v := (.slice (some ⟨g, 0, none⟩) N C)) rfl (by kernel_rfl) (by kernel_rfl) (by kernel_rfl) (fun _ _ _ h => h) (Or.inl ⟨by rfl, by intro w _; go_simp⟩) hHeld ?_
          simp only [Act.put, List.setIfInBounds_toArray, List.set_cons_zero, List.set_cons_succ]
          refine wpAnyH_take (i := 10) (oi := ({ dst := some 28, op := Op.move (Operand.tmp 9), type := 3, pos := "zsortanyfunc.go:12", after := #[{ on := 3, ground := Ground.guard }], guard := some (3, true) } : Oper)) (v := (.int .i64 (q : Int))) rfl (by kernel_rfl) (by kernel_rfl) (by kernel_rfl) (fun _ _ _ h => h) (Or.inl ⟨by rfl, by intro w _; go_simp⟩) hHeld ?_
          simp only [Act.put, List.setIfInBounds_toArray, List.set_cons_zero, List.set_cons_succ]
          refine wpAnyH_take (i := 11) (oi := ({ dst := some 29, op := Op.binOp BinOp.sub 3 (Operand.tmp 28) (Operand.const (Value.int IntKind.i64 1)) 3, type := 3, pos := "zsortanyfunc.go:12", after := #[{ on := 10, ground := Ground.data }, { on := 3, ground := Ground.guard }], guard := some (3, true) } : Oper)) (v := (.int .i64 (jp : Int))) rfl (by kernel_rfl) (by kernel_rfl) (by kernel_rfl) (fun _ _ _ h => h) (Or.inl ⟨by rfl, by intro w _; go_simp⟩) hHeld ?_
          simp only [Act.put, List.setIfInBounds_toArray, List.set_cons_zero, List.set_cons_succ]
          refine wpAnyH_take (i := 12) (oi := ({ dst := some 30, op := Op.indexAddr 51 (Operand.tmp 27) (Operand.tmp 29), type := 0, pos := "zsortanyfunc.go:12", after := #[{ on := 9, ground := Ground.data }, { on := 11, ground := Ground.data }, { on := 3, ground := Ground.guard }], guard := some (3, true) } : Oper)) (v := (.pointer (some ⟨g, jp * 9, none⟩))) rfl (by kernel_rfl) (by kernel_rfl) (by kernel_rfl) (fun _ _ _ h => h) (Or.inl ⟨by rfl, by intro w _; go_simp⟩) hHeld ?_
          simp only [Act.put, List.setIfInBounds_toArray, List.set_cons_zero, List.set_cons_succ]
          refine wpAnyH_take (i := 13) (oi := ({ dst := some 31, op := Op.load 27 (Operand.tmp 30), type := 27, pos := "zsortanyfunc.go:12", after := #[{ on := 12, ground := Ground.data }, { on := 3, ground := Ground.guard }], guard := some (3, true) } : Oper)) (v := .agg y.cells.toArray) rfl (by kernel_rfl) (by kernel_rfl) (by kernel_rfl) (fun _ _ _ h => h) (yieldsIf_load_mid (by rfl) 27 (.tmp 30) rfl g (jp * 9) rfl y.cells _ (fun _ h => h.2) Tryd.underlying27 rfl (info_credL _)) hHeld ?_
          simp only [Act.put, List.setIfInBounds_toArray, List.set_cons_zero, List.set_cons_succ]
          refine wpAnyH_ready (rs := [14]) (by kernel_rfl) (by simp) ?_
          refine AllReadyH.cons (o := ({ dst := some 32, op := Op.call { callee := Callee.value (Operand.tmp 22), args := #[Operand.tmp 26, Operand.tmp 31], argTypes := #[27, 27] }, type := 3, pos := "zsortanyfunc.go:12", after := #[{ on := 4, ground := Ground.data }, { on := 8, ground := Ground.data }, { on := 13, ground := Ground.data }, { on := 3, ground := Ground.chain }, { on := 3, ground := Ground.guard }], guard := some (3, true) } : Oper)) rfl (fun K hK => ?_) AllReadyH.nil
          rw [if_pos (by rfl)]
          go_simp
          refine (HCMP.out _).mono ?_
          rintro er w2 ⟨rfl, bl⟩
          have HR2 := hid (HR1.out.kept bl)
          clear bl
          refine hK.out _ _ (⟨HR2.out.row.range HX.out, HR2.out.row.range HY.out⟩) (fun hHeld2 => ?_)
          clear hK K hHeld
          try simp only [Act.put, List.setIfInBounds_toArray, List.set_cons_zero, List.set_cons_succ]
          refine wpAnyH_take (i := 15) (oi := ({ dst := some 33, op := Op.binOp BinOp.lss 3 (Operand.tmp 32) (Operand.const (Value.int IntKind.i64 0)) 3, type := 4, pos := "zsortanyfunc.go:12", after := #[{ on := 14, ground := Ground.data }, { on := 3, ground := Ground.guard }], guard := some (3, true) } : Oper)) (v := (.bool bb)) rfl (by kernel_rfl) (by kernel_rfl) (by kernel_rfl) (fun _ _ _ h => h) (Or.inl ⟨by rfl, by intro w _; go_simp⟩) hHeld2 ?_
          simp only [Act.put, List.setIfInBounds_toArray, List.set_cons_zero, List.set_cons_succ]
          refine wpAnyH_take (i := 16) (oi := ({ dst := some 34, op := Op.pick (Operand.tmp 21) (Operand.tmp 33) (Operand.const (Value.bool false)), type := 4, pos := "zsortanyfunc.go:12", after := #[{ on := 3, ground := Ground.data }, { on := 15, ground := Ground.data }], guard := none } : Oper)) (v := (.bool bb)) rfl (by kernel_rfl) (by kernel_rfl) (by kernel_rfl) (fun _ _ _ h => h) (Or.inl ⟨by rfl, by intro w _; go_simp⟩) hHeld2 ?_
          simp only [Act.put, List.setIfInBounds_toArray, List.set_cons_zero, List.set_cons_succ]
          refine wpAnyH_done (by kernel_rfl) ?_ _
          clear hHeld2
          cases bb with
          | true =>
            have HRs1 : Hid (Rw w0 (w2.drew.setCells g (q * 9) y.cells) B g tl (c2.set q y)) := hid (HR2.out.drew.set (by have := HCL.out; omega) y)
            have HRs2 : Hid (Rw w0 ((w2.drew.setCells g (q * 9) y.cells).setCells g (jp * 9) x.cells) B g tl ((c2.set q y).set jp x)) := hid (HRs1.out.set (by rw [List.length_set]; have := HCL.out; omega) x)
            have HI2 : Hid (InS a b l cur ((c2.set q y).set jp x) jp i x) := hid (by
              have := HI.out
              rw [← HQ.out] at this ⊢
              exact this.step HY.out HB.out (by have := HQ.out; omega) hlt)
            have HRd := hid HR2.out.drew
            go_wp2_with fail
            refine wp_region_any (by kernel_rfl) ?_
            change wpAny _ _ _ _ _ _ _ (World.drew _)
            refine wpAny_take (i := 0) (oi := ({ dst := some 37, op := Op.move (Operand.tmp 0), type := 51, pos := "zsortanyfunc.go:13", after := #[], guard := none } : Oper)) (v := (.slice (some ⟨g, 0, none⟩) N C)) rfl (by kernel_rfl) (by kernel_rfl) (by kernel_rfl) (fun _ _ _ h => h) (Or.inl ⟨by rfl, by intro w; go_simp⟩) ?_
            simp only [Act.put, List.setIfInBounds_toArray, List.set_cons_zero, List.set_cons_succ]
            refine wpAny_take (i := 1) (oi := ({ dst := some 38, op := Op.move (Operand.tmp 9), type := 3, pos := "zsortanyfunc.go:13", after := #[], guard := none } : Oper)) (v := (.int .i64 (q : Int))) rfl (by kernel_rfl) (by kernel_rfl) (by kernel_rfl) (fun _ _ _ h => h) (Or.inl ⟨by rfl, by intro w; go_simp⟩) ?_
            simp only [Act.put, List.setIfInBounds_toArray, List.set_cons_zero, List.set_cons_succ]
            refine wpAny_take (i := 2) (oi := ({ dst := some 39, op := Op.move (Operand.tmp 0), type := 51, pos := "zsortanyfunc.go:13", after := #[{ on := 15, ground := Ground.gcOnly Departure.lateStores }], guard := none } : Oper)) (v := (.slice (some ⟨g, 0, none⟩) N C)) rfl (by kernel_rfl) (by kernel_rfl) (by kernel_rfl) (fun _ _ _ h => h) (Or.inl ⟨by rfl, by intro w; go_simp⟩) ?_
            simp only [Act.put, List.setIfInBounds_toArray, List.set_cons_zero, List.set_cons_succ]
            refine wpAny_take (i := 3) (oi := ({ dst := some 40, op := Op.move (Operand.tmp 9), type := 3, pos := "zsortanyfunc.go:13", after := #[{ on := 15, ground := Ground.gcOnly Departure.lateStores }], guard := none } : Oper)) (v := (.int .i64 (q : Int))) rfl (by kernel_rfl) (by kernel_rfl) (by kernel_rfl) (fun _ _ _ h => h) (Or.inl ⟨by rfl, by intro w; go_simp⟩) ?_
            simp only [Act.put, List.setIfInBounds_toArray, List.set_cons_zero, List.set_cons_succ]
            refine wpAny_take (i := 4) (oi := ({ dst := some 41, op := Op.binOp BinOp.sub 3 (Operand.tmp 40) (Operand.const (Value.int IntKind.i64 1)) 3, type := 3, pos := "zsortanyfunc.go:13", after := #[{ on := 3, ground := Ground.data }, { on := 15, ground := Ground.gcOnly Departure.lateStores }], guard := none } : Oper)) (v := (.int .i64 (jp : Int))) rfl (by kernel_rfl) (by kernel_rfl) (by kernel_rfl) (fun _ _ _ h => h) (Or.inl ⟨by rfl, by intro w; go_simp⟩) ?_
            simp only [Act.put, List.setIfInBounds_toArray, List.set_cons_zero, List.set_cons_succ]
            refine wpAny_take (i := 5) (oi := ({ dst := some 42, op := Op.move (Operand.tmp 0), type := 51, pos := "zsortanyfunc.go:13", after := #[], guard := none } : Oper)) (v := (.slice (some ⟨g, 0, none⟩) N C)) rfl (by kernel_rfl) (by kernel_rfl) (by kernel_rfl) (fun _ _ _ h => h) (Or.inl ⟨by rfl, by intro w; go_simp⟩) ?_
            simp only [Act.put, List.setIfInBounds_toArray, List.set_cons_zero, List.set_cons_succ]
            refine wpAny_take (i := 6) (oi := ({ dst := some 43, op := Op.move (Operand.tmp 9), type := 3, pos := "zsortanyfunc.go:13", after := #[], guard := none } : Oper)) (v := (.int .i64 (q : Int))) rfl (by kernel_rfl) (by kernel_rfl) (by kernel_rfl) (fun _ _ _ h => h) (Or.inl ⟨by rfl, by intro w; go_simp⟩) ?_
            simp only [Act.put, List.setIfInBounds_toArray, List.set_cons_zero, List.set_cons_succ]
            refine wpAny_take (i := 7) (oi := ({ dst := some 44, op := Op.binOp BinOp.sub 3 (Operand.tmp 43) (Operand.const (Value.int IntKind.i64 1)) 3, type := 3, pos := "zsortanyfunc.go:13", after := #[{ on := 6, ground := Ground.data }], guard := none } : Oper)) (v := (.int .i64 (jp : Int))) rfl (by kernel_rfl) (by kernel_rfl) (by kernel_rfl) (fun _ _ _ h => h) (Or.inl ⟨by rfl, by intro w; go_simp⟩) ?_
            simp only [Act.put, List.setIfInBounds_toArray, List.set_cons_zero, List.set_cons_succ]
            refine wpAny_take (i := 8) (oi := ({ dst := some 45, op := Op.indexAddr 51 (Operand.tmp 42) (Operand.tmp 44), type := 0, pos := "zsortanyfunc.go:13", after := #[{ on := 5, ground := Ground.data }, { on := 7, ground := Ground.data }], guard := none } : Oper)) (v := (.pointer (some ⟨g, jp * 9, none⟩))) rfl (by kernel_rfl) (by kernel_rfl) (by kernel_rfl) (fun _ _ _ h => h) (Or.inl ⟨by rfl, by intro w; go_simp⟩) ?_
            simp only [Act.put, List.setIfInBounds_toArray, List.set_cons_zero, List.set_cons_succ]
            refine wpAny_take (i := 10) (oi := ({ dst := some 47, op := Op.move (Operand.tmp 0), type := 51, pos := "zsortanyfunc.go:13", after := #[], guard := none } : Oper)) (v := (.slice (some ⟨g, 0, none⟩) N C)) rfl (by kernel_rfl) (by kernel_rfl) (by kernel_rfl) (fun _ _ _ h => h) (Or.inl ⟨by rfl, by intro w; go_simp⟩) ?_
            simp only [Act.put, List.setIfInBounds_toArray, List.set_cons_zero, List.set_cons_succ]
            refine wpAny_take (i := 11) (oi := ({ dst := some 48, op := Op.move (Operand.tmp 9), type := 3, pos := "zsortanyfunc.go:13", after := #[], guard := none } : Oper)) (v := (.int .i64 (q : Int))) rfl (by kernel_rfl) (by kernel_rfl) (by kernel_rfl) (fun _ _ _ h => h) (Or.inl ⟨by rfl, by intro w; go_simp⟩) ?_
            simp only [Act.put, List.setIfInBounds_toArray, List.set_cons_zero, List.set_cons_succ]
            refine wpAny_take (i := 12) (oi := ({ dst := some 49, op := Op.indexAddr 51 (Operand.tmp 47) (Operand.tmp 48), type := 0, pos := "zsortanyfunc.go:13", after := #[{ on := 10, ground := Ground.data }, { on := 11, ground := Ground.data }], guard := none } : Oper)) (v := (.pointer (some ⟨g, q * 9, none⟩))) rfl (by kernel_rfl) (by kernel_rfl) (by kernel_rfl) (fun _ _ _ h => h) (Or.inl ⟨by rfl, by intro w; go_simp⟩) ?_
            simp only [Act.put, List.setIfInBounds_toArray, List.set_cons_zero, List.set_cons_succ]
            refine wpAny_ready (rs := [9, 13]) (by kernel_rfl) (by simp) ?_
            refine AllReady.cons (o := ({ dst := some 46, op := Op.load 27 (Operand.tmp 45), type := 27, pos := "zsortanyfunc.go:13", after := #[{ on := 8, ground := Ground.data }], guard := none } : Oper)) rfl (fun K hK => ?_) (AllReady.cons (o := ({ dst := some 50, op := Op.load 27 (Operand.tmp 49), type := 27, pos := "zsortanyfunc.go:13", after := #[{ on := 12, ground := Ground.data }], guard := none } : Oper)) rfl (fun K hK => ?_) AllReady.nil)
            · rw [if_pos (by rfl)]
              with_reducible refine wp_load_mid 27 (.tmp 45) ?_ g (jp * 9) ?_ y.cells _ (HRd.out.row.range HY.out) Tryd.underlying27 rfl (info_credL _) ?_
              · rfl
              · rfl
              refine hK _ _ ?_
              clear hK K
              simp only [Act.put, List.setIfInBounds_toArray, List.set_cons_zero, List.set_cons_succ]
              refine wpAny_ready (rs := [13]) (by kernel_rfl) (by simp) ?_
              refine AllReady.cons (o := ({ dst := some 50, op := Op.load 27 (Operand.tmp 49), type := 27, pos := "zsortanyfunc.go:13", after := #[{ on := 12, ground := Ground.data }], guard := none } : Oper)) rfl (fun K hK => ?_) AllReady.nil
              rw [if_pos (by rfl)]
              with_reducible refine wp_load_mid 27 (.tmp 49) ?_ g (q * 9) ?_ x.cells _ (HRd.out.row.range HX.out) Tryd.underlying27 rfl (info_credL _) ?_
              · rfl
              · rfl
              refine hK _ _ ?_
              clear hK K
              simp only [Act.put, List.setIfInBounds_toArray, List.set_cons_zero, List.set_cons_succ]
              refine wpAny_take (i := 14) (oi := ({ dst := some 51, op := Op.indexAddr 51 (Operand.tmp 37) (Operand.tmp 38), type := 0, pos := "zsortanyfunc.go:13", after := #[{ on := 0, ground := Ground.data }, { on := 1, ground := Ground.data }, { on := 0, ground := Ground.phase }, { on := 1, ground := Ground.phase }, { on := 2, ground := Ground.textOnly Departure.lateStores }, { on := 3, ground := Ground.textOnly Departure.lateStores }, { on := 4, ground := Ground.textOnly Departure.lateStores }, { on := 5, ground := Ground.phase }, { on := 6, ground := Ground.phase }, { on := 7, ground := Ground.phase }, { on := 8, ground := Ground.phase }, { on := 9, ground := Ground.phase }, { on := 10, ground := Ground.textOnly Departure.lateStores }, { on := 11, ground := Ground.textOnly Departure.lateStores }, { on := 12, ground := Ground.textOnly Departure.lateStoresUnsure }, { on := 13, ground := Ground.phase }], guard := none } : Oper)) (v := (.pointer (some ⟨g, q * 9, none⟩))) rfl (by kernel_rfl) (by kernel_rfl) (by kernel_rfl) (fun _ _ _ h => h) (Or.inl ⟨by rfl, by intro w; go_simp⟩) ?_
              simp only [Act.put, List.setIfInBounds_toArray, List.set_cons_zero, List.set_cons_succ]
              refine wpAny_ready (rs := [15]) (by kernel_rfl) (by simp) ?_
              refine AllReady.cons (o := ({ dst := none, op := Op.store 27 (Operand.tmp 51) (Operand.tmp 46), type := 0, pos := "zsortanyfunc.go:13", after := #[{ on := 14, ground := Ground.data }, { on := 9, ground := Ground.data }, { on := 0, ground := Ground.phase }, { on := 1, ground := Ground.phase }, { on := 2, ground := Ground.textOnly Departure.lateStores }, { on := 3, ground := Ground.textOnly Departure.lateStores }, { on := 4, ground := Ground.textOnly Departure.lateStores }, { on := 5, ground := Ground.phase }, { on := 6, ground := Ground.phase }, { on := 7, ground := Ground.phase }, { on := 8, ground := Ground.phase }, { on := 9, ground := Ground.phase }, { on := 10, ground := Ground.textOnly Departure.lateStores }, { on := 11, ground := Ground.textOnly Departure.lateStores }, { on := 12, ground := Ground.textOnly Departure.lateStoresUnsure }, { on := 13, ground := Ground.phase }], guard := none } : Oper)) rfl (fun K hK => ?_) AllReady.nil
              rw [if_pos (by rfl)]
              with_reducible refine wp_store_mid 27 (.tmp 51) (.tmp 46) ?_ g (q * 9) (y.cells).toArray ?_ ?_ (HRd.out.row.thereC (by have := HCL.out; omega) y) (info_credC _) (one_credC _) ?_
              · rfl
              · rfl
              · rfl
              refine hK _ _ ?_
              clear hK K
              simp only [Act.put, List.toList_toArray]
              refine wpAny_take (i := 16) (oi := ({ dst := some 52, op := Op.indexAddr 51 (Operand.tmp 39) (Operand.tmp 41), type := 0, pos := "zsortanyfunc.go:13", after := #[{ on := 2, ground := Ground.data }, { on := 4, ground := Ground.data }, { on := 0, ground := Ground.phase }, { on := 1, ground := Ground.phase }, { on := 2, ground := Ground.phase }, { on := 3, ground := Ground.phase }, { on := 4, ground := Ground.phase }, { on := 5, ground := Ground.phase }, { on := 6, ground := Ground.phase }, { on := 7, ground := Ground.phase }, { on := 8, ground := Ground.phase }, { on := 9, ground := Ground.phase }, { on := 10, ground := Ground.phase }, { on := 11, ground := Ground.phase }, { on := 12, ground := Ground.phase }, { on := 13, ground := Ground.phase }, { on := 14, ground := Ground.phase }, { on := 15, ground := Ground.phase }], guard := none } : Oper)) (v := (.pointer (some ⟨g, jp * 9, none⟩))) rfl (by kernel_rfl) (by kernel_rfl) (by kernel_rfl) (fun _ _ _ h => h) (Or.inl ⟨by rfl, by intro w; go_simp⟩) ?_
              simp only [Act.put, List.setIfInBounds_toArray, List.set_cons_zero, List.set_cons_succ]
              refine wpAny_ready (rs := [17]) (by kernel_rfl) (by simp) ?_
              refine AllReady.cons (o := ({ dst := none, op := Op.store 27 (Operand.tmp 52) (Operand.tmp 50), type := 0, pos := "zsortanyfunc.go:13", after := #[{ on := 16, ground := Ground.data }, { on := 13, ground := Ground.data }, { on := 15, ground := Ground.chain }, { on := 0, ground := Ground.phase }, { on := 1, ground := Ground.phase }, { on := 2, ground := Ground.phase }, { on := 3, ground := Ground.phase }, { on := 4, ground := Ground.phase }, { on := 5, ground := Ground.phase }, { on := 6, ground := Ground.phase }, { on := 7, ground := Ground.phase }, { on := 8, ground := Ground.phase }, { on := 9, ground := Ground.phase }, { on := 10, ground := Ground.phase }, { on := 11, ground := Ground.phase }, { on := 12, ground := Ground.phase }, { on := 13, ground := Ground.phase }, { on := 14, ground := Ground.phase }, { on := 15, ground := Ground.phase }], guard := none } : Oper)) rfl (fun K hK => ?_) AllReady.nil
              rw [if_pos (by rfl)]
              with_reducible refine wp_store_mid 27 (.tmp 52) (.tmp 50) ?_ g (jp * 9) (x.cells).toArray ?_ ?_ (HRs1.out.row.thereC (by rw [List.length_set]; have := HCL.out; omega) x) (info_credC _) (one_credC _) ?_
              · rfl
              · rfl
              · rfl
              refine hK _ _ ?_
              clear hK K
              simp only [Act.put, List.toList_toArray]
              refine wpAny_done (by kernel_rfl) ?_ _
              go_wp2
              go_roundw
              case rel => exact ⟨jp, _, by first | rfl | rw [e1] | simp [e1], by have := HQ.out; omega, by have := HQ.out; omega, HRs2.out, HI2⟩
              case measure => simp [intOf]; have := HQ.out; omega
            · rw [if_pos (by rfl)]
              with_reducible refine wp_load_mid 27 (.tmp 49) ?_ g (q * 9) ?_ x.cells _ (HRd.out.row.range HX.out) Tryd.underlying27 rfl (info_credL _) ?_
              · rfl
              · rfl
              refine hK _ _ ?_
              clear hK K
              simp only [Act.put, List.setIfInBounds_toArray, List.set_cons_zero, List.set_cons_succ]
              refine wpAny_ready (rs := [9]) (by kernel_rfl) (by simp) ?_
              refine AllReady.cons (o := ({ dst := some 46, op := Op.load 27 (Operand.tmp 45), type := 27, pos := "zsortanyfunc.go:13", after := #[{ on := 8, ground := Ground.data }], guard := none } : Oper)) rfl (fun K hK => ?_) AllReady.nil
              rw [if_pos (by rfl)]
              with_reducible refine wp_load_mid 27 (.tmp 45) ?_ g (jp * 9) ?_ y.cells _ (HRd.out.row.range HY.out) Tryd.underlying27 rfl (info_credL _) ?_
              · rfl
              · rfl
              refine hK _ _ ?_
              clear hK K
              simp only [Act.put, List.setIfInBounds_toArray, List.set_cons_zero, List.set_cons_succ]
              refine wpAny_take (i := 14) (oi := ({ dst := some 51, op := Op.indexAddr 51 (Operand.tmp 37) (Operand.tmp 38), type := 0, pos := "zsortanyfunc.go:13", after := #[{ on := 0, ground := Ground.data }, { on := 1, ground := Ground.data }, { on := 0, ground := Ground.phase }, { on := 1, ground := Ground.phase }, { on := 2, ground := Ground.textOnly Departure.lateStores }, { on := 3, ground := Ground.textOnly Departure.lateStores }, { on := 4, ground := Ground.textOnly Departure.lateStores }, { on := 5, ground := Ground.phase }, { on := 6, ground := Ground.phase }, { on := 7, ground := Ground.phase }, { on := 8, ground := Ground.phase }, { on := 9, ground := Ground.phase }, { on := 10, ground := Ground.textOnly Departure.lateStores }, { on := 11, ground := Ground.textOnly Departure.lateStores }, { on := 12, ground := Ground.textOnly Departure.lateStoresUnsure }, { on := 13, ground := Ground.phase }], guard := none } : Oper)) (v := (.pointer (some ⟨g, q * 9, none⟩))) rfl (by kernel_rfl) (by kernel_rfl) (by kernel_rfl) (fun _ _ _ h => h) (Or.inl ⟨by rfl, by intro w; go_simp⟩) ?_
              simp only [Act.put, List.setIfInBounds_toArray, List.set_cons_zero, List.set_cons_succ]
              refine wpAny_ready (rs := [15]) (by kernel_rfl) (by simp) ?_
              refine AllReady.cons (o := ({ dst := none, op := Op.store 27 (Operand.tmp 51) (Operand.tmp 46), type := 0, pos := "zsortanyfunc.go:13", after := #[{ on := 14, ground := Ground.data }, { on := 9, ground := Ground.data }, { on := 0, ground := Ground.phase }, { on := 1, ground := Ground.phase }, { on := 2, ground := Ground.textOnly Departure.lateStores }, { on := 3, ground := Ground.textOnly Departure.lateStores }, { on := 4, ground := Ground.textOnly Departure.lateStores }, { on := 5, ground := Ground.phase }, { on := 6, ground := Ground.phase }, { on := 7, ground := Ground.phase }, { on := 8, ground := Ground.phase }, { on := 9, ground := Ground.phase }, { on := 10, ground := Ground.textOnly Departure.lateStores }, { on := 11, ground := Ground.textOnly Departure.lateStores }, { on := 12, ground := Ground.textOnly Departure.lateStoresUnsure }, { on := 13, ground := Ground.phase }], guard := none } : Oper)) rfl (fun K hK => ?_) AllReady.nil
              rw [if_pos (by rfl)]
              with_reducible refine wp_store_mid 27 (.tmp 51) (.tmp 46) ?_ g (q * 9) (y.cells).toArray ?_ ?_ (HRd.out.row.thereC (by have := HCL.out; omega) y) (info_credC _) (one_credC _) ?_
              · rfl
              · rfl
              · rfl
              refine hK _ _ ?_
              clear hK K
              simp only [Act.put, List.toList_toArray]
              refine wpAny_take (i := 16) (oi := ({ dst := some 52, op := Op.indexAddr 51 (Operand.tmp 39) (Operand.tmp 41), type := 0, pos := "zsortanyfunc.go:13", after := #[{ on := 2, ground := Ground.data }, { on := 4, ground := Ground.data }, { on := 0, ground := Ground.phase }, { on := 1, ground := Ground.phase }, { on := 2, ground := Ground.phase }, { on := 3, ground := Ground.phase }, { on := 4, ground := Ground.phase }, { on := 5, ground := Ground.phase }, { on := 6, ground := Ground.phase }, { on := 7, ground := Ground.phase }, { on := 8, ground := Ground.phase }, { on := 9, ground := Ground.phase }, { on := 10, ground := Ground.phase }, { on := 11, ground := Ground.phase }, { on := 12, ground := Ground.phase }, { on := 13, ground := Ground.phase }, { on := 14, ground := Ground.phase }, { on := 15, ground := Ground.phase }], guard := none } : Oper)) (v := (.pointer (some ⟨g, jp * 9, none⟩))) rfl (by kernel_rfl) (by kernel_rfl) (by kernel_rfl) (fun _ _ _ h => h) (Or.inl ⟨by rfl, by intro w; go_simp⟩) ?_
              simp only [Act.put, List.setIfInBounds_toArray, List.set_cons_zero, List.set_cons_succ]
              refine wpAny_ready (rs := [17]) (by kernel_rfl) (by simp) ?_
              refine AllReady.cons (o := ({ dst := none, op := Op.store 27 (Operand.tmp 52) (Operand.tmp 50), type := 0, pos := "zsortanyfunc.go:13", after := #[{ on := 16, ground := Ground.data }, { on := 13, ground := Ground.data }, { on := 15, ground := Ground.chain }, { on := 0, ground := Ground.phase }, { on := 1, ground := Ground.phase }, { on := 2, ground := Ground.phase }, { on := 3, ground := Ground.phase }, { on := 4, ground := Ground.phase }, { on := 5, ground := Ground.phase }, { on := 6, ground := Ground.phase }, { on := 7, ground := Ground.phase }, { on := 8, ground := Ground.phase }, { on := 9, ground := Ground.phase }, { on := 10, ground := Ground.phase }, { on := 11, ground := Ground.phase }, { on := 12, ground := Ground.phase }, { on := 13, ground := Ground.phase }, { on := 14, ground := Ground.phase }, { on := 15, ground := Ground.phase }], guard := none } : Oper)) rfl (fun K hK => ?_) AllReady.nil
              rw [if_pos (by rfl)]
              with_reducible refine wp_store_mid 27 (.tmp 52) (.tmp 50) ?_ g (jp * 9) (x.cells).toArray ?_ ?_ (HRs1.out.row.thereC (by rw [List.length_set]; have := HCL.out; omega) x) (info_credC _) (one_credC _) ?_
              · rfl
              · rfl
              · rfl
              refine hK _ _ ?_
              clear hK K
              simp only [Act.put, List.toList_toArray]
              refine wpAny_done (by kernel_rfl) ?_ _
              go_wp2
              go_roundw
              case rel => exact ⟨jp, _, by first | rfl | rw [e1] | simp [e1], by have := HQ.out; omega, by have := HQ.out; omega, HRs2.out, HI2⟩
              case measure => simp [intOf]; have := HQ.out; omega
          | false =>
            have HS2 : Hid (Srt a (i + 1) c2) := hid (by
              have := HI.out
              rw [← HQ.out] at this
              exact this.stop HY.out HB.out (by have := HQ.out; omega) HS.out)
            go_wp2
            go_roundw
            case rel => exact ⟨i + 1, c2, by go_num, by omega, by omega, HR2.out, hid HI.out.mix, HS2⟩
            case measure => simp [intOf]; omega
        · obtain rfl : a = q := by omega
          have hgt : ¬ (a : Int) < (a : Int) := by omega
          have HS2 : Hid (Srt a (i + 1) c2) := hid (HI.out.first HS.out)
          have HR1 := hid R
          clear R
          go_wp2_with fail
          go_quiet (fail)
          have HRq : Hid (Rw w0 (wr.drewN nq) B g tl c2) := hid ⟨HR1.out.row, below_drewN HR1.out.bel _, HR1.out.hB⟩
          go_wp2
          go_roundw
          case rel => exact ⟨i + 1, c2, by go_num, by omega, by omega, HRq.out, hid HI.out.mix, HS2⟩
          case measure => simp [intOf]; omega
    · have hlt' : ¬ (i : Int) < (b : Int) := by omega
      go_wp2
      go_end0
      exact ⟨rfl, cur, R, HM.out, HS.out.less (Nat.le_refl _) (by omega)⟩
end Go.Proofs.YtkggagnaiiemlaaDoor.Sh
