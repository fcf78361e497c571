/-
  The document's queue of timers: without, Stop, by contract. Written by mk_tmref.py.
-/
import Derived.Test.YtphajbdkaikmpaaJa6
import Derived.Test.YtphajbdkaikmpaaJa1
import Derived.Deep.RegionLaw
import Derived.Shelf.Abstract
import Derived.BigQuiet
import Derived.Deep.CutRange
import Derived.Sort.OwnSorted
set_option linter.unusedVariables false
set_option linter.unusedSimpArgs false
namespace Go.Proofs.Ytphajbdkaikmpaa.Sh
open Go Go.RowKit

set_option linter.unusedSimpArgs false
set_option linter.unusedVariables false
set_option maxHeartbeats 2000000 in
theorem refNo_any {w : World} {P : Nat → Prop} {q : Nat} {L : List Tm} (e : QueR w P q L) (hL : L.length ≤ 200) (kd : Int) : Calls Try.prog 27 #[.pointer (some ⟨q, 0, none⟩), .int .i64 kd] w fun er w' => ∃ A n c, er = .returned (.slice A n c) ∧ (noT kd L).length = n ∧ Own (E := encT) w' w.heap.size 53 (.slice A n c) (noT kd L) ∧ Below w.heap.size w w' := by
  obtain ⟨LA, lc, h1, h2, h3⟩ := e.e
  have HX := hid (fun W hb => (h3 W hb).1)
  have HY := hid (fun W hb => (h3 W hb).2.2)
  obtain ⟨n, hn⟩ : ∃ n, L.length = n := ⟨_, rfl⟩
  rw [hn] at HX h1 hL
  have HN := hid hn
  have HB0 := hid (Below.refl w.heap.size w)
  clear e h3 hn
  go_enter Try.func27, Try.ntmps27
  go_wp2_with fail
  go_loopw [5, 6] (fun v i wr => ∃ (A : Option Addr) (m c k : Nat), v = .slice A m c ∧ i = .int .i64 (k : Int) ∧ k ≤ n ∧ m ≤ k ∧ Hid ((noT kd (L.take k)).length = m) ∧ Hid (Own (E := encT) wr w.heap.size 53 (.slice A m c) (noT kd (L.take k))) ∧ Hid (Below w.heap.size w wr)) (fun _ i _ => n - (intOf i).toNat)
  case atStart => exact ⟨none, 0, 0, 0, rfl, rfl, Nat.zero_le _, Nat.le_refl _, hid (by simp [noT]), hid (Own.nil _ _ _), HB0⟩
  case round =>
    obtain ⟨wj, hwj⟩ : ∃ x, x = wr := ⟨_, rfl⟩
    subst hwj
    obtain ⟨A, m', c, k, rfl, rfl, hk, hmk, HL, HO, HB⟩ := hrel
    have hk0 : (0 : Int) ≤ (k : Int) := Int.natCast_nonneg _
    have c0 := HX.out wj HB.out
    by_cases hlt : k < n
    · obtain ⟨⟨xd, xu⟩, hx⟩ : ∃ x, L[k]? = some x := ⟨_, List.getElem?_eq_getElem (by rw [HN.out]; exact hlt)⟩
      obtain ⟨ad, aj, rfl, ea, HC⟩ := els_at HY.out hx wj HB.out
      obtain ⟨d0, d1⟩ := HC wj HB.out
      have HX2 := hid (take_snoc_of hx)
      simp only at d0 d1
      have hk1 : (k : Int) < (n : Int) := by omega
      clear hx HC
      by_cases he : xu = kd
      · subst he
        have hb : (xu != xu) = false := by simp
        have HNX : Hid (noT xu (L.take (k + 1)) = noT xu (L.take k)) := hid (by rw [HX2.out, noT_snoc, if_pos rfl])
        go_wp2_with fail
        go_roundw
        case rel => exact ⟨A, m', c, k + 1, rfl, by go_num, by omega, by omega, hid (by rw [HNX.out]; exact HL.out), hid (by rw [HNX.out]; exact HO.out), HB⟩
        case measure => simp [intOf]; omega
      · have hb : (xu != kd) = true := by simp [he]
        have HNX : Hid (noT kd (L.take (k + 1)) = noT kd (L.take k) ++ [(xd, xu)]) := hid (by rw [HX2.out, noT_snoc, if_neg he])
        have HOA9 := hid (HO.out.alloc (.cells #[.int .i64 xd, .int .i64 xu] 53))
        have HRD9 := hid (reads_new wj #[.int .i64 xd, .int .i64 xu] 53 (0, 0))
        have HBA9 := hid (HB.out.alloc HB.out.size (.cells #[.int .i64 xd, .int .i64 xu] 53))
        have hbs9 : w.heap.size ≤ (wj.alloc (.cells #[.int .i64 xd, .int .i64 xu] 53)).heap.size := HBA9.out.size
        have hfl : (noT kd (L.take k)).length ≤ 1000000000000 := by rw [HL.out]; omega
        go_wp2_with (first | (at_builtin; refine wpList_app1 (E := encT) rfl slU (.tmp 26) (.tmp 34) rfl (B := w.heap.size) (v := .slice A m' c) (l := noT kd (L.take k)) HOA9.out rfl (ad := ⟨wj.heap.size, 0, none⟩) (c := 1) (xd, xu) rfl HRD9.out hfl (by omega) hbs9 ?_; intro A9 c9 w9 ho9 hg9 he9; have HO9 := hid ho9; have HB9 := hid (HBA9.out.grown hg9 hbs9 (fun g e => (World.ownsRow.lt HOA9.out g e).1)); clear ho9 hg9 he9) | go_in)
        rw [HL.out] at HO9 ⊢
        go_roundw
        case rel => exact ⟨A9, m' + 1, c9, k + 1, rfl, by go_num, by omega, by omega, hid (by rw [HNX.out, List.length_append, HL.out]; rfl), hid (by rw [HNX.out]; exact HO9.out), HB9⟩
        case measure => simp [intOf]; omega
    · obtain rfl : k = n := by omega
      have HT : Hid (noT kd (L.take k) = noT kd L) := hid (by rw [List.take_of_length_le (by rw [HN.out]; exact Nat.le_refl _)])
      rw [HT.out] at HO HL
      go_wp2_with fail
      go_ret
      exact ⟨A, m', c, rfl, HL.out, HO.out, HB.out⟩
set_option maxHeartbeats 2000000 in
theorem refStop_any {w : World} {P : Nat → Prop} {q : Nat} {L : List Tm} (e : QueR w P q L) (hL : L.length ≤ 200) (kd : Int) : Calls Try.prog 17 #[.pointer (some ⟨q, 0, none⟩), .int .i64 kd] w fun er w' => er = .returned (.bool (decide ((noT kd L).length < L.length))) ∧ QueR w' (plusT P w.heap.size w'.heap.size) q (noT kd L) ∧ Grew w w' P := by
  have HC := hid (refNo_any e hL kd)
  have HP := hid (fun (w9 : World) (A : Option Addr) (n c : Nat) hb (ho : Own (E := encT) w9 w.heap.size 53 (.slice A n c) (noT kd L)) hn => e.put hb ho hn)
  obtain ⟨LA, lc, h1, h2, h3⟩ := e.e
  have HX := hid (fun W hb => (h3 W hb).1)
  have HF := hid (fun W hb => (h3 W hb).2.1)
  clear e h3
  obtain ⟨n, hn⟩ : ∃ n, L.length = n := ⟨_, rfl⟩
  rw [hn] at HX
  have HN := hid hn
  clear hn h1 hL
  go_enter Try.func17, Try.ntmps17
  go_wp2_with fail
  refine HC.out.mono ?_
  rintro er w2 ⟨A2, n2, c2, rfl, hn2, o2, b2⟩
  have c0 := HX.out w2 b2
  have f0 := HF.out w2 b2
  have HE := hid (HP.out w2 A2 n2 c2 b2 o2 hn2)
  have HN2 := hid hn2
  clear o2 b2 hn2
  go_wp2_with fail
  go_ret
  exact ⟨by rw [HN.out, HN2.out]; simp, HE.out⟩
end Go.Proofs.Ytphajbdkaikmpaa.Sh
/-
  A call of a Go function by its contract, as one step of a region that draws.
-/
namespace Go.Proofs.Ytphajbdkaikmpaa.Sh
open Go Go.RowKit

set_option linter.unusedSimpArgs false
set_option linter.unusedVariables false
theorem step_callG {P : Program} {ops : Array Oper} {o : Oper} {a : Act} {w : World} {K : Act → World → Prop} {Q : Exit → Act → World → Prop} {E : Prop} (hg : o.guard = none) {f : FuncId} {xs : Array Operand} {ts : Array TypeId}
    (hop : o.op = .call { callee := .value (.func f), args := xs, argTypes := ts }) (args : Array Value) (hx : xs.map a.eval = args) {R : Ending → World → Prop} (hC : Calls P f args w R)
    (he : ∀ args w, (callFunc f args).run P w = .ok (.enter f args) w)
    (h : ∀ e w', R e w' → ∃ v, e = .returned v ∧ K (a.put o.dst v) w') :
    if Region.wanted o (yielded ops a.tmps) = true then Oper.wp P o a w K Q else E := by
  have hw : Region.wanted o (yielded ops a.tmps) = true := by simp [Region.wanted, hg]
  rw [if_pos hw]
  unfold Oper.wp
  simp [execOp, hop, resolve, invoke, Result.andThen, hx, Deferred.ofValue, Act.eval, he]
  refine hC.mono fun e w' hr => ?_
  obtain ⟨v, rfl, hk⟩ := h e w' hr
  exact hk
end Go.Proofs.Ytphajbdkaikmpaa.Sh
/-
  The order of timers, by contract: cmp.Compare, cmp.Or, order; the pile's Len and Less.
-/
namespace Go.Proofs.Ytphajbdkaikmpaa.Sh
open Go Go.RowKit

set_option linter.unusedSimpArgs false
set_option linter.unusedVariables false
def cmpI (a b : Int) : Int := if a < b then -1 else if b < a then 1 else 0
def cmpT (a b : Tm) : Int := if ltT a b then -1 else if ltT b a then 1 else 0
theorem cmpT_of_lt {a b : Tm} (h : ltT a b) : cmpT a b = -1 := by unfold cmpT; rw [if_pos h]
theorem cmpT_of_gt {a b : Tm} (h : ltT b a) : cmpT a b = 1 := by
  have h2 : ¬ ltT a b := fun k => ltT_irrefl _ (h.trans k)
  unfold cmpT; rw [if_neg h2, if_pos h]
theorem cmpT_of_no {a b : Tm} (h : ¬ ltT a b) (h2 : ¬ ltT b a) : cmpT a b = 0 := by unfold cmpT; rw [if_neg h, if_neg h2]
theorem cmpT_or (a b : Tm) : cmpT a b = if cmpI a.1 b.1 = 0 then cmpI a.2 b.2 else cmpI a.1 b.1 := by
  by_cases h1 : a.1 < b.1
  · rw [cmpT_of_lt (by unfold ltT; omega)]; unfold cmpI; rw [if_pos h1]; rfl
  · by_cases h2 : b.1 < a.1
    · rw [cmpT_of_gt (by unfold ltT; omega)]; unfold cmpI; rw [if_neg h1, if_pos h2]; rfl
    · have e : cmpI a.1 b.1 = 0 := by unfold cmpI; rw [if_neg h1, if_neg h2]
      rw [if_pos e]
      unfold cmpI
      by_cases h3 : a.2 < b.2
      · rw [cmpT_of_lt (by unfold ltT; omega), if_pos h3]
      · by_cases h4 : b.2 < a.2
        · rw [cmpT_of_gt (by unfold ltT; omega), if_neg h3, if_pos h4]
        · rw [cmpT_of_no (by unfold ltT; omega) (by unfold ltT; omega), if_neg h3, if_neg h4]
theorem cmpT_lt (a b : Tm) : decide (cmpT a b < 0) = decide (ltT a b) := by
  by_cases h : ltT a b
  · rw [cmpT_of_lt h]; simp [h]
  · by_cases h2 : ltT b a
    · rw [cmpT_of_gt h2]; simp [h]
    · rw [cmpT_of_no h h2]; simp [h]
theorem isNaN_any (a : Int) (w : World) : Calls Try.prog 45 #[.int .i64 a] w fun e w' => e = .returned (.bool false) ∧ w = w' := by
  have h : (a != a) = false := by simp
  go_enter Try.func45, Try.ntmps45
  go_wp2_with fail
  go_ret
  exact ⟨rfl, rfl⟩
theorem compare_any (a b : Int) (w : World) : Calls Try.prog 34 #[.int .i64 a, .int .i64 b] w fun e w' => e = .returned (.int .i64 (cmpI a b)) ∧ w = w' := by
  have HA := hid (isNaN_any a w)
  have HB := hid (isNaN_any b w)
  by_cases h1 : a < b
  · have HE : Hid (cmpI a b = -1) := hid (by unfold cmpI; rw [if_pos h1])
    go_enter Try.func34, Try.ntmps34
    go_wp2_with fail
    refine HA.out.mono ?_
    rintro er w2 ⟨rfl, rfl⟩
    go_wp2_with fail
    refine HB.out.mono ?_
    rintro er w2 ⟨rfl, rfl⟩
    go_wp2_with fail
    go_ret
    exact ⟨by rw [HE.out]; rfl, rfl⟩
  · by_cases h2 : b < a
    · have HE : Hid (cmpI a b = 1) := hid (by unfold cmpI; rw [if_neg h1, if_pos h2])
      go_enter Try.func34, Try.ntmps34
      go_wp2_with fail
      refine HA.out.mono ?_
      rintro er w2 ⟨rfl, rfl⟩
      go_wp2_with fail
      refine HB.out.mono ?_
      rintro er w2 ⟨rfl, rfl⟩
      go_wp2_with fail
      go_ret
      exact ⟨by rw [HE.out]; rfl, rfl⟩
    · have HE : Hid (cmpI a b = 0) := hid (by unfold cmpI; rw [if_neg h1, if_neg h2])
      go_enter Try.func34, Try.ntmps34
      go_wp2_with fail
      refine HA.out.mono ?_
      rintro er w2 ⟨rfl, rfl⟩
      go_wp2_with fail
      refine HB.out.mono ?_
      rintro er w2 ⟨rfl, rfl⟩
      go_wp2_with fail
      go_ret
      exact ⟨by rw [HE.out]; rfl, rfl⟩
set_option maxHeartbeats 2000000 in
theorem or_any (x y : Int) (w : World) (b : Nat) (c0 : w.cell? ⟨b, 0, none⟩ = some (.int .i64 x)) (c1 : w.cell? ⟨b, 1, none⟩ = some (.int .i64 y)) :
    Calls Try.prog 33 #[.slice (some ⟨b, 0, none⟩) 2 2] w fun e w' => e = .returned (.int .i64 (if x = 0 then y else x)) ∧ w = w' := by
  by_cases hx : x = 0
  · subst hx
    by_cases hy : y = 0
    · subst hy
      go_enter Try.func33, Try.ntmps33
      go_wp2_with fail
      refine wp_loop_rounds 3 ?_
      rw [rounds_succ]
      go_wp2_with fail
      rw [rounds_succ]
      go_wp2_with fail
      rw [rounds_succ]
      go_wp2_with fail
      go_ret
      exact ⟨rfl, rfl⟩
    · have hy' : (y != 0) = true := by simp [hy]
      clear hy
      go_enter Try.func33, Try.ntmps33
      go_wp2_with fail
      refine wp_loop_rounds 2 ?_
      rw [rounds_succ]
      go_wp2_with fail
      rw [rounds_succ]
      go_wp2_with fail
      go_ret
      exact ⟨rfl, rfl⟩
  · have hx' : (x != 0) = true := by simp [hx]
    rw [if_neg hx]
    clear hx
    go_enter Try.func33, Try.ntmps33
    go_wp2_with fail
    refine wp_loop_rounds 1 ?_
    rw [rounds_succ]
    go_wp2_with fail
    go_ret
    exact ⟨rfl, rfl⟩
end Go.Proofs.Ytphajbdkaikmpaa.Sh
/-
  The order of timers (order), the pile's Len and Less, by contract.
-/
namespace Go.Proofs.Ytphajbdkaikmpaa.Sh
open Go Go.RowKit Go.Sort

set_option linter.unusedSimpArgs false
set_option linter.unusedVariables false
theorem new2 (W : World) (x y : Value) (t : TypeId) : (W.alloc (.cells #[x, y] t)).cell? ⟨W.heap.size, 0, none⟩ = some x ∧ (W.alloc (.cells #[x, y] t)).cell? ⟨W.heap.size, 1, none⟩ = some y :=
  ⟨by rw [cell_of_row _ _ 0 _ _ (0, 0) (heap_alloc_new W _)]; rfl, by rw [cell_of_row _ _ 1 _ _ (0, 0) (heap_alloc_new W _)]; rfl⟩
theorem or_new (x y : Int) (W : World) : Calls Try.prog 33 #[.slice (some ⟨W.heap.size, 0, none⟩) 2 2] (W.alloc (.cells #[.int .i64 x, .int .i64 y] 3)).drew fun e w' => e = .returned (.int .i64 (if x = 0 then y else x)) ∧ (W.alloc (.cells #[.int .i64 x, .int .i64 y] 3)).drew = w' :=
  or_any x y _ _ (new2 W _ _ _).1 (new2 W _ _ _).2
set_option maxHeartbeats 2000000 in
theorem orderT_any (x y : Tm) (w : World) : Calls Try.prog 26 #[.agg (encT.cells x).toArray, .agg (encT.cells y).toArray] w fun e w' => e = .returned (.int .i64 (cmpT x y)) ∧ ∃ q os', w' = grow (w.drewN q) os' := by
  obtain ⟨d, q⟩ := x
  obtain ⟨d', q'⟩ := y
  show Calls _ _ #[.agg #[.int .i64 d, .int .i64 q], .agg #[.int .i64 d', .int .i64 q']] _ _
  have HC1 := hid (fun w => compare_any d d' w)
  have HC2 := hid (fun w => compare_any q q' w)
  have HE := hid (cmpT_or (d, q) (d', q'))
  obtain ⟨z1, hz1⟩ : ∃ z, cmpI d d' = z := ⟨_, rfl⟩
  obtain ⟨z2, hz2⟩ : ∃ z, cmpI q q' = z := ⟨_, rfl⟩
  rw [hz1, hz2] at HE
  rw [hz1] at HC1
  rw [hz2] at HC2
  obtain ⟨z, hz⟩ : ∃ z, (if z1 = 0 then z2 else z1) = z := ⟨_, rfl⟩
  rw [hz] at HE
  have HO := hid (fun W => or_new z1 z2 W)
  rw [hz] at HO
  obtain ⟨w2, hw2⟩ : ∃ x, x = (w.alloc (.cells #[.int .i64 d, .int .i64 q] 37)).alloc (.cells #[.int .i64 d', .int .i64 q'] 37) := ⟨_, rfl⟩
  have hs1 : (w.alloc (.cells #[.int .i64 d, .int .i64 q] 37)).heap.size = w.heap.size + 1 := by simp
  have hs2 : w2.heap.size = w.heap.size + 2 := by rw [hw2]; simp
  have HB2 : Hid (Below w2.heap.size w2 w2) := hid (Below.refl _ _)
  have HK : Hid (∀ W, Below w2.heap.size w2 W → W.cell? ⟨w.heap.size, 0, none⟩ = some (.int .i64 d) ∧ W.cell? ⟨w.heap.size, 1, none⟩ = some (.int .i64 q) ∧ W.cell? ⟨w.heap.size + 1, 0, none⟩ = some (.int .i64 d') ∧ W.cell? ⟨w.heap.size + 1, 1, none⟩ = some (.int .i64 q')) := hid (fun W hb => by
    have k1 : w2.heap[w.heap.size]? = some (.cells #[.int .i64 d, .int .i64 q] 37 (0, 0)) := by
      rw [hw2, heap_alloc_old (h := by simp)]; exact heap_alloc_new w _
    have k2 : w2.heap[w.heap.size + 1]? = some (.cells #[.int .i64 d', .int .i64 q'] 37 (0, 0)) := by
      rw [hw2, ← hs1]; exact heap_alloc_new _ _
    have j1 := (hb.block _ (by omega)).trans k1
    have j2 := (hb.block _ (by omega)).trans k2
    refine ⟨?_, ?_, ?_, ?_⟩
    · rw [cell_of_row _ _ 0 _ _ (0, 0) j1]; rfl
    · rw [cell_of_row _ _ 1 _ _ (0, 0) j1]; rfl
    · rw [cell_of_row _ _ 0 _ _ (0, 0) j2]; rfl
    · rw [cell_of_row _ _ 1 _ _ (0, 0) j2]; rfl)
  have HW2 := hid hw2
  clear hz1 hz2 hz hw2 hs1 hs2
  go_enter Try.func26, Try.ntmps26
  go_upto_region 1 with fail
  rw [← HW2.out]
  go_region_held3 (fun W => W.cell? ⟨w.heap.size, 0, none⟩ = some (.int .i64 d) ∧ W.cell? ⟨w.heap.size, 1, none⟩ = some (.int .i64 q) ∧ W.cell? ⟨w.heap.size + 1, 0, none⟩ = some (.int .i64 d') ∧ W.cell? ⟨w.heap.size + 1, 1, none⟩ = some (.int .i64 q'))
    (first | exact HK.out _ HB2.out.drew | exact HK.out _ (HB2.out.alloc (Nat.le_refl _) _).drew)
    ((first | (go_at_call 34; (first | (with_reducible refine (HC1.out _).mono ?_) | (with_reducible refine (HC2.out _).mono ?_)); rintro er w2 ⟨rfl, rfl⟩) | (go_at_call 33; (refine (HO.out _).mono ?_); rintro er w2 ⟨rfl, rfl⟩)))
  all_goals
    go_wp2_with fail
    go_ret
    refine ⟨by rw [HE.out]; rfl, 1, #[.cells #[.int .i64 d, .int .i64 q] 37, .cells #[.int .i64 d', .int .i64 q'] 37, .cells #[.int .i64 z1, .int .i64 z2] 3], ?_⟩
    show (w2.alloc (.cells #[.int .i64 z1, .int .i64 z2] 3)).drew = _
    rw [HW2.out, alloc_eq_grow, alloc_eq_grow, alloc_eq_grow, grow_grow, grow_grow]
    rfl
theorem below_growD {w : World} {q : Nat} {os : Array Obj} : Below w.heap.size w (grow (w.drewN q) os) := by
  refine ⟨rfl, rfl, rfl, ?_, fun b hb => ?_⟩
  · rw [size_grow]; simp
  · rw [heap_grow_old _ _ (by simpa using hb)]; rfl
theorem orderT_below (x y : Tm) (w : World) : Calls Try.prog 26 #[.agg (encT.cells x).toArray, .agg (encT.cells y).toArray] w fun e w' => e = .returned (.int .i64 (cmpT x y)) ∧ Below w.heap.size w w' :=
  (orderT_any x y w).mono fun e w' ⟨h, q, os, hw⟩ => ⟨h, by rw [hw]; exact below_growD⟩
end Go.Proofs.Ytphajbdkaikmpaa.Sh
/-
  The pile's Len, Less, by contract.
-/
namespace Go.Proofs.Ytphajbdkaikmpaa.Sh
open Go Go.RowKit

set_option linter.unusedSimpArgs false
set_option linter.unusedVariables false
theorem addr_rowT (g k : Nat) : (⟨g, 0, none⟩ : Addr).add k = ⟨g, k, none⟩ := by
  rcases Nat.eq_zero_or_pos k with e | e
  · subst e; rw [add_zero]
  · rw [add_pos _ k e]; simp
theorem lenT_any {w : World} {q n c : Nat} {A : Option Addr} (c0 : w.cell? ⟨q, 0, none⟩ = some (.slice A n c)) : Calls Try.prog 20 #[.pointer (some ⟨q, 0, none⟩)] w fun e w' => e = .returned (.int .i64 (n : Int)) ∧ w = w' := by
  go_enter Try.func20, Try.ntmps20
  go_wp2_with fail
  go_ret
  exact ⟨rfl, rfl⟩
set_option maxHeartbeats 2000000 in
theorem lessT_any {w : World} {P : Nat → Prop} {q h k c : Nat} {A : Option Addr} {T : List Tm} {f : Int → Option Int} (e : PileE w P q h k A c T f) {i j : Nat} (hi : i < T.length) (hj : j < T.length) :
    Calls Try.prog 69 #[.pointer (some ⟨q, 0, none⟩), .int .i64 (i : Int), .int .i64 (j : Int)] w fun er w' => er = .returned (.bool (decide (ltT (ofT T i) (ofT T j)))) ∧ Below w.heap.size w w' := by
  have HK := hid (fun W (hb : Below w.heap.size w W) => by
    have e2 := e.below hb
    obtain ⟨g, tl, hA, -, -, -, -, a0, a1⟩ := e2.at' hi
    obtain ⟨g', tl', hA', -, -, -, -, b0, b1⟩ := e2.at' hj
    rw [hA] at hA'
    simp only [Option.some.injEq, Addr.mk.injEq, and_true] at hA'
    subst hA'
    exact (⟨g, hA, e2.c0, a0, a1, b0, b1⟩ : ∃ g, A = some ⟨g, 0, none⟩ ∧ W.cell? ⟨q, 0, none⟩ = some (.slice A T.length c) ∧ W.cell? ⟨g, i * 2, none⟩ = some (.int .i64 (ofT T i).1) ∧ W.cell? ⟨g, i * 2 + 1, none⟩ = some (.int .i64 (ofT T i).2) ∧ W.cell? ⟨g, j * 2, none⟩ = some (.int .i64 (ofT T j).1) ∧ W.cell? ⟨g, j * 2 + 1, none⟩ = some (.int .i64 (ofT T j).2)))
  obtain ⟨g, rfl, -⟩ := HK.out w (Below.refl _ _)
  have HK : Hid (∀ W, Below w.heap.size w W → W.cell? ⟨q, 0, none⟩ = some (.slice (some ⟨g, 0, none⟩) T.length c) ∧ W.cell? ⟨g, i * 2, none⟩ = some (.int .i64 (ofT T i).1) ∧ W.cell? ⟨g, i * 2 + 1, none⟩ = some (.int .i64 (ofT T i).2) ∧ W.cell? ⟨g, j * 2, none⟩ = some (.int .i64 (ofT T j).1) ∧ W.cell? ⟨g, j * 2 + 1, none⟩ = some (.int .i64 (ofT T j).2)) := hid (fun W hb => by
    obtain ⟨g', h1, h2⟩ := HK.out W hb
    simp only [Option.some.injEq, Addr.mk.injEq, and_true] at h1
    subst h1
    exact h2)
  have hm := e.els.2
  have HO := hid (fun W => orderT_below (ofT T i) (ofT T j) W)
  have HE := hid (cmpT_lt (ofT T i) (ofT T j))
  obtain ⟨z, hz⟩ : ∃ z, cmpT (ofT T i) (ofT T j) = z := ⟨_, rfl⟩
  rw [hz] at HE HO
  clear hz e
  obtain ⟨⟨d, u⟩, hx⟩ : ∃ x, ofT T i = x := ⟨_, rfl⟩
  obtain ⟨⟨d', u'⟩, hy⟩ : ∃ x, ofT T j = x := ⟨_, rfl⟩
  rw [hx, hy] at HK HE HO
  rw [hx, hy]
  obtain ⟨n, hn⟩ : ∃ n, T.length = n := ⟨_, rfl⟩
  rw [hn] at hi hj hm HK
  clear hx hy hn
  have hi0 : (0 : Int) ≤ (i : Int) := Int.natCast_nonneg _
  have hj0 : (0 : Int) ≤ (j : Int) := Int.natCast_nonneg _
  have hi1 : (i : Int) < (n : Int) := by omega
  have hj1 : (j : Int) < (n : Int) := by omega
  have ai := addr_rowT g (i * 2)
  have aj := addr_rowT g (j * 2)
  have HO : Hid (∀ W, Calls Try.prog 26 #[.agg #[.int .i64 d, .int .i64 u], .agg #[.int .i64 d', .int .i64 u']] W fun e w' => e = .returned (.int .i64 z) ∧ Below W.heap.size W w') := hid HO.out
  have HB0 : Hid (Below w.heap.size w w) := hid (Below.refl _ _)
  clear hi hj
  go_enter Try.func69, Try.ntmps69
  go_upto_region 1 with fail
  go_region_held3 (fun W => W.cell? ⟨q, 0, none⟩ = some (.slice (some ⟨g, 0, none⟩) n c) ∧ W.cell? ⟨g, i * 2, none⟩ = some (.int .i64 d) ∧ W.cell? ⟨g, i * 2 + 1, none⟩ = some (.int .i64 u) ∧ W.cell? ⟨g, j * 2, none⟩ = some (.int .i64 d') ∧ W.cell? ⟨g, j * 2 + 1, none⟩ = some (.int .i64 u'))
    (first | exact HK.out _ HB0.out.drew | exact HK.out _ HB2.out)
    ((first | (go_at_call 26; (refine (HO.out _).mono ?_); rintro er w2 ⟨rfl, bb⟩; have HB2 : Hid (Below w.heap.size w w2) := hid (HB0.out.drew.trans bb); clear bb)))
  all_goals
    go_wp2_with fail
    go_ret
    exact ⟨by rw [← HE.out]; rfl, HB2.out⟩
end Go.Proofs.Ytphajbdkaikmpaa.Sh
