/-
  maps.Keys at a map of IDs: what its iterator gives.
-/
import Derived.Test.YtfbapbpggicfbaaGreatDoorJz17
import Derived.RangeFuncNested
import Derived.RangeFuncBound
import Derived.RangeFuncCalls
import Derived.RangeFuncLeaves
import Derived.Shelf.Abstract
import Derived.Shelf.RegionOpen
import Derived.WalkKit
import Derived.OwnWalkIn
import Derived.TacticsInMore
import Derived.LoopNIn
import Derived.LoopIn
import Derived.Sort.MapsRangeIn
import Derived.Maps.AppendAt
import Derived.Test.YtfbapbpggicfbaaGreatDoorJz11
import Derived.Test.YtfbapbpggicfbaaGreatDoorJz15
import Derived.Shelf.SlSortCmp.NoneTotal
import Derived.Shelf.SlSortCmp.InsertionK
import Derived.Shelf.Sort.AssemblysIn
import Derived.Sort.EveryDepth
import Derived.Sort.OwnSorted
import Derived.Ground.SlsfProg
set_option linter.unusedVariables false
set_option linter.unusedSimpArgs false
namespace Go.Proofs.YtfbapbpggicfbaaGreatDoor.Sh
open Go Go.RowKit Go.Maps

set_option linter.unusedVariables false
set_option linter.unusedSimpArgs false

/-- What has come: each once; just those that are no longer to come. -/
def ColI (D0 : DataW Unit) (left : Lit → Bool) (ss : List (Int × Int)) : Prop := ss.Nodup ∧ (∀ i ∈ ss, okI i) ∧ ∀ i, okI i → (i ∈ ss ↔ (has D0 (ki i) = true ∧ left (ki i) = false))
theorem ColI.start (D0 : DataW Unit) : ColI D0 (has D0) [] := ⟨List.nodup_nil, by simp, fun i _ => by cases has D0 (ki i) <;> simp⟩
theorem same_ki {x y : Int × Int} (hx : okI x) (hy : okI y) : (ki y).sameKey (ki x) = true ↔ y = x := by
  unfold ki Lit.sameKey
  simp only [beq_iff_eq, decide_eq_true_eq]
  constructor
  · intro h; exact ki_inj hy hx (by unfold ki; rw [h])
  · intro h; rw [h]
theorem ColI.step {D0 : DataW Unit} {left : Lit → Bool} {ss : List (Int × Int)} (h : ColI D0 left ss) {x : Int × Int} (hx : okI x) {y : DataW Unit} (hlk : left (ki x) = true) (hat : ∀ zd, D0.atKey (ki x) zd = y) : x ∉ ss ∧ ColI D0 (fun z => left z && !z.sameKey (ki x)) (ss ++ [x]) := by
  have hhas : has D0 (ki x) = true := has_true_of_atKey hat
  have hnew : x ∉ ss := fun hm => by have := ((h.2.2 x hx).1 hm).2; rw [hlk] at this; cases this
  refine ⟨hnew, List.nodup_append.2 ⟨h.1, by simp, fun a ha b hb => by simp at hb; subst hb; exact fun e => hnew (e ▸ ha)⟩, fun i hi => ?_, fun i hi => ?_⟩
  · rcases List.mem_append.1 hi with h1 | h1
    · exact h.2.1 i h1
    · rw [List.mem_singleton] at h1; rw [h1]; exact hx
  · rw [List.mem_append, List.mem_singleton, h.2.2 i hi]
    by_cases hy : i = x
    · subst hy
      have := (same_ki hx hx).2 rfl
      simp [hhas, this]
    · have : (ki i).sameKey (ki x) = false := Bool.eq_false_iff.2 fun e => hy ((same_ki hx hi).1 e)
      simp [hy, this]
theorem nodup_le {α : Type} [DecidableEq α] : ∀ {a b : List α}, a.Nodup → (∀ x ∈ a, x ∈ b) → a.length ≤ b.length
  | [], _, _, _ => Nat.zero_le _
  | x :: t, b, h, hs => by
    obtain ⟨h1, h2⟩ := List.nodup_cons.1 h
    have hx := hs x (by simp)
    have := nodup_le (b := b.erase x) h2 (fun y hy => (List.mem_erase_of_ne (fun e => h1 (by rw [← e]; exact hy))).2 (hs y (by simp [hy])))
    rw [List.length_erase_of_mem hx] at this
    have := List.length_pos_of_mem hx
    simp only [List.length_cons]
    omega
set_option maxRecDepth 100000 in
set_option maxHeartbeats 2000000 in
theorem keysI_in (F : Fence) (n : Nat) (h10 : F.fn 57) (hro : F.round = none) (hn : 1 ≤ n) (l Bm b nn : Nat) (L : List (Int × Int)) (D0 : DataW Unit) (hD1 : ∀ i, okI i → Maps.has D0 (ki i) = decide (i ∈ L)) (hD2 : ∀ z, Maps.has D0 z = true → ∃ i ∈ L, okI i ∧ z = ki i)
    (J Jx : List (Int × Int) → World → Prop)
    (hY : ∀ pre x W, J pre W → pre.length < L.length → YieldAt F (n - 1) Tryz.prog l #[iV x] W fun e W' =>
      (e = .returned (.bool true) ∧ J (pre ++ [x]) W' ∧ KeepsWalks W W') ∨ (e = .returned (.bool false) ∧ Jx (pre ++ [x]) W'))
    (W : World) (hJ : AbidesFrom W.heap.size J) (hm : W.cell? ⟨Bm, 0, none⟩ = some (.map (some b))) (hown : W.ownsMap Tryz.prog 26 unitElem b nn D0) (h0 : J [] W) :
    CallsIn F n Tryz.prog 57 #[.func (.yield l) #[] #[], .pointer (some ⟨Bm, 0, none⟩)] W fun e W' => (∃ v, e = .returned v) ∧
      ((∃ ss : List (Int × Int), (ss.Nodup ∧ (∀ i ∈ ss, okI i) ∧ ∀ i, okI i → (i ∈ ss ↔ i ∈ L)) ∧ J ss W') ∨ (∃ pre : List (Int × Int), True ∧ Jx pre W')) := by
  refine callsIn_of_wp Tryz.func57 rfl h10 ?_ hro
  simp only [Tryz.ntmps57, List.size_toArray, List.length_cons, List.length_nil, Nat.reduceAdd, Nat.reduceSub, Array.replicate_succ, Array.replicate_zero, List.push_toArray, List.append_toArray, List.nil_append, List.cons_append]
  gi_wp2_with (first
    | (gi_at_range; refine wpListIn_range_own _ rfl _ 39 rfl 26 72 lawI Tryz.underlying39 _ b nn _ rfl hown ?_; intro w0 hrg0 hg0 hs0)
    | gi_in)
  go_frame
  gi_loopw [3] (fun _ wr => ∃ (left : Lit → Bool) (cnt : Nat) (ss : List (Int × Int)), wr.ranges Tryz.prog 26 unitElem b W.heap.size nn D0 left cnt ∧ (∀ i ∈ ss, i ∈ L) ∧ ColI D0 left ss ∧ J ss wr)
    (fun _ wr => wr.rangeLeft b W.heap.size)
  case atStart =>
    exact ⟨_, _, [], hrg0, by simp, ColI.start D0, hJ [] W w0 none h0 hg0 (fun r e => by cases e)⟩
  case round =>
    obtain ⟨left, cnt, ss, hrg, hcs, hC, hJs⟩ := hrel
    gi_wp2_with (first
      | (gi_at_next; refine wpListIn_next_ranges _ rfl _ rfl 26 lawI unitElem id id (fun key kl hk => ⟨key, rfl⟩) (fun v _ _ => ⟨v, rfl⟩) b W.heap.size nn _ _ _ rfl hrg ?_ ?_)
      | gi_in)
    · -- nothing is left
      intro hc0 hl0
      gi_wp2
      go_end0
      exact ⟨⟨_, rfl⟩, .inl ⟨ss, ⟨hC.1, hC.2.1, fun i hi => by rw [hC.2.2 i hi, hl0, hD1 i hi]; simp⟩, hJs⟩⟩
    · -- a key
      intro x c kl yd yp w2 cnt2 hkey hlk hv hat hrg2 hlt hg2 hs2 hen
      obtain ⟨i, hiL, hi, rfl⟩ := hD2 kl (has_true_of_atKey hat)
      obtain rfl : x = iV i := lawI.inj hkey (keyI hi)
      obtain ⟨hnew, hC2⟩ := hC.step hi hlk hat
      have hlen : ss.length < L.length := by
        have hsub : (i :: ss).length ≤ L.length := by
          have hnd : (i :: ss).Nodup := List.nodup_cons.2 ⟨hnew, hC.1⟩
          exact nodup_le hnd (fun y hy => by
            rcases List.mem_cons.1 hy with e | e
            · rw [e]; exact hiL
            · exact hcs y e)
        simp only [List.length_cons] at hsub
        omega
      have hJ2 : J ss (w2.alloc (.cells #[.int .i64 i.1, .int .i64 i.2] 26)) := hJ ss w2 _ none (hJ ss wr w2 (some W.heap.size) hJs hg2 (fun r e => by cases e; exact ⟨Nat.le_refl _, hrg.iter_walk⟩)) (World.grownBy_alloc w2 _ none) (fun r e => by cases e)
      have hrg2' := hrg2.of_walks (KeepsWalks.alloc w2 (.cells #[.int .i64 i.1, .int .i64 i.2] 26))
      obtain ⟨fn, tmps, assign, body, hy, hR⟩ := hY ss i _ hJ2 hlen
      clear hs2
      unfold iV at hen hy
      obtain ⟨d, q⟩ := i
      simp only [id] at hen hy
      simp only at hJ2 hrg2' hR
      gi_wp2
      refine hR.mono ?_
      rintro e W3 (⟨rfl, hJ3, hk3⟩ | ⟨rfl, hJx3⟩)
      · gi_wp2
        have hrg3 := hrg2'.of_walks hk3
        go_roundw
        case rel => exact ⟨_, cnt2, ss ++ [(d, q)], hrg3, fun y hy => by
          rcases List.mem_append.1 hy with e | e
          · exact hcs y e
          · rw [List.mem_singleton] at e; rw [e]; exact hiL, hC2, hJ3⟩
        case measure => rw [hrg3.left_eq, hrg.left_eq]; exact hlt
      · gi_wp2
        refine bodyPost_ret (results_none rfl _ _ _) rfl ?_
        exact ⟨⟨_, rfl⟩, .inr ⟨ss ++ [(d, q)], trivial, hJx3⟩⟩
theorem keysI_stops (F : Fence) (n : Nat) (h10 : F.fn 57) (hro : F.round = none) (hn : 1 ≤ n) (Bm b : Nat) (L : List (Int × Int)) (w : World) (hBm : Bm < w.heap.size)
    (hm : w.cell? ⟨Bm, 0, none⟩ = some (.map (some b))) (h : IMap w b L) :
    SeqStopsK F n Tryz.prog 57 #[.pointer (some ⟨Bm, 0, none⟩)] (fun x : Int × Int => #[iV x]) KeepsWalks (fun ss => ss.Nodup ∧ (∀ i ∈ ss, okI i) ∧ ∀ i, okI i → (i ∈ ss ↔ i ∈ L)) (fun _ => True) L.length w := fun l J Jx W hW hJ _ hY h0 => by
  obtain ⟨D, h1, h2, h3⟩ := h.at' (hW.block b h.lt)
  exact keysI_in F n h10 hro hn l Bm b L.length L D h2 h3 J Jx hY W hJ ((hW.cell (p := ⟨Bm, 0, none⟩) hBm).trans hm) h1 h0
set_option maxHeartbeats 1000000 in
theorem keys_any (F : Fence) (n : Nat) (h7 : F.fn 32) (hro : F.round = none) (mb : Option Nat) (w : World) :
    CallsIn F n Tryz.prog 32 #[.map mb] w fun e w' => e = .returned (.func (.func 57) #[] #[.pointer (some ⟨w.heap.size, 0, none⟩)]) ∧ w' = w.alloc (.cells #[.map mb] 39) := by
  refine callsIn_of_wp Tryz.func32 rfl h7 ?_ hro
  simp only [Tryz.ntmps32, List.size_toArray, List.length_cons, List.length_nil, Nat.reduceAdd, Nat.reduceSub, Array.replicate_succ, Array.replicate_zero, List.push_toArray, List.append_toArray, List.nil_append, List.cons_append]
  gi_wp2
  go_ret
  exact ⟨rfl, rfl⟩
end Go.Proofs.YtfbapbpggicfbaaGreatDoor.Sh
/-
  slices.AppendSeq at IDs, by contract.
-/
namespace Go.Proofs.YtfbapbpggicfbaaGreatDoor.Sh
open Go Go.RowKit

set_option linter.unusedVariables false
set_option linter.unusedSimpArgs false
attribute [local go_sem] Oper.semAt_some

theorem reads_two (w : World) (a b : Value) (t : TypeId) (j : Nat) (u : Value) (h : [a, b][j]? = some u) : (w.alloc (.cells #[a, b] t)).cell? ((⟨w.heap.size, 0, none⟩ : Addr).add j) = some u := by
  have hb := heap_alloc_new w (.cells #[a, b] t)
  match j, h with
  | 0, h => simp at h; subst h; exact (cell_of_row _ w.heap.size 0 _ _ (0, 0) hb).trans rfl
  | 1, h => simp at h; subst h; exact (cell_of_row _ w.heap.size 1 _ _ (0, 0) hb).trans rfl
theorem row_own {β : Type} (B : Nat) (o : Obj) (ho : o.isCells = true) : Go.Own (fun (_ : β) W => W.heap[B]? = some o) := fun s X Y row hs hg hrow => by
  have hlt : B < X.heap.size := (Array.getElem?_eq_some_iff.1 hs).1
  exact (hg.block B hlt (fun e => by
    obtain ⟨o', ho', hc⟩ := hrow B e.symm
    rw [hs] at ho'
    injection ho' with ho'
    rw [← ho', ho] at hc
    cases hc)).trans hs
set_option maxRecDepth 100000 in
set_option maxHeartbeats 4000000 in
theorem appendSeqI_in (F : Fence) (n : Nat) (h11 : F.fn 69) (hro : F.round = none) (hn : 2 ≤ n) (g : Nat) (lb : Array Value) (hFg : F.fn g) (eg : ∀ args w, (callFunc g args).run Tryz.prog w = .ok (.enter g args) w)
    (S : List (Int × Int) → Prop) (N : Nat) (hN : N ≤ 1000000) (w : World) (hseq : SeqStopsK F (n - 1) Tryz.prog g lb (fun x : Int × Int => #[iV x]) KeepsWalks S (fun _ => True) N w) :
    CallsIn F n Tryz.prog 69 #[.slice none 0 0, .func (.func g) #[] lb] w fun e w' => ∃ (A : Option Addr) (c : Nat) (ss : List (Int × Int)), e = .returned (.slice A ss.length c) ∧ S ss ∧ Own (E := encI) w' w.heap.size 26 (.slice A ss.length c) ss ∧ Below w.heap.size w w' := by
  have h1 : 1 ≤ n := by omega
  obtain ⟨i0, hi, hz0, hz1, hz2⟩ := info_parts (P := Tryz.prog) (e := 26) (z := .agg #[.int .i64 0, .int .i64 0]) (size := 2) (bytes := 16) (by kernel_rfl)
  refine callsIn_of_wp_marks Tryz.func69 rfl h11 ?_ hro
  simp only [Tryz.ntmps69, List.size_toArray, List.length_cons, List.length_nil, Nat.reduceAdd, Nat.reduceSub, Array.replicate_succ, Array.replicate_zero, List.push_toArray, List.append_toArray, List.nil_append, List.cons_append]
  gi_wp2
  have bS := Boxed.new w 45 (.slice none 0 0)
  have hB0 : Below w.heap.size w (w.alloc (.cells #[.slice none 0 0] 45)) := (Below.refl _ w).alloc (Nat.le_refl _) _
  have hsz : (w.alloc (.cells #[.slice none 0 0] 45)).heap.size = w.heap.size + 1 := by simp
  obtain ⟨W0, hW0⟩ : ∃ W0, w.alloc (.cells #[.slice none 0 0] 45) = W0 := ⟨_, rfl⟩
  rw [hW0] at bS hB0 hsz ⊢
  clear hW0
  refine wpIn_rangeFunc_ownH hro h1 (gf := g) (lb := lb) rfl hFg eg hseq (fun h k => walksK_t h k) walksK_b hB0 (fun _ => rfl)
    (fun pre W => (∃ v, Boxed W w.heap.size 45 v ∧ W.ownsRow w.heap.size 26 2 v pre.length (ev encI pre) ∧ True) ∧ Below w.heap.size w W)
    (fun _ _ _ => False)
    (OwnFrom.and (Own.from (holdsRow_own _ _ _ _ _ _ _ _) _) (ownFrom_below (Nat.le_refl _) (by omega)))
    (fun _ _ _ _ _ hs _ _ => hs)
    ⟨⟨_, bS, World.ownsRow_nil _ _ _ _, trivial⟩, hB0⟩
    (fun x a' W => ∃ Bx, w.heap.size < Bx ∧ W.heap[Bx]? = some (.cells #[.int .i64 x.1, .int .i64 x.2] 26 (0, 0)) ∧ a' = { tmps := #[.slice none 0 0, .func (.func g) #[] lb, .pointer (some ⟨w.heap.size, 0, none⟩), undef, .slice none 0 0, .pointer (some ⟨Bx, 0, none⟩), .func (.func g) #[] lb, iV x, undef, undef, undef, undef, undef], defers := [] })
    (fun x a' _ X Y row hs hg hr => by obtain ⟨Bx, h1, h2, h3⟩ := hs; exact ⟨Bx, h1, row_own (β := Unit) Bx _ rfl () X Y row h2 hg (fun r e => (hr r e).2), h3⟩)
    ?assign ?body ?done ?stop
  case assign =>
    rintro l pre ⟨d, q⟩ W K ⟨⟨v, hv, hrow, _⟩, hB⟩ hK
    unfold iV at hK ⊢
    gi_wp2
    exact hK _ _ ((KeepsOthers.alloc _ _).from _) (KeepsWalks.alloc _ _) ⟨⟨v, hv.alloc _, hrow.alloc _, trivial⟩, hB.alloc hB.size _⟩ ⟨W.heap.size, hv.lt, heap_alloc_new W _, rfl⟩
  case body =>
    rintro l pre ⟨d, q⟩ a' W hl ⟨r, hr⟩ ⟨⟨v, hv, hrow, _⟩, hB⟩ ⟨Bx, hBx, bX, rfl⟩ hlt
    have cB := hv.cell
    have x0 : W.cell? ⟨Bx, 0, none⟩ = some (.int .i64 d) := (cell_of_row W Bx 0 _ _ (0, 0) bX).trans rfl
    have x1 : W.cell? ⟨Bx, 1, none⟩ = some (.int .i64 q) := (cell_of_row W Bx 1 _ _ (0, 0) bX).trans rfl
    have h1' : 1 ≤ n - 1 := by omega
    unfold iV
    gi_wp2_with (first
      | (gi_at_builtin; refine wpListIn_append_own _ rfl _ _ 45 rfl w.heap.size 26 i0 (.agg #[.int .i64 0, .int .i64 0]) 2 16 Tryz.underlying45 hi hz0 hz1 hz2 rfl (by decide) _ _ _ rfl (hrow.alloc _) ⟨W.heap.size, 0, none⟩ 1 1 [.int .i64 d, .int .i64 q] rfl rfl (reads_two W _ _ _) (by intro u hu; simp at hu; rcases hu with rfl | rfl <;> rfl) (by unfold maxLen; omega) (by omega) (by have := hB.size; simp; omega) ?_; intro v' w1 hown' hgrow _
         obtain ⟨g', cap', rfl⟩ := ownsRow_succ hown'
         obtain ⟨hv1, hv2, hr2, hk2, hb2⟩ := hv.appended (by decide) hrow hB.size (Nat.le_refl _) hown' hgrow
         have hc1 := hv1.cell
         have hf1 := hv1.frozen)
      | gi_in)
    refine ⟨hk2.from _, hk2.walks, ⟨⟨_, hv2, ?_⟩, hB.trans hb2⟩⟩
    rw [ev_append, List.length_append, List.length_singleton]
    simpa [ev, encI] using hr2
  case done =>
    rintro D ys W hD hS ⟨⟨v, hv, hrow, _⟩, hB⟩ hK
    have cS := hv.cell
    gi_wp2
    refine ⟨by simp, .inl ⟨_, _, rfl, run_takeDeferred hK, ?_⟩⟩
    obtain ⟨A, c, rfl, _, _, _⟩ := Own.els (E := encI) hrow
    exact ⟨_, results_tmp rfl _ _ _, A, c, ys, rfl, hS, ownsRow_putObj hrow _ hK rfl, hB.trans (belowK_b (w := w) (Nat.le_refl _) W D _ _ (by omega) hK rfl rfl)⟩
  case stop =>
    rintro D c pre W _ _ h _
    exact h.elim
end Go.Proofs.YtfbapbpggicfbaaGreatDoor.Sh
/-
  The order of IDs, the program's by contract; slices.SortFunc at IDs, by the library's contract.
-/
namespace Go.Proofs
open Go.Shelf
def Tryz.sortID_ren : Go.Shelf.Ren := ⟨fun | 6 => 56 | 15 => 71 | 14 => 70 | 28 => 90 | 29 => 91 | 20 => 82 | 21 => 83 | 22 => 84 | 23 => 85 | 24 => 86 | 25 => 87 | 26 => 88 | 27 => 89 | 46 => 95 | 47 => 96 | 48 => 97 | 49 => 98 | 50 => 99 | 57 => 105 | n => n, fun | 22 => 45 | 24 => 26 | 25 => 73 | 3 => 3 | 39 => 117 | 0 => 0 | 53 => 129 | 55 => 131 | 4 => 4 | 46 => 122 | 45 => 121 | 50 => 126 | 5 => 5 | 9 => 9 | 66 => 133 | 70 => 137 | 76 => 144 | 77 => 145 | n => n, fun | n => n⟩
theorem Tryz.sortID : Go.Proofs.SlLaysF0.n6 Tryz.prog Tryz.sortID_ren := {
  mixed := by kernel_rfl
  f6 := ⟨Tryz.f56.name, by decide, Tryz.func56.trans (congrArg some (by kernel_rfl))⟩
  f14 := ⟨Tryz.f70.name, by decide, Tryz.func70.trans (congrArg some (by kernel_rfl))⟩
  f15 := Tryz.func71.trans (congrArg some (by kernel_rfl))
  f20 := ⟨Tryz.f82.name, by decide, Tryz.func82.trans (congrArg some (by kernel_rfl))⟩
  f21 := ⟨Tryz.f83.name, by decide, Tryz.func83.trans (congrArg some (by kernel_rfl))⟩
  f22 := ⟨Tryz.f84.name, by decide, Tryz.func84.trans (congrArg some (by kernel_rfl))⟩
  f23 := ⟨Tryz.f85.name, by decide, Tryz.func85.trans (congrArg some (by kernel_rfl))⟩
  f24 := ⟨Tryz.f86.name, by decide, Tryz.func86.trans (congrArg some (by kernel_rfl))⟩
  f25 := ⟨Tryz.f87.name, by decide, Tryz.func87.trans (congrArg some (by kernel_rfl))⟩
  f26 := ⟨Tryz.f88.name, by decide, Tryz.func88.trans (congrArg some (by kernel_rfl))⟩
  f27 := ⟨Tryz.f89.name, by decide, Tryz.func89.trans (congrArg some (by kernel_rfl))⟩
  f28 := Tryz.func90.trans (congrArg some (by kernel_rfl))
  f29 := Tryz.func91.trans (congrArg some (by kernel_rfl))
  f46 := ⟨Tryz.f95.name, by decide, Tryz.func95.trans (congrArg some (by kernel_rfl))⟩
  f47 := Tryz.func96.trans (congrArg some (by kernel_rfl))
  f48 := Tryz.func97.trans (congrArg some (by kernel_rfl))
  f49 := ⟨Tryz.f98.name, by decide, Tryz.func98.trans (congrArg some (by kernel_rfl))⟩
  f50 := ⟨Tryz.f99.name, by decide, Tryz.func99.trans (congrArg some (by kernel_rfl))⟩
  f57 := ⟨Tryz.f105.name, by decide, Tryz.func105.trans (congrArg some (by kernel_rfl))⟩
  t0 := Tryz.underlying0
  a0 := Tryz.isAgg0
  z0 := Tryz.sizeOf0
  v0 := Tryz.zeroValue0
  t3 := Tryz.underlying3
  a3 := Tryz.isAgg3
  z3 := Tryz.sizeOf3
  v3 := Tryz.zeroValue3
  t4 := Tryz.underlying4
  a4 := Tryz.isAgg4
  z4 := Tryz.sizeOf4
  v4 := Tryz.zeroValue4
  t5 := Tryz.underlying5
  a5 := Tryz.isAgg5
  z5 := Tryz.sizeOf5
  v5 := Tryz.zeroValue5
  t9 := Tryz.underlying9
  a9 := Tryz.isAgg9
  z9 := Tryz.sizeOf9
  v9 := Tryz.zeroValue9
  t22 := Tryz.underlying45
  a22 := Tryz.isAgg45
  z22 := Tryz.sizeOf45
  v22 := Tryz.zeroValue45
  t25 := Tryz.underlying73
  a25 := Tryz.isAgg73
  z25 := Tryz.sizeOf73
  v25 := Tryz.zeroValue73
  t39 := Tryz.underlying117
  a39 := Tryz.isAgg117
  z39 := Tryz.sizeOf117
  v39 := Tryz.zeroValue117
  t45 := Tryz.underlying121
  a45 := Tryz.isAgg121
  z45 := Tryz.sizeOf121
  v45 := Tryz.zeroValue121
  t46 := Tryz.underlying122
  a46 := Tryz.isAgg122
  z46 := Tryz.sizeOf122
  v46 := Tryz.zeroValue122
  t50 := Tryz.underlying126
  a50 := Tryz.isAgg126
  z50 := Tryz.sizeOf126
  v50 := Tryz.zeroValue126
  t53 := Tryz.underlying129
  a53 := Tryz.isAgg129
  z53 := Tryz.sizeOf129
  v53 := Tryz.zeroValue129
  t55 := Tryz.underlying131
  a55 := Tryz.isAgg131
  z55 := Tryz.sizeOf131
  v55 := Tryz.zeroValue131
  t66 := Tryz.underlying133
  a66 := Tryz.isAgg133
  z66 := Tryz.sizeOf133
  v66 := Tryz.zeroValue133
  t70 := Tryz.underlying137
  a70 := Tryz.isAgg137
  z70 := Tryz.sizeOf137
  v70 := Tryz.zeroValue137
  t76 := Tryz.underlying144
  a76 := Tryz.isAgg144
  z76 := Tryz.sizeOf144
  v76 := Tryz.zeroValue144
  t77 := Tryz.underlying145
  a77 := Tryz.isAgg145
  z77 := Tryz.sizeOf145
  v77 := Tryz.zeroValue145 }
end Go.Proofs
namespace Go.Proofs.YtfbapbpggicfbaaGreatDoor.Sh
open Go Go.RowKit Go.Sort

set_option linter.unusedVariables false
set_option linter.unusedSimpArgs false
def cmpJ (x y : Int × Int) : Int := if beforeI x.1 x.2 y.1 y.2 = true then -1 else if beforeI y.1 y.2 x.1 x.2 = true then 1 else 0
theorem cmpJ_lt (x y : Int × Int) : cmpJ x y < 0 ↔ beforeI x.1 x.2 y.1 y.2 = true := by
  unfold cmpJ
  by_cases h : beforeI x.1 x.2 y.1 y.2 = true
  · rw [if_pos h]; exact ⟨fun _ => h, fun _ => by omega⟩
  · rw [if_neg h]
    refine ⟨fun e => ?_, fun e => absurd e h⟩
    by_cases h2 : beforeI y.1 y.2 x.1 x.2 = true
    · rw [if_pos h2] at e; omega
    · rw [if_neg h2] at e; omega
theorem ltOf_cmpJ (x y : Int × Int) : ltOf cmpJ x y = decide (cmpJ x y < 0) := rfl
theorem swoJ : SWO (ltOf cmpJ) where
  irrefl x := by
    rw [ltOf_cmpJ, decide_eq_false_iff_not, cmpJ_lt]
    unfold beforeI; simp only [decide_eq_true_eq]; omega
  trans x y z h k := by
    rw [ltOf_cmpJ, decide_eq_true_eq, cmpJ_lt] at *
    exact beforeI_trans h k
  ntrans x y z h k := by
    rw [ltOf_cmpJ, decide_eq_false_iff_not, cmpJ_lt] at *
    unfold beforeI at *
    simp only [decide_eq_true_eq] at *
    omega
theorem beforeG_any (d q d' q' : Int) (w : World) : Calls Tryz.prog 51 #[.agg #[.int .i64 d, .int .i64 q], .agg #[.int .i64 d', .int .i64 q']] w fun er w' => er = .returned (.bool (beforeI d q d' q')) ∧ w' = (w.alloc (.cells #[.int .i64 d, .int .i64 q] 26)).alloc (.cells #[.int .i64 d', .int .i64 q'] 26) := by
  by_cases h : d = d'
  · subst h
    have hb : (d == d) = true := by simp
    by_cases hq : q < q'
    · have HE : Hid (beforeI d q d q' = true) := hid (by unfold beforeI; simp; omega)
      go_enter Tryz.func51, Tryz.ntmps51
      go_wp2
      go_ret
      exact ⟨by rw [HE.out]; rfl, rfl⟩
    · have HE : Hid (beforeI d q d q' = false) := hid (by unfold beforeI; simp; omega)
      go_enter Tryz.func51, Tryz.ntmps51
      go_wp2
      go_ret
      exact ⟨by rw [HE.out]; rfl, rfl⟩
  · have hb : (d == d') = false := beq_eq_false_iff_ne.2 h
    by_cases hq : d < d'
    · have HE : Hid (beforeI d q d' q' = true) := hid (by unfold beforeI; simp; omega)
      go_enter Tryz.func51, Tryz.ntmps51
      go_wp2
      go_ret
      exact ⟨by rw [HE.out]; rfl, rfl⟩
    · have HE : Hid (beforeI d q d' q' = false) := hid (by unfold beforeI; simp; omega)
      go_enter Tryz.func51, Tryz.ntmps51
      go_wp2
      go_ret
      exact ⟨by rw [HE.out]; rfl, rfl⟩
set_option maxHeartbeats 2000000 in
theorem orderI_any (x y : Int × Int) (W : World) : Calls Tryz.prog 33 #[.agg (encI.cells x).toArray, .agg (encI.cells y).toArray] W fun e w' => e = .returned (.int .i64 (cmpJ x y)) ∧ ∃ q os', w' = grow (W.drewN q) os' := by
  obtain ⟨d, q⟩ := x
  obtain ⟨d', q'⟩ := y
  show Calls _ _ #[.agg #[.int .i64 d, .int .i64 q], .agg #[.int .i64 d', .int .i64 q']] _ _
  obtain ⟨b1, hb1⟩ : ∃ b, beforeI d q d' q' = b := ⟨_, rfl⟩
  obtain ⟨b2, hb2⟩ : ∃ b, beforeI d' q' d q = b := ⟨_, rfl⟩
  have HL1 := hid (fun w => by have := beforeG_any d q d' q' w; rw [hb1] at this; exact this)
  have HL2 := hid (fun w => by have := beforeG_any d' q' d q w; rw [hb2] at this; exact this)
  have HB1 := hid hb1
  have HB2 := hid hb2
  clear hb1 hb2
  cases b1 with
  | true =>
    go_enter Tryz.func33, Tryz.ntmps33
    go_wp2_with (go_at_call 51; (refine (HL1.out _).mono ?_); rintro er w2 ⟨rfl, rfl⟩)
    go_ret
    exact ⟨by unfold cmpJ; rw [if_pos HB1.out]; rfl, 0, _, by rw [alloc_eq_grow, alloc_eq_grow, alloc_eq_grow, alloc_eq_grow, grow_grow, grow_grow, grow_grow]; rfl⟩
  | false =>
    cases b2 with
    | true =>
      go_enter Tryz.func33, Tryz.ntmps33
      go_wp2_with (go_at_call 51; (refine (HL1.out _).mono ?_); rintro er w2 ⟨rfl, rfl⟩; clear HL1)
      go_wp2_with (go_at_call 51; (refine (HL2.out _).mono ?_); rintro er w2 ⟨rfl, rfl⟩; clear HL2)
      go_ret
      exact ⟨by unfold cmpJ; rw [if_neg (by rw [HB1.out]; simp), if_pos HB2.out]; rfl, 0, _, by rw [alloc_eq_grow, alloc_eq_grow, alloc_eq_grow, alloc_eq_grow, alloc_eq_grow, alloc_eq_grow, grow_grow, grow_grow, grow_grow, grow_grow, grow_grow]; rfl⟩
    | false =>
      go_enter Tryz.func33, Tryz.ntmps33
      go_wp2_with (go_at_call 51; (refine (HL1.out _).mono ?_); rintro er w2 ⟨rfl, rfl⟩; clear HL1)
      go_wp2_with (go_at_call 51; (refine (HL2.out _).mono ?_); rintro er w2 ⟨rfl, rfl⟩; clear HL2)
      go_ret
      exact ⟨by unfold cmpJ; rw [if_neg (by rw [HB1.out]; simp), if_neg (by rw [HB2.out]; simp)]; rfl, 0, _, by rw [alloc_eq_grow, alloc_eq_grow, alloc_eq_grow, alloc_eq_grow, alloc_eq_grow, alloc_eq_grow, grow_grow, grow_grow, grow_grow, grow_grow, grow_grow]; rfl⟩
theorem flat_evI {α : Type} [Inhabited α] (E : Enc α) (l : List α) : (flatK E.cells E.k l.toArray).toList = ev E l := by
  apply List.ext_getElem?
  intro t
  have hs : (flatK E.cells E.k l.toArray).toList.length = l.length * E.k := by simp
  by_cases ht : t < l.length * E.k
  · have hk := E.pos
    have hj : t / E.k < l.length := (Nat.div_lt_iff_lt_mul hk).2 ht
    have hm : t % E.k < E.k := Nat.mod_lt _ hk
    have e1 : l[t / E.k]? = some (l[t / E.k]'hj) := List.getElem?_eq_getElem hj
    have h2 := ev_get E e1 hm
    rw [show t / E.k * E.k + t % E.k = t by rw [Nat.mul_comm]; exact Nat.div_add_mod t E.k] at h2
    rw [h2, Array.getElem?_toList]
    have h3 := get_flatK E.cells E.k l.toArray t (by simpa using ht)
    have hlt : t < (flatK E.cells E.k l.toArray).size := by simpa using ht
    rw [Array.getElem?_eq_getElem hlt, ← getElem!_pos (flatK E.cells E.k l.toArray) t hlt, h3]
    have h4 : (l.toArray)[t / E.k]! = l[t / E.k]'hj := by rw [getElem!_pos l.toArray _ (by simpa using hj)]; simp
    rw [h4]
    have h5 : t % E.k < (E.cells (l[t / E.k]'hj)).length := by rw [E.len]; exact hm
    rw [List.getElem?_eq_getElem h5, getElem!_pos (E.cells (l[t / E.k]'hj)) (t % E.k) h5]
  · rw [List.getElem?_eq_none (by rw [hs]; omega), List.getElem?_eq_none (by rw [ev_length]; omega)]
theorem holds_flatI {w : World} {g : Nat} {cur F : Array Value} {e : TypeId} (hb : w.heap[g]? = some (.cells cur e (0, 0))) (ht : cur.toList.take F.size = F.toList) : Holds id w g 0 F := by
  intro j hj
  refine ⟨?_, by simp [World.frozen?, hb]⟩
  have h1 : (cur.toList.take F.size)[j]? = F.toList[j]? := by rw [ht]
  rw [List.getElem?_take_of_lt hj] at h1
  simp only [World.cell?, hb, Nat.zero_add]
  simp only [Option.isSome_none, Bool.false_eq_true, if_false]
  rw [← Array.getElem?_toList, h1, Array.getElem?_toList, Array.getElem?_eq_getElem hj, getElem!_pos F j hj]
  rfl
theorem heap_flatI {w : World} {g n : Nat} {os : Array Obj} {cur : Array Value} {e : TypeId} {fr : Nat × Nat} (d : Array Value) (hb : w.heap[g]? = some (.cells cur e fr)) :
    (grow (putRow id (Sort.ahead w n) g 0 d) os).heap[g]? = some (.cells (putCells id 0 d cur) e fr) := by
  have hg : g < w.heap.size := (Array.getElem?_eq_some_iff.1 hb).1
  rw [heap_grow_old _ _ (by simpa using hg)]
  simp [putRow, mapBlock, Sort.ahead, Array.getElem?_modify, hb, onCells]
theorem grown_flatI {w : World} {g n : Nat} {os : Array Obj} (d : Array Value) : w.grownBy (grow (putRow id (Sort.ahead w n) g 0 d) os) (some g) := by
  refine ⟨rfl, rfl, rfl, by simp, fun k hk hne => ?_⟩
  rw [heap_grow_old _ _ (by simpa using hk)]
  have : g ≠ k := fun e => hne (by rw [e])
  simp [putRow, mapBlock, Sort.ahead, Array.getElem?_modify, this]
theorem take_flatI (cur F : Array Value) (h : F.size ≤ cur.size) : (putCells id 0 F cur).toList.take F.size = F.toList := by
  apply List.ext_getElem?
  intro j
  by_cases hj : j < F.size
  · rw [List.getElem?_take_of_lt hj, Array.getElem?_toList, Array.getElem?_toList]
    have hc : j < cur.size := by omega
    simp [putCells, hj, hc]
  · rw [List.getElem?_eq_none (by simp; omega), List.getElem?_eq_none (by simpa using hj)]
theorem sortI_any {w : World} {B : Nat} {A : Option Addr} {c : Nat} {l : List (Int × Int)} (hown : Own (E := encI) w B 26 (.slice A l.length c) l) (hlen : l.length ≤ 1000000000) :
    Calls Tryz.prog 56 #[.slice A l.length c, .func (.func 33) #[] #[]] w fun e w' => e = .returned (.tuple #[]) ∧ ∃ l', l'.Perm l ∧ (l'.Pairwise fun x y => beforeI y.1 y.2 x.1 x.2 = false) ∧
      Own (E := encI) w' B 26 (.slice A l.length c) l' ∧ w.grownBy w' (Value.slice A l.length c).ownBlock := by
  rcases Nat.eq_zero_or_pos l.length with h0 | h0
  · have hn : l = [] := List.eq_nil_of_length_eq_zero h0
    subst hn
    have h := AnyF.slices_SortFunc_none Tryz.sortID A c (.func (.func 33) #[] #[]) w
    exact h.mono fun e w' ⟨he, hw⟩ => ⟨he, [], .refl _, List.Pairwise.nil, by rw [hw]; exact hown, by rw [hw]; exact grown_same _ _⟩
  rcases hown.2 with ⟨_, h1⟩ | ⟨g, cap, cur, hv, hB, hb, hc1, hc2, hc3, hc4⟩
  · omega
  simp only [Value.slice.injEq] at hv
  obtain ⟨rfl, _, rfl⟩ := hv
  have hg : g < w.heap.size := (Array.getElem?_eq_some_iff.1 hb).1
  have eg : ∀ args w, (callFunc 33 args).run Tryz.prog w = .ok (.enter 33 args) w := enters_of Tryz.func33 (by kernel_rfl) rfl
  have aE : ∀ w, (isAgg 26).run Tryz.prog w = .ok true w := fun w => by kernel_rfl
  have zE : ∀ w, (Go.sizeOf 26).run Tryz.prog w = .ok 2 w := fun w => by kernel_rfl
  have hF : (flatK encI.cells 2 l.toArray).toList = ev encI l := flat_evI encI l
  have hFs : (flatK encI.cells 2 l.toArray).size = l.length * 2 := by simp
  have hH : HoldsK encI.cells 2 w g 0 l.toArray := holds_flatI hb (by rw [hF, hFs]; exact hc4)
  have hT : ∀ x y, ltOf cmpJ x y = false → ltOf cmpJ y x = false → x = y := fun x y h1 h2 => by
    rw [ltOf_cmpJ, decide_eq_false_iff_not, cmpJ_lt] at h1 h2
    unfold beforeI at h1 h2
    simp only [decide_eq_true_eq] at h1 h2
    exact Prod.ext (by omega) (by omega)
  have h := AnyQ.slices_SortFunc_total Tryz.sortID 2 aE zE encI.cells encI.len encI.one cmpJ swoJ 33 #[] g 0 c l.toArray w eg (fun m os dk _ x y => orderI_any x y _) hH hg (by simp; omega) hT
  refine h.mono fun e w' ⟨he, n, os, hw⟩ => ⟨he, l.mergeSort fun x y => !ltOf cmpJ y x, List.mergeSort_perm _ _, ?_, ?_, ?_⟩
  · have hp := List.pairwise_mergeSort (le := fun x y => !ltOf cmpJ y x) (fun a b c h1 h2 => by
      simp only [Bool.not_eq_true'] at h1 h2 ⊢
      exact swoJ.ntrans _ _ _ h2 h1) (fun a b => by
      cases h1 : ltOf cmpJ b a with
      | false => rfl
      | true =>
        cases h2 : ltOf cmpJ a b with
        | false => simp
        | true => have := swoJ.trans _ _ _ h1 h2; rw [swoJ.irrefl] at this; cases this) l
    refine hp.imp fun {a b} hab => ?_
    simp only [Bool.not_eq_true'] at hab
    rw [ltOf_cmpJ, decide_eq_false_iff_not, cmpJ_lt, Bool.not_eq_true] at hab
    exact hab
  · subst hw
    have hl' : (l.mergeSort fun x y => !ltOf cmpJ y x).length = l.length := List.length_mergeSort _
    have e1 : (l.toArray.toList.mergeSort fun x y => !ltOf cmpJ y x) = l.mergeSort fun x y => !ltOf cmpJ y x := rfl
    have hF' : (flatK encI.cells 2 (l.mergeSort fun x y => !ltOf cmpJ y x).toArray).toList = ev encI (l.mergeSort fun x y => !ltOf cmpJ y x) := flat_evI encI _
    have hFs' : (flatK encI.cells 2 (l.mergeSort fun x y => !ltOf cmpJ y x).toArray).size = l.length * 2 := by simp
    have hk3 : encI.k = 2 := rfl
    rw [hk3] at hc3
    refine ⟨ev_length _ _, .inr ⟨g, c, _, by rw [hl'], hB, heap_flatI (flatK encI.cells 2 (l.mergeSort fun x y => !ltOf cmpJ y x).toArray) hb, by rw [hl']; exact hc1, hc2, by simp [putCells, hc3, hk3], ?_⟩⟩
    rw [hl', hk3, ← hFs', take_flatI _ _ (by rw [hFs', hc3]; exact Nat.mul_le_mul_right _ hc1), hF']
  · subst hw
    have hgr := grown_flatI (w := w) (g := g) (n := n) (os := os) (flatK encI.cells 2 (l.toArray.toList.mergeSort fun x y => !ltOf cmpJ y x).toArray)
    exact hgr
end Go.Proofs.YtfbapbpggicfbaaGreatDoor.Sh
