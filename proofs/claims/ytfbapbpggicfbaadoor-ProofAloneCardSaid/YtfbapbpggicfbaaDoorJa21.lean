/-
  maps.Keys at a map of IDs: what its iterator gives.
-/
import Derived.Test.YtfbapbpggicfbaaDoorJa20
import Derived.RangeFuncNested
import Derived.RangeFuncBound
import Derived.RangeFuncCalls
import Derived.RangeFuncLeaves
import Derived.Shelf.Abstract
import Derived.Shelf.RegionOpen
import Derived.WalkKit
import Derived.OwnWalkIn
import Derived.TacticsInMore
import Derived.LoopNIn
import Derived.LoopIn
import Derived.Sort.MapsRangeIn
import Derived.Maps.AppendAt
import Derived.Test.YtfbapbpggicfbaaDoorJa12
set_option linter.unusedVariables false
set_option linter.unusedSimpArgs false
namespace Go.Proofs.YtfbapbpggicfbaaDoor.Sh
open Go Go.RowKit Go.Maps

set_option linter.unusedVariables false
set_option linter.unusedSimpArgs false

/-- What has come: each once; just those that are no longer to come. -/
def ColI (D0 : DataW Unit) (left : Lit → Bool) (ss : List (Int × Int)) : Prop := ss.Nodup ∧ (∀ i ∈ ss, okI i) ∧ ∀ i, okI i → (i ∈ ss ↔ (has D0 (ki i) = true ∧ left (ki i) = false))
theorem ColI.start (D0 : DataW Unit) : ColI D0 (has D0) [] := ⟨List.nodup_nil, by simp, fun i _ => by cases has D0 (ki i) <;> simp⟩
theorem same_ki {x y : Int × Int} (hx : okI x) (hy : okI y) : (ki y).sameKey (ki x) = true ↔ y = x := by
  unfold ki Lit.sameKey
  simp only [beq_iff_eq, decide_eq_true_eq]
  constructor
  · intro h; exact ki_inj hy hx (by unfold ki; rw [h])
  · intro h; rw [h]
theorem ColI.step {D0 : DataW Unit} {left : Lit → Bool} {ss : List (Int × Int)} (h : ColI D0 left ss) {x : Int × Int} (hx : okI x) {y : DataW Unit} (hlk : left (ki x) = true) (hat : ∀ zd, D0.atKey (ki x) zd = y) : x ∉ ss ∧ ColI D0 (fun z => left z && !z.sameKey (ki x)) (ss ++ [x]) := by
  have hhas : has D0 (ki x) = true := has_true_of_atKey hat
  have hnew : x ∉ ss := fun hm => by have := ((h.2.2 x hx).1 hm).2; rw [hlk] at this; cases this
  refine ⟨hnew, List.nodup_append.2 ⟨h.1, by simp, fun a ha b hb => by simp at hb; subst hb; exact fun e => hnew (e ▸ ha)⟩, fun i hi => ?_, fun i hi => ?_⟩
  · rcases List.mem_append.1 hi with h1 | h1
    · exact h.2.1 i h1
    · rw [List.mem_singleton] at h1; rw [h1]; exact hx
  · rw [List.mem_append, List.mem_singleton, h.2.2 i hi]
    by_cases hy : i = x
    · subst hy
      have := (same_ki hx hx).2 rfl
      simp [hhas, this]
    · have : (ki i).sameKey (ki x) = false := Bool.eq_false_iff.2 fun e => hy ((same_ki hx hi).1 e)
      simp [hy, this]
theorem nodup_le {α : Type} [DecidableEq α] : ∀ {a b : List α}, a.Nodup → (∀ x ∈ a, x ∈ b) → a.length ≤ b.length
  | [], _, _, _ => Nat.zero_le _
  | x :: t, b, h, hs => by
    obtain ⟨h1, h2⟩ := List.nodup_cons.1 h
    have hx := hs x (by simp)
    have := nodup_le (b := b.erase x) h2 (fun y hy => (List.mem_erase_of_ne (fun e => h1 (by rw [← e]; exact hy))).2 (hs y (by simp [hy])))
    rw [List.length_erase_of_mem hx] at this
    have := List.length_pos_of_mem hx
    simp only [List.length_cons]
    omega
set_option maxRecDepth 100000 in
set_option maxHeartbeats 2000000 in
theorem keysI_in (F : Fence) (n : Nat) (h10 : F.fn 66) (hro : F.round = none) (hn : 1 ≤ n) (l Bm b nn : Nat) (L : List (Int × Int)) (D0 : DataW Unit) (hD1 : ∀ i, okI i → Maps.has D0 (ki i) = decide (i ∈ L)) (hD2 : ∀ z, Maps.has D0 z = true → ∃ i ∈ L, okI i ∧ z = ki i)
    (J Jx : List (Int × Int) → World → Prop)
    (hY : ∀ pre x W, J pre W → pre.length < L.length → YieldAt F (n - 1) Tryd.prog l #[iV x] W fun e W' =>
      (e = .returned (.bool true) ∧ J (pre ++ [x]) W' ∧ KeepsWalks W W') ∨ (e = .returned (.bool false) ∧ Jx (pre ++ [x]) W'))
    (W : World) (hJ : AbidesFrom W.heap.size J) (hm : W.cell? ⟨Bm, 0, none⟩ = some (.map (some b))) (hown : W.ownsMap Tryd.prog 26 unitElem b nn D0) (h0 : J [] W) :
    CallsIn F n Tryd.prog 66 #[.func (.yield l) #[] #[], .pointer (some ⟨Bm, 0, none⟩)] W fun e W' => (∃ v, e = .returned v) ∧
      ((∃ ss : List (Int × Int), (ss.Nodup ∧ (∀ i ∈ ss, okI i) ∧ ∀ i, okI i → (i ∈ ss ↔ i ∈ L)) ∧ J ss W') ∨ (∃ pre : List (Int × Int), True ∧ Jx pre W')) := by
  refine callsIn_of_wp Tryd.func66 rfl h10 ?_ hro
  simp only [Tryd.ntmps66, List.size_toArray, List.length_cons, List.length_nil, Nat.reduceAdd, Nat.reduceSub, Array.replicate_succ, Array.replicate_zero, List.push_toArray, List.append_toArray, List.nil_append, List.cons_append]
  gi_wp2_with (first
    | (gi_at_range; refine wpListIn_range_own _ rfl _ 59 rfl 26 68 lawI Tryd.underlying59 _ b nn _ rfl hown ?_; intro w0 hrg0 hg0 hs0)
    | gi_in)
  go_frame
  gi_loopw [3] (fun _ wr => ∃ (left : Lit → Bool) (cnt : Nat) (ss : List (Int × Int)), wr.ranges Tryd.prog 26 unitElem b W.heap.size nn D0 left cnt ∧ (∀ i ∈ ss, i ∈ L) ∧ ColI D0 left ss ∧ J ss wr)
    (fun _ wr => wr.rangeLeft b W.heap.size)
  case atStart =>
    exact ⟨_, _, [], hrg0, by simp, ColI.start D0, hJ [] W w0 none h0 hg0 (fun r e => by cases e)⟩
  case round =>
    obtain ⟨left, cnt, ss, hrg, hcs, hC, hJs⟩ := hrel
    gi_wp2_with (first
      | (gi_at_next; refine wpListIn_next_ranges _ rfl _ rfl 26 lawI unitElem id id (fun key kl hk => ⟨key, rfl⟩) (fun v _ _ => ⟨v, rfl⟩) b W.heap.size nn _ _ _ rfl hrg ?_ ?_)
      | gi_in)
    · -- nothing is left
      intro hc0 hl0
      gi_wp2
      go_end0
      exact ⟨⟨_, rfl⟩, .inl ⟨ss, ⟨hC.1, hC.2.1, fun i hi => by rw [hC.2.2 i hi, hl0, hD1 i hi]; simp⟩, hJs⟩⟩
    · -- a key
      intro x c kl yd yp w2 cnt2 hkey hlk hv hat hrg2 hlt hg2 hs2 hen
      obtain ⟨i, hiL, hi, rfl⟩ := hD2 kl (has_true_of_atKey hat)
      obtain rfl : x = iV i := lawI.inj hkey (keyI hi)
      obtain ⟨hnew, hC2⟩ := hC.step hi hlk hat
      have hlen : ss.length < L.length := by
        have hsub : (i :: ss).length ≤ L.length := by
          have hnd : (i :: ss).Nodup := List.nodup_cons.2 ⟨hnew, hC.1⟩
          exact nodup_le hnd (fun y hy => by
            rcases List.mem_cons.1 hy with e | e
            · rw [e]; exact hiL
            · exact hcs y e)
        simp only [List.length_cons] at hsub
        omega
      have hJ2 : J ss (w2.alloc (.cells #[.int .i64 i.1, .int .i64 i.2] 26)) := hJ ss w2 _ none (hJ ss wr w2 (some W.heap.size) hJs hg2 (fun r e => by cases e; exact ⟨Nat.le_refl _, hrg.iter_walk⟩)) (World.grownBy_alloc w2 _ none) (fun r e => by cases e)
      have hrg2' := hrg2.of_walks (KeepsWalks.alloc w2 (.cells #[.int .i64 i.1, .int .i64 i.2] 26))
      obtain ⟨fn, tmps, assign, body, hy, hR⟩ := hY ss i _ hJ2 hlen
      clear hs2
      unfold iV at hen hy
      obtain ⟨d, q⟩ := i
      simp only [id] at hen hy
      simp only at hJ2 hrg2' hR
      gi_wp2
      refine hR.mono ?_
      rintro e W3 (⟨rfl, hJ3, hk3⟩ | ⟨rfl, hJx3⟩)
      · gi_wp2
        have hrg3 := hrg2'.of_walks hk3
        go_roundw
        case rel => exact ⟨_, cnt2, ss ++ [(d, q)], hrg3, fun y hy => by
          rcases List.mem_append.1 hy with e | e
          · exact hcs y e
          · rw [List.mem_singleton] at e; rw [e]; exact hiL, hC2, hJ3⟩
        case measure => rw [hrg3.left_eq, hrg.left_eq]; exact hlt
      · gi_wp2
        refine bodyPost_ret (results_none rfl _ _ _) rfl ?_
        exact ⟨⟨_, rfl⟩, .inr ⟨ss ++ [(d, q)], trivial, hJx3⟩⟩
theorem keysI_stops (F : Fence) (n : Nat) (h10 : F.fn 66) (hro : F.round = none) (hn : 1 ≤ n) (Bm b : Nat) (L : List (Int × Int)) (w : World) (hBm : Bm < w.heap.size)
    (hm : w.cell? ⟨Bm, 0, none⟩ = some (.map (some b))) (h : IMap w b L) :
    SeqStopsK F n Tryd.prog 66 #[.pointer (some ⟨Bm, 0, none⟩)] (fun x : Int × Int => #[iV x]) KeepsWalks (fun ss => ss.Nodup ∧ (∀ i ∈ ss, okI i) ∧ ∀ i, okI i → (i ∈ ss ↔ i ∈ L)) (fun _ => True) L.length w := fun l J Jx W hW hJ _ hY h0 => by
  obtain ⟨D, h1, h2, h3⟩ := h.at' (hW.block b h.lt)
  exact keysI_in F n h10 hro hn l Bm b L.length L D h2 h3 J Jx hY W hJ ((hW.cell (p := ⟨Bm, 0, none⟩) hBm).trans hm) h1 h0
set_option maxHeartbeats 1000000 in
theorem keys_any (F : Fence) (n : Nat) (h7 : F.fn 40) (hro : F.round = none) (mb : Option Nat) (w : World) :
    CallsIn F n Tryd.prog 40 #[.map mb] w fun e w' => e = .returned (.func (.func 66) #[] #[.pointer (some ⟨w.heap.size, 0, none⟩)]) ∧ w' = w.alloc (.cells #[.map mb] 59) := by
  refine callsIn_of_wp Tryd.func40 rfl h7 ?_ hro
  simp only [Tryd.ntmps40, List.size_toArray, List.length_cons, List.length_nil, Nat.reduceAdd, Nat.reduceSub, Array.replicate_succ, Array.replicate_zero, List.push_toArray, List.append_toArray, List.nil_append, List.cons_append]
  gi_wp2
  go_ret
  exact ⟨rfl, rfl⟩
end Go.Proofs.YtfbapbpggicfbaaDoor.Sh
/-
  slices.AppendSeq at IDs, by contract.
-/
namespace Go.Proofs.YtfbapbpggicfbaaDoor.Sh
open Go Go.RowKit

set_option linter.unusedVariables false
set_option linter.unusedSimpArgs false
attribute [local go_sem] Oper.semAt_some

theorem reads_two (w : World) (a b : Value) (t : TypeId) (j : Nat) (u : Value) (h : [a, b][j]? = some u) : (w.alloc (.cells #[a, b] t)).cell? ((⟨w.heap.size, 0, none⟩ : Addr).add j) = some u := by
  have hb := heap_alloc_new w (.cells #[a, b] t)
  match j, h with
  | 0, h => simp at h; subst h; exact (cell_of_row _ w.heap.size 0 _ _ (0, 0) hb).trans rfl
  | 1, h => simp at h; subst h; exact (cell_of_row _ w.heap.size 1 _ _ (0, 0) hb).trans rfl
theorem row_own {β : Type} (B : Nat) (o : Obj) (ho : o.isCells = true) : Go.Own (fun (_ : β) W => W.heap[B]? = some o) := fun s X Y row hs hg hrow => by
  have hlt : B < X.heap.size := (Array.getElem?_eq_some_iff.1 hs).1
  exact (hg.block B hlt (fun e => by
    obtain ⟨o', ho', hc⟩ := hrow B e.symm
    rw [hs] at ho'
    injection ho' with ho'
    rw [← ho', ho] at hc
    cases hc)).trans hs
set_option maxRecDepth 100000 in
set_option maxHeartbeats 4000000 in
theorem appendSeqI_in (F : Fence) (n : Nat) (h11 : F.fn 90) (hro : F.round = none) (hn : 2 ≤ n) (g : Nat) (lb : Array Value) (hFg : F.fn g) (eg : ∀ args w, (callFunc g args).run Tryd.prog w = .ok (.enter g args) w)
    (S : List (Int × Int) → Prop) (N : Nat) (hN : N ≤ 1000000) (w : World) (hseq : SeqStopsK F (n - 1) Tryd.prog g lb (fun x : Int × Int => #[iV x]) KeepsWalks S (fun _ => True) N w) :
    CallsIn F n Tryd.prog 90 #[.slice none 0 0, .func (.func g) #[] lb] w fun e w' => ∃ (A : Option Addr) (c : Nat) (ss : List (Int × Int)), e = .returned (.slice A ss.length c) ∧ S ss ∧ Own (E := encI) w' w.heap.size 26 (.slice A ss.length c) ss ∧ Below w.heap.size w w' := by
  have h1 : 1 ≤ n := by omega
  obtain ⟨i0, hi, hz0, hz1, hz2⟩ := info_parts (P := Tryd.prog) (e := 26) (z := .agg #[.int .i64 0, .int .i64 0]) (size := 2) (bytes := 16) (by kernel_rfl)
  refine callsIn_of_wp_marks Tryd.func90 rfl h11 ?_ hro
  simp only [Tryd.ntmps90, List.size_toArray, List.length_cons, List.length_nil, Nat.reduceAdd, Nat.reduceSub, Array.replicate_succ, Array.replicate_zero, List.push_toArray, List.append_toArray, List.nil_append, List.cons_append]
  gi_wp2
  have bS := Boxed.new w 35 (.slice none 0 0)
  have hB0 : Below w.heap.size w (w.alloc (.cells #[.slice none 0 0] 35)) := (Below.refl _ w).alloc (Nat.le_refl _) _
  have hsz : (w.alloc (.cells #[.slice none 0 0] 35)).heap.size = w.heap.size + 1 := by simp
  obtain ⟨W0, hW0⟩ : ∃ W0, w.alloc (.cells #[.slice none 0 0] 35) = W0 := ⟨_, rfl⟩
  rw [hW0] at bS hB0 hsz ⊢
  clear hW0
  refine wpIn_rangeFunc_ownH hro h1 (gf := g) (lb := lb) rfl hFg eg hseq (fun h k => walksK_t h k) walksK_b hB0 (fun _ => rfl)
    (fun pre W => (∃ v, Boxed W w.heap.size 35 v ∧ W.ownsRow w.heap.size 26 2 v pre.length (ev encI pre) ∧ True) ∧ Below w.heap.size w W)
    (fun _ _ _ => False)
    (OwnFrom.and (Own.from (holdsRow_own _ _ _ _ _ _ _ _) _) (ownFrom_below (Nat.le_refl _) (by omega)))
    (fun _ _ _ _ _ hs _ _ => hs)
    ⟨⟨_, bS, World.ownsRow_nil _ _ _ _, trivial⟩, hB0⟩
    (fun x a' W => ∃ Bx, w.heap.size < Bx ∧ W.heap[Bx]? = some (.cells #[.int .i64 x.1, .int .i64 x.2] 26 (0, 0)) ∧ a' = { tmps := #[.slice none 0 0, .func (.func g) #[] lb, .pointer (some ⟨w.heap.size, 0, none⟩), undef, .slice none 0 0, .pointer (some ⟨Bx, 0, none⟩), .func (.func g) #[] lb, iV x, undef, undef, undef, undef, undef], defers := [] })
    (fun x a' _ X Y row hs hg hr => by obtain ⟨Bx, h1, h2, h3⟩ := hs; exact ⟨Bx, h1, row_own (β := Unit) Bx _ rfl () X Y row h2 hg (fun r e => (hr r e).2), h3⟩)
    ?assign ?body ?done ?stop
  case assign =>
    rintro l pre ⟨d, q⟩ W K ⟨⟨v, hv, hrow, _⟩, hB⟩ hK
    unfold iV at hK ⊢
    gi_wp2
    exact hK _ _ ((KeepsOthers.alloc _ _).from _) (KeepsWalks.alloc _ _) ⟨⟨v, hv.alloc _, hrow.alloc _, trivial⟩, hB.alloc hB.size _⟩ ⟨W.heap.size, hv.lt, heap_alloc_new W _, rfl⟩
  case body =>
    rintro l pre ⟨d, q⟩ a' W hl ⟨r, hr⟩ ⟨⟨v, hv, hrow, _⟩, hB⟩ ⟨Bx, hBx, bX, rfl⟩ hlt
    have cB := hv.cell
    have x0 : W.cell? ⟨Bx, 0, none⟩ = some (.int .i64 d) := (cell_of_row W Bx 0 _ _ (0, 0) bX).trans rfl
    have x1 : W.cell? ⟨Bx, 1, none⟩ = some (.int .i64 q) := (cell_of_row W Bx 1 _ _ (0, 0) bX).trans rfl
    have h1' : 1 ≤ n - 1 := by omega
    unfold iV
    gi_wp2_with (first
      | (gi_at_builtin; refine wpListIn_append_own _ rfl _ _ 35 rfl w.heap.size 26 i0 (.agg #[.int .i64 0, .int .i64 0]) 2 16 Tryd.underlying35 hi hz0 hz1 hz2 rfl (by decide) _ _ _ rfl (hrow.alloc _) ⟨W.heap.size, 0, none⟩ 1 1 [.int .i64 d, .int .i64 q] rfl rfl (reads_two W _ _ _) (by intro u hu; simp at hu; rcases hu with rfl | rfl <;> rfl) (by unfold maxLen; omega) (by omega) (by have := hB.size; simp; omega) ?_; intro v' w1 hown' hgrow _
         obtain ⟨g', cap', rfl⟩ := ownsRow_succ hown'
         obtain ⟨hv1, hv2, hr2, hk2, hb2⟩ := hv.appended (by decide) hrow hB.size (Nat.le_refl _) hown' hgrow
         have hc1 := hv1.cell
         have hf1 := hv1.frozen)
      | gi_in)
    refine ⟨hk2.from _, hk2.walks, ⟨⟨_, hv2, ?_⟩, hB.trans hb2⟩⟩
    rw [ev_append, List.length_append, List.length_singleton]
    simpa [ev, encI] using hr2
  case done =>
    rintro D ys W hD hS ⟨⟨v, hv, hrow, _⟩, hB⟩ hK
    have cS := hv.cell
    gi_wp2
    refine ⟨by simp, .inl ⟨_, _, rfl, run_takeDeferred hK, ?_⟩⟩
    obtain ⟨A, c, rfl, _, _, _⟩ := Own.els (E := encI) hrow
    exact ⟨_, results_tmp rfl _ _ _, A, c, ys, rfl, hS, ownsRow_putObj hrow _ hK rfl, hB.trans (belowK_b (w := w) (Nat.le_refl _) W D _ _ (by omega) hK rfl rfl)⟩
  case stop =>
    rintro D c pre W _ _ h _
    exact h.elim
end Go.Proofs.YtfbapbpggicfbaaDoor.Sh
