/-
  A row of elements of some cells as the library's sorting has it.
-/
import Derived.Test.YtphajbdkaikmpaaJa4
import Derived.Sort.EveryDepth
import Derived.Sort.OwnSorted
import Derived.Shelf.SlSortCmp.NoneTotal
import Derived.Test.YtphajbdkaikmpaaJa7
import Derived.Shelf.SlSortCmp.InsertionK
import Derived.Shelf.Sort.AssemblysIn
import Derived.Ground.SlsfProg
import Derived.Test.YtphajbdkaikmpaaJa9
set_option linter.unusedVariables false
set_option linter.unusedSimpArgs false
namespace Go.Proofs.Ytphajbdkaikmpaa.Sh
open Go Go.RowKit Go.Sort

set_option linter.unusedVariables false
set_option linter.unusedSimpArgs false
theorem flat_evG {α : Type} [Inhabited α] (E : Enc α) (l : List α) : (flatK E.cells E.k l.toArray).toList = ev E l := by
  apply List.ext_getElem?
  intro t
  have hs : (flatK E.cells E.k l.toArray).toList.length = l.length * E.k := by simp
  by_cases ht : t < l.length * E.k
  · have hk := E.pos
    have hj : t / E.k < l.length := (Nat.div_lt_iff_lt_mul hk).2 ht
    have hm : t % E.k < E.k := Nat.mod_lt _ hk
    have e1 : l[t / E.k]? = some (l[t / E.k]'hj) := List.getElem?_eq_getElem hj
    have h2 := ev_get E e1 hm
    rw [show t / E.k * E.k + t % E.k = t by rw [Nat.mul_comm]; exact Nat.div_add_mod t E.k] at h2
    rw [h2, Array.getElem?_toList]
    have h3 := get_flatK E.cells E.k l.toArray t (by simpa using ht)
    have hlt : t < (flatK E.cells E.k l.toArray).size := by simpa using ht
    rw [Array.getElem?_eq_getElem hlt, ← getElem!_pos (flatK E.cells E.k l.toArray) t hlt, h3]
    have h4 : (l.toArray)[t / E.k]! = l[t / E.k]'hj := by rw [getElem!_pos l.toArray _ (by simpa using hj)]; simp
    rw [h4]
    have h5 : t % E.k < (E.cells (l[t / E.k]'hj)).length := by rw [E.len]; exact hm
    rw [List.getElem?_eq_getElem h5, getElem!_pos (E.cells (l[t / E.k]'hj)) (t % E.k) h5]
  · rw [List.getElem?_eq_none (by rw [hs]; omega), List.getElem?_eq_none (by rw [ev_length]; omega)]
theorem holds_flatG {w : World} {g : Nat} {cur F : Array Value} {e : TypeId} (hb : w.heap[g]? = some (.cells cur e (0, 0))) (ht : cur.toList.take F.size = F.toList) : Holds id w g 0 F := by
  intro j hj
  refine ⟨?_, by simp [World.frozen?, hb]⟩
  have h1 : (cur.toList.take F.size)[j]? = F.toList[j]? := by rw [ht]
  rw [List.getElem?_take_of_lt hj] at h1
  simp only [World.cell?, hb, Nat.zero_add]
  simp only [Option.isSome_none, Bool.false_eq_true, if_false]
  rw [← Array.getElem?_toList, h1, Array.getElem?_toList, Array.getElem?_eq_getElem hj, getElem!_pos F j hj]
  rfl
theorem heap_flatG {w : World} {g n : Nat} {os : Array Obj} {cur : Array Value} {e : TypeId} {fr : Nat × Nat} (d : Array Value) (hb : w.heap[g]? = some (.cells cur e fr)) :
    (grow (putRow id (Sort.ahead w n) g 0 d) os).heap[g]? = some (.cells (putCells id 0 d cur) e fr) := by
  have hg : g < w.heap.size := (Array.getElem?_eq_some_iff.1 hb).1
  rw [heap_grow_old _ _ (by simpa using hg)]
  simp [putRow, mapBlock, Sort.ahead, Array.getElem?_modify, hb, onCells]
theorem grown_flatG {w : World} {g n : Nat} {os : Array Obj} (d : Array Value) : w.grownBy (grow (putRow id (Sort.ahead w n) g 0 d) os) (some g) := by
  refine ⟨rfl, rfl, rfl, by simp, fun k hk hne => ?_⟩
  rw [heap_grow_old _ _ (by simpa using hk)]
  have : g ≠ k := fun e => hne (by rw [e])
  simp [putRow, mapBlock, Sort.ahead, Array.getElem?_modify, this]
theorem take_flatG (cur F : Array Value) (h : F.size ≤ cur.size) : (putCells id 0 F cur).toList.take F.size = F.toList := by
  apply List.ext_getElem?
  intro j
  by_cases hj : j < F.size
  · rw [List.getElem?_take_of_lt hj, Array.getElem?_toList, Array.getElem?_toList]
    have hc : j < cur.size := by omega
    simp [putCells, hj, hc]
  · rw [List.getElem?_eq_none (by simp; omega), List.getElem?_eq_none (by simpa using hj)]
end Go.Proofs.Ytphajbdkaikmpaa.Sh
/-
  slices.SortFunc at timers, by the library's contract; slices.Clone at timers.
-/
namespace Go.Proofs
open Go.Shelf
def Try.sortTm_ren : Go.Shelf.Ren := ⟨fun | 6 => 25 | 15 => 32 | 14 => 31 | 28 => 43 | 29 => 44 | 20 => 35 | 21 => 36 | 22 => 37 | 23 => 38 | 24 => 39 | 25 => 40 | 26 => 41 | 27 => 42 | 46 => 46 | 47 => 47 | 48 => 48 | 49 => 49 | 50 => 50 | 57 => 51 | n => n, fun | 22 => 44 | 24 => 37 | 25 => 63 | 3 => 3 | 39 => 72 | 0 => 0 | 53 => 86 | 55 => 88 | 4 => 4 | 46 => 80 | 45 => 79 | 50 => 57 | 5 => 5 | 9 => 9 | 66 => 90 | 70 => 94 | 76 => 96 | 77 => 97 | n => n, fun | n => n⟩
theorem Try.sortTm : Go.Proofs.SlLaysF0.n6 Try.prog Try.sortTm_ren := {
  mixed := by kernel_rfl
  f6 := ⟨Try.f25.name, by decide, Try.func25.trans (congrArg some (by kernel_rfl))⟩
  f14 := ⟨Try.f31.name, by decide, Try.func31.trans (congrArg some (by kernel_rfl))⟩
  f15 := Try.func32.trans (congrArg some (by kernel_rfl))
  f20 := ⟨Try.f35.name, by decide, Try.func35.trans (congrArg some (by kernel_rfl))⟩
  f21 := ⟨Try.f36.name, by decide, Try.func36.trans (congrArg some (by kernel_rfl))⟩
  f22 := ⟨Try.f37.name, by decide, Try.func37.trans (congrArg some (by kernel_rfl))⟩
  f23 := ⟨Try.f38.name, by decide, Try.func38.trans (congrArg some (by kernel_rfl))⟩
  f24 := ⟨Try.f39.name, by decide, Try.func39.trans (congrArg some (by kernel_rfl))⟩
  f25 := ⟨Try.f40.name, by decide, Try.func40.trans (congrArg some (by kernel_rfl))⟩
  f26 := ⟨Try.f41.name, by decide, Try.func41.trans (congrArg some (by kernel_rfl))⟩
  f27 := ⟨Try.f42.name, by decide, Try.func42.trans (congrArg some (by kernel_rfl))⟩
  f28 := Try.func43.trans (congrArg some (by kernel_rfl))
  f29 := Try.func44.trans (congrArg some (by kernel_rfl))
  f46 := ⟨Try.f46.name, by decide, Try.func46.trans (congrArg some (by kernel_rfl))⟩
  f47 := Try.func47.trans (congrArg some (by kernel_rfl))
  f48 := Try.func48.trans (congrArg some (by kernel_rfl))
  f49 := ⟨Try.f49.name, by decide, Try.func49.trans (congrArg some (by kernel_rfl))⟩
  f50 := ⟨Try.f50.name, by decide, Try.func50.trans (congrArg some (by kernel_rfl))⟩
  f57 := ⟨Try.f51.name, by decide, Try.func51.trans (congrArg some (by kernel_rfl))⟩
  t0 := Try.underlying0
  a0 := Try.isAgg0
  z0 := Try.sizeOf0
  v0 := Try.zeroValue0
  t3 := Try.underlying3
  a3 := Try.isAgg3
  z3 := Try.sizeOf3
  v3 := Try.zeroValue3
  t4 := Try.underlying4
  a4 := Try.isAgg4
  z4 := Try.sizeOf4
  v4 := Try.zeroValue4
  t5 := Try.underlying5
  a5 := Try.isAgg5
  z5 := Try.sizeOf5
  v5 := Try.zeroValue5
  t9 := Try.underlying9
  a9 := Try.isAgg9
  z9 := Try.sizeOf9
  v9 := Try.zeroValue9
  t22 := Try.underlying44
  a22 := Try.isAgg44
  z22 := Try.sizeOf44
  v22 := Try.zeroValue44
  t25 := Try.underlying63
  a25 := Try.isAgg63
  z25 := Try.sizeOf63
  v25 := Try.zeroValue63
  t39 := Try.underlying72
  a39 := Try.isAgg72
  z39 := Try.sizeOf72
  v39 := Try.zeroValue72
  t45 := Try.underlying79
  a45 := Try.isAgg79
  z45 := Try.sizeOf79
  v45 := Try.zeroValue79
  t46 := Try.underlying80
  a46 := Try.isAgg80
  z46 := Try.sizeOf80
  v46 := Try.zeroValue80
  t50 := Try.underlying57
  a50 := Try.isAgg57
  z50 := Try.sizeOf57
  v50 := Try.zeroValue57
  t53 := Try.underlying86
  a53 := Try.isAgg86
  z53 := Try.sizeOf86
  v53 := Try.zeroValue86
  t55 := Try.underlying88
  a55 := Try.isAgg88
  z55 := Try.sizeOf88
  v55 := Try.zeroValue88
  t66 := Try.underlying90
  a66 := Try.isAgg90
  z66 := Try.sizeOf90
  v66 := Try.zeroValue90
  t70 := Try.underlying94
  a70 := Try.isAgg94
  z70 := Try.sizeOf94
  v70 := Try.zeroValue94
  t76 := Try.underlying96
  a76 := Try.isAgg96
  z76 := Try.sizeOf96
  v76 := Try.zeroValue96
  t77 := Try.underlying97
  a77 := Try.isAgg97
  z77 := Try.sizeOf97
  v77 := Try.zeroValue97 }
end Go.Proofs
namespace Go.Proofs.Ytphajbdkaikmpaa.Sh
open Go Go.RowKit Go.Sort

set_option linter.unusedVariables false
set_option linter.unusedSimpArgs false
theorem ltOf_cmpT (x y : Tm) : ltOf cmpT x y = decide (ltT x y) := cmpT_lt x y
theorem swoT : SWO (ltOf cmpT) where
  irrefl x := by
    rw [ltOf_cmpT, decide_eq_false_iff_not]
    exact ltT_irrefl x
  trans x y z h k := by
    rw [ltOf_cmpT, decide_eq_true_eq] at *
    exact h.trans k
  ntrans x y z h k := by
    rw [ltOf_cmpT, decide_eq_false_iff_not] at *
    exact not_ltT ((leT_of_not k).trans (leT_of_not h))
theorem sortT_any {w : World} {B : Nat} {A : Option Addr} {c : Nat} {l : List Tm} (hown : Own (E := encT) w B 37 (.slice A l.length c) l) (hlen : l.length ≤ 1000000000) :
    Calls Try.prog 25 #[.slice A l.length c, .func (.func 26) #[] #[]] w fun e w' => e = .returned (.tuple #[]) ∧ ∃ l', l'.Perm l ∧ l'.Pairwise leT ∧
      Own (E := encT) w' B 37 (.slice A l.length c) l' ∧ w.grownBy w' (Value.slice A l.length c).ownBlock := by
  rcases Nat.eq_zero_or_pos l.length with h0 | h0
  · have hn : l = [] := List.eq_nil_of_length_eq_zero h0
    subst hn
    have h := AnyF.slices_SortFunc_none Try.sortTm A c (.func (.func 26) #[] #[]) w
    exact h.mono fun e w' ⟨he, hw⟩ => ⟨he, [], .refl _, List.Pairwise.nil, by rw [hw]; exact hown, by rw [hw]; exact World.grownBy.refl _ _⟩
  rcases hown.2 with ⟨_, h1⟩ | ⟨g, cap, cur, hv, hB, hb, hc1, hc2, hc3, hc4⟩
  · omega
  simp only [Value.slice.injEq] at hv
  obtain ⟨rfl, _, rfl⟩ := hv
  have hg : g < w.heap.size := (Array.getElem?_eq_some_iff.1 hb).1
  have eg : ∀ args w, (callFunc 26 args).run Try.prog w = .ok (.enter 26 args) w := enters_of Try.func26 (by kernel_rfl) rfl
  have aE : ∀ w, (isAgg 37).run Try.prog w = .ok true w := fun w => by kernel_rfl
  have zE : ∀ w, (Go.sizeOf 37).run Try.prog w = .ok 2 w := fun w => by kernel_rfl
  have hF : (flatK encT.cells 2 l.toArray).toList = ev encT l := flat_evG encT l
  have hFs : (flatK encT.cells 2 l.toArray).size = l.length * 2 := by simp
  have hH : HoldsK encT.cells 2 w g 0 l.toArray := holds_flatG hb (by rw [hF, hFs]; exact hc4)
  have hT : ∀ x y, ltOf cmpT x y = false → ltOf cmpT y x = false → x = y := fun x y h1 h2 => by
    rw [ltOf_cmpT, decide_eq_false_iff_not] at h1 h2
    exact (leT_of_not h2).antisymm (leT_of_not h1)
  have h := AnyQ.slices_SortFunc_total Try.sortTm 2 aE zE encT.cells encT.len encT.one cmpT swoT 26 #[] g 0 c l.toArray w eg (fun m os dk _ x y => orderT_any x y _) hH hg (by simp; omega) hT
  refine h.mono fun e w' ⟨he, n, os, hw⟩ => ⟨he, l.mergeSort fun x y => !ltOf cmpT y x, List.mergeSort_perm _ _, ?_, ?_, ?_⟩
  · have hp := List.pairwise_mergeSort (le := fun x y => !ltOf cmpT y x) (fun a b c h1 h2 => by
      simp only [Bool.not_eq_true'] at h1 h2 ⊢
      exact swoT.ntrans _ _ _ h2 h1) (fun a b => by
      cases h1 : ltOf cmpT b a with
      | false => rfl
      | true =>
        cases h2 : ltOf cmpT a b with
        | false => simp
        | true => have := swoT.trans _ _ _ h1 h2; rw [swoT.irrefl] at this; cases this) l
    refine hp.imp fun {a b} hab => ?_
    simp only [Bool.not_eq_true'] at hab
    rw [ltOf_cmpT, decide_eq_false_iff_not] at hab
    exact leT_of_not hab
  · subst hw
    have hl' : (l.mergeSort fun x y => !ltOf cmpT y x).length = l.length := List.length_mergeSort _
    have e1 : (l.toArray.toList.mergeSort fun x y => !ltOf cmpT y x) = l.mergeSort fun x y => !ltOf cmpT y x := rfl
    have hF' : (flatK encT.cells 2 (l.mergeSort fun x y => !ltOf cmpT y x).toArray).toList = ev encT (l.mergeSort fun x y => !ltOf cmpT y x) := flat_evG encT _
    have hFs' : (flatK encT.cells 2 (l.mergeSort fun x y => !ltOf cmpT y x).toArray).size = l.length * 2 := by simp
    have hk3 : encT.k = 2 := rfl
    rw [hk3] at hc3
    refine ⟨ev_length _ _, .inr ⟨g, c, _, by rw [hl'], hB, heap_flatG (flatK encT.cells 2 (l.mergeSort fun x y => !ltOf cmpT y x).toArray) hb, by rw [hl']; exact hc1, hc2, by simp [putCells, hc3, hk3], ?_⟩⟩
    rw [hl', hk3, ← hFs', take_flatG _ _ (by rw [hFs', hc3]; exact Nat.mul_le_mul_right _ hc1), hF']
  · subst hw
    have hgr := grown_flatG (w := w) (g := g) (n := n) (os := os) (flatK encT.cells 2 (l.toArray.toList.mergeSort fun x y => !ltOf cmpT y x).toArray)
    exact hgr
end Go.Proofs.Ytphajbdkaikmpaa.Sh
/-
  Results that hold a struct in a cell of its own.
-/
namespace Go.Proofs.Ytphajbdkaikmpaa.Sh
open Go Go.RowKit

theorem resCT {P : Program} {fn : Func} {p q : Tmp} {ty : TypeId} (h : fn.results = #[.cell p ty, .tmp q]) (tmps : Array Value) (w : World) (b o : Nat) (cs : List Value) (d : TypeDesc)
    (hp : tmps.getD p undef = .pointer (some ⟨b, o, none⟩)) (hc : w.rangeAt b o cs) (hu : P.underlying ty = some d) (hd : d.isRow = true) (hi : (P.info? ty).map (·.size) = some cs.length) :
    (results fn tmps).run P w = .ok (.tuple #[.agg cs.toArray, tmps.getD q undef]) w := by
  have hp' : tmps[p]?.getD undef = .pointer (some ⟨b, o, none⟩) := by simpa using hp
  simp [results, h, hp', asAddr, run_loadVar_mid w b o ty cs d hc hu hd hi]
theorem resC1 {P : Program} {fn : Func} {p : Tmp} {ty : TypeId} (h : fn.results = #[.cell p ty]) (tmps : Array Value) (w : World) (b o : Nat) (cs : List Value) (d : TypeDesc)
    (hp : tmps.getD p undef = .pointer (some ⟨b, o, none⟩)) (hc : w.rangeAt b o cs) (hu : P.underlying ty = some d) (hd : d.isRow = true) (hi : (P.info? ty).map (·.size) = some cs.length) :
    (results fn tmps).run P w = .ok (.agg cs.toArray) w := by
  have hp' : tmps[p]?.getD undef = .pointer (some ⟨b, o, none⟩) := by simpa using hp
  simp [results, h, hp', asAddr, run_loadVar_mid w b o ty cs d hc hu hd hi]
/-- Two cells of a block, behind a store of both. -/
theorem pairS {w : World} {g : Nat} {u v x y : Value} {t : TypeId} (h : w.heap[g]? = some (.cells #[u, v] t (0, 0))) : ((w.setCell ⟨g, 0, none⟩ x).setCell ⟨g, 1, none⟩ y).heap[g]? = some (.cells #[x, y] t (0, 0)) :=
  heap_setCell_same _ g 1 _ _ y (heap_setCell_same w g 0 _ _ x h)
end Go.Proofs.Ytphajbdkaikmpaa.Sh
/-
  The queue's Len, First, remove; slices.Clone at timers; All, by contract.
-/
namespace Go.Proofs.Ytphajbdkaikmpaa.Sh
open Go Go.RowKit

set_option linter.unusedSimpArgs false
set_option linter.unusedVariables false
theorem eql_nilTm (n c : Nat) (w : World) : (Go.binOp .eql 44 (.slice none n c) (.slice none 0 0)).run Try.prog w = .ok (.bool true) w := by kernel_rfl
theorem eql_someTm (ad : Addr) (n c : Nat) (w : World) : (Go.binOp .eql 44 (.slice (some ad) n c) (.slice none 0 0)).run Try.prog w = .ok (.bool false) w := by kernel_rfl
theorem cloneT_made0 (w : World) (B : Nat) (hB : B ≤ w.heap.size) : Own (E := encT) (w.alloc (.cells #[] 37)) B 37 (.slice (some ⟨w.heap.size, 0, none⟩) 0 0) [] :=
  ⟨rfl, .inr ⟨w.heap.size, 0, #[], rfl, hB, heap_alloc_new w _, Nat.le_refl _, by unfold maxLen; omega, by simp, by simp [ev]⟩⟩
theorem cloneT_any (A : Option Addr) (l : List Tm) (n c : Nat) (hn : l.length = n) (hm : n ≤ 1000000000) (w : World) (h : Els encT w w.heap.size A l) :
    Calls Try.prog 24 #[.slice A n c] w fun e w' => ∃ A' c', e = .returned (.slice A' n c') ∧ Own (E := encT) w' w.heap.size 37 (.slice A' n c') l ∧ Below w.heap.size w w' := by
  rcases A with _ | ad
  · have hl : l = [] := by
      rcases Nat.eq_zero_or_pos l.length with h0 | h0
      · exact List.eq_nil_of_length_eq_zero h0
      · obtain ⟨ad, e, _⟩ := h h0; cases e
    subst hl
    obtain rfl : n = 0 := hn.symm
    have hq := eql_nilTm
    clear h
    go_enter Try.func24, Try.ntmps24
    go_wp2_with fail
    go_ret
    exact ⟨none, 0, rfl, Own.nil _ _ _, Below.refl _ _⟩
  · have HN := hid hn
    have HB := hid ((Below.refl w.heap.size w).alloc (Nat.le_refl _) (.cells #[] 37))
    have HR := hid ((h.below HB.out).reads)
    have HO := hid (cloneT_made0 w w.heap.size (Nat.le_refl _))
    have hs : w.heap.size ≤ (w.alloc (.cells #[] 37)).heap.size := HB.out.size
    clear hn h
    have hq := eql_someTm
    go_enter Try.func24, Try.ntmps24
    go_wp2_with (at_builtin; refine wpList_appL (E := encT) rfl slT (.tmp 5) (.tmp 6) rfl (B := w.heap.size) (v := .slice (some ⟨w.heap.size, 0, none⟩) 0 0) (l := []) HO.out rfl (A := some ad) (m := n) (c := c) l rfl HN.out HR.out (by simp; omega) (by omega) hs ?_; intro A9 c9 w9 ho9 hg9 he9; simp only [List.nil_append, List.length_nil, Nat.zero_add] at ho9; simp only [List.length_nil, Nat.zero_add]; have HO9 := hid ho9; have HB9 := hid (HB.out.grown hg9 hs (fun g e => (HO.out.lt g e).1)); clear ho9 hg9 he9)
    go_ret
    exact ⟨A9, c9, rfl, HO9.out, HB9.out⟩
theorem lenQ_any {w : World} {P : Nat → Prop} {q k : Nat} {L : List Tm} (e : QueP w P q k L) : Calls Try.prog 11 #[.pointer (some ⟨q, 0, none⟩)] w fun er w' => er = .returned (.int .i64 (L.length : Int)) ∧ w = w' := by
  obtain ⟨h, A, c, T, f, e1, e2, e3⟩ := e
  have HL := lenT_any e1.c0
  rw [e2.len] at HL
  have HL := hid HL
  clear e1 e2 e3
  go_enter Try.func11, Try.ntmps11
  go_wp2_with fail
  refine HL.out.mono ?_
  rintro er w2 ⟨rfl, hw⟩
  have hw2 : w = w2 := hw
  subst hw2
  go_wp2_with fail
  go_ret
  exact ⟨rfl, rfl⟩
/-- The first one, if there is one. -/
def headT : List Tm → Tm × Bool
  | [] => ((0, 0), false)
  | x :: _ => (x, true)
theorem info_T : (Try.prog.info? 37).map (·.size) = some 2 := by kernel_rfl
set_option maxHeartbeats 2000000 in
theorem firstQ_any {w : World} {P : Nat → Prop} {q k : Nat} {L : List Tm} (e : QueP w P q k L) : Calls Try.prog 13 #[.pointer (some ⟨q, 0, none⟩)] w fun er w' => er = .returned (.tuple #[.agg #[.int .i64 (headT L).1.1, .int .i64 (headT L).1.2], .bool (headT L).2]) ∧ Below w.heap.size w w' := by
  have HLW := hid (fun (W : World) (hb : Below w.heap.size w W) => lenQ_any (e.below hb))
  obtain ⟨w1, hw1⟩ : ∃ x, x = w.alloc (.cells #[.int .i64 0, .int .i64 0] 37) := ⟨_, rfl⟩
  have hb1 : Below w.heap.size w w1 := by rw [hw1]; exact (Below.refl _ _).alloc (Nat.le_refl _) _
  have hr1 : w1.heap[w.heap.size]? = some (.cells #[.int .i64 0, .int .i64 0] 37 (0, 0)) := by rw [hw1]; exact heap_alloc_new w _
  have HW1 := hid hw1
  have HB1 := hid hb1
  have HR1 := hid hr1
  cases L with
  | nil =>
    have HL0 : Hid (∀ W, Below w.heap.size w W → Calls Try.prog 11 #[.pointer (some ⟨q, 0, none⟩)] W fun er w' => er = .returned (.int .i64 0) ∧ W = w') := hid HLW.out
    clear e HLW hw1 hb1 hr1
    go_enter Try.func13, Try.ntmps13
    go_upto_region 1 with fail
    rw [← HW1.out]
    go_wp2_with fail
    refine (HL0.out _ HB1.out).mono ?_
    rintro er w2 ⟨rfl, hw⟩
    have hw2 : w1 = w2 := hw
    subst hw2
    clear hw
    rw [HW1.out]
    go_wp2_with fail
    rw [← HW1.out]
    exact bodyPost_ret (resCT (h := Try.results13) _ _ w.heap.size 0 [.int .i64 0, .int .i64 0] _ rfl (range_row HR1.out) Try.underlying37 rfl info_T) rfl ⟨rfl, HB1.out⟩
  | cons x t =>
    obtain ⟨d, u⟩ := x
    have HL0 : Hid (∀ W, Below w.heap.size w W → Calls Try.prog 11 #[.pointer (some ⟨q, 0, none⟩)] W fun er w' => er = .returned (.int .i64 ((t.length + 1 : Nat) : Int)) ∧ W = w') := hid HLW.out
    obtain ⟨h, A, c, T, f, e1, e2, e3⟩ := e
    have e1' := e1.below hb1
    have hx := e2.first
    have hn : T.length = t.length + 1 := e2.len
    obtain ⟨g, tl, rfl, -, -, -, -, a0, a1⟩ := e1'.at' (i := 0) (by omega)
    rw [hx] at a0 a1
    simp only [Nat.zero_mul, Nat.zero_add] at a0 a1
    have c0 := e1'.c0
    have hm := e1'.els.2
    rw [hn] at c0 hm
    have f0 : w1.frozen? ⟨w.heap.size, 0, none⟩ = false := frozen_of_row w1 _ 0 _ _ hr1
    have f1 : w1.frozen? ⟨w.heap.size, 1, none⟩ = false := frozen_of_row w1 _ 1 _ _ hr1
    have k0 : w1.cell? ⟨w.heap.size, 0, none⟩ = some (.int .i64 0) := by rw [cell_of_row _ _ 0 _ _ (0, 0) hr1]; rfl
    have k1 : w1.cell? ⟨w.heap.size, 1, none⟩ = some (.int .i64 0) := by rw [cell_of_row _ _ 1 _ _ (0, 0) hr1]; rfl
    have hz : (((t.length + 1 : Nat) : Int) == 0) = false := beq_eq_false_iff_ne.2 (by omega)
    obtain ⟨n, hn1⟩ : ∃ n, t.length + 1 = n := ⟨_, rfl⟩
    rw [hn1] at c0 hm hz HL0
    have hn0 : (0 : Int) < (n : Int) := by omega
    clear e1 e1' e2 e3 hx hn hw1 hb1 hr1 HLW hn1
    go_enter Try.func13, Try.ntmps13
    go_upto_region 1 with fail
    rw [← HW1.out]
    go_wp2_with fail
    refine (HL0.out _ HB1.out).mono ?_
    rintro er w2 ⟨rfl, hw⟩
    have hw2 : w1 = w2 := hw
    subst hw2
    clear hw
    go_wp2_with fail
    exact bodyPost_ret (resCT (h := Try.results13) _ _ w.heap.size 0 [.int .i64 d, .int .i64 u] _ rfl (range_row (pairS HR1.out)) Try.underlying37 rfl info_T) rfl ⟨rfl, (HB1.out.setCell (Nat.le_refl _) _).setCell (Nat.le_refl _) _⟩
end Go.Proofs.Ytphajbdkaikmpaa.Sh
/-
  The queue's remove, All, New, by contract.
-/
namespace Go.Proofs.Ytphajbdkaikmpaa.Sh
open Go Go.RowKit

set_option linter.unusedSimpArgs false
set_option linter.unusedVariables false
theorem Grew.over {w w2 w3 : World} {P X : Nat → Prop} (h : Grew w w2 P) (h' : Grew w2 w3 X) (hx : ∀ x, X x → w.heap.size ≤ x) : Grew w w3 P :=
  ⟨h'.os.trans h.os, h'.tape.trans h.tape, h'.output.trans h.output, Nat.le_trans h.size h'.size, fun b hb hp => (h'.block b (Nat.lt_of_lt_of_le hb h.size) (fun hX => by have := hx b hX; omega)).trans (h.block b hb hp)⟩
theorem gro_pair (w : World) (g : Nat) (x y : Value) : Grew w ((w.setCell ⟨g, 0, none⟩ x).setCell ⟨g, 1, none⟩ y) (fun b => b = g) :=
  (Grew.of_gro (X := fun b => b = g) (gro_set1 w g 0 x) rfl).trans (Grew.of_gro (gro_set1 _ g 1 y) rfl)
set_option maxHeartbeats 4000000 in
theorem rmQ_any {w : World} {P : Nat → Prop} {q h k c i : Nat} {A : Option Addr} {T L : List Tm} {f : Int → Option Int} (e : PileE w P q h k A c T f) (hq : TQ T L f) (h0 : KOk L) (hk : k < 980000) (hi : i < T.length) {d u : Int} (hx : ofT T i = (d, u)) :
    Calls Try.prog 21 #[.pointer (some ⟨q, 0, none⟩), .int .i64 (i : Int)] w fun er w' => er = .returned (.agg #[.int .i64 d, .int .i64 u]) ∧ QueP w' P q (k + 500) (noT u L) ∧ Grew w w' P := by
  obtain ⟨w1, hw1⟩ : ∃ x, x = w.alloc (.cells #[.int .i64 0, .int .i64 0] 37) := ⟨_, rfl⟩
  have hb1 : Below w.heap.size w w1 := by rw [hw1]; exact (Below.refl _ _).alloc (Nat.le_refl _) _
  have hr1 : w1.heap[w.heap.size]? = some (.cells #[.int .i64 0, .int .i64 0] 37 (0, 0)) := by rw [hw1]; exact heap_alloc_new w _
  have hs1 : w1.heap.size = w.heap.size + 1 := by rw [hw1]; simp
  have hK : KOk T := fun x hx => h0 x (hq.perm.mem_iff.1 hx)
  have hu : In64 u := by have := hK _ (ofT_mem hi); rw [hx] at this; exact this
  have HR := hid (removeT_any (e.below hb1) hq.pos hq.heap hK (by rw [hq.len]; exact hq.max) hk hi hx)
  have HQ := hid hq
  have H0 := hid h0
  have HI := hid hi
  have HX := hid hx
  have HW1 := hid hw1
  have HB1 := hid hb1
  have HS1 := hid hs1
  have HR1 := hid hr1
  have HU := hid hu
  have hdom := e.dom
  have HDOM := hid hdom
  have asX := asT
  clear e hq h0 hi hx hw1 hb1 hr1 hs1 hK hu hdom
  go_enter Try.func21, Try.ntmps21
  go_upto_region 1 with fail
  rw [← HW1.out]
  go_wp2_with fail
  refine HR.out.mono ?_
  rintro er w2 ⟨rfl, T2, f2, e2, pm2, hh2, ps2, g2⟩
  obtain ⟨w3, hw3⟩ : ∃ x, x = w2.alloc (.cells #[.int .i64 d, .int .i64 u] 37) := ⟨_, rfl⟩
  have hb3 : Below w2.heap.size w2 w3 := by rw [hw3]; exact (Below.refl _ _).alloc (Nat.le_refl _) _
  have hr3 : w3.heap[w2.heap.size]? = some (.cells #[.int .i64 d, .int .i64 u] 37 (0, 0)) := by rw [hw3]; exact heap_alloc_new w2 _
  have hs2 : w.heap.size < w2.heap.size := by have := g2.size; have := HS1.out; omega
  have e3 := (e2.below hb3).below (below_drewT w3)
  have c31 := e3.c1
  have l3 : w3.drew.cell? ⟨w2.heap.size, 1, none⟩ = some (.int .i64 u) := by
    show w3.cell? _ = _
    rw [cell_of_row _ _ 1 _ _ (0, 0) hr3]; rfl
  obtain ⟨w4, run4, p4, g4⟩ := e3.pl.del HU.out 0
  have e4 := e3.putPl g4 p4
  have hh4 : ∀ x, x ≠ h → x < w3.heap.size → w4.heap[x]? = w3.heap[x]? := fun x h1 h2 => g4.block x h2 (fun e => h1 (Option.some.inj e))
  have hhd : h < w.heap.size := HDOM.out h e2.p1
  have hs3 : w2.heap.size < w3.heap.size := (Array.getElem?_eq_some_iff.1 hr3).1
  have hr4 := (hh4 w2.heap.size (by omega) hs3).trans hr3
  have l40 : w4.cell? ⟨w2.heap.size, 0, none⟩ = some (.int .i64 d) := by rw [cell_of_row _ _ 0 _ _ (0, 0) hr4]; rfl
  have l41 : w4.cell? ⟨w2.heap.size, 1, none⟩ = some (.int .i64 u) := by rw [cell_of_row _ _ 1 _ _ (0, 0) hr4]; rfl
  have hz4 : w4.heap[w.heap.size]? = some (.cells #[.int .i64 0, .int .i64 0] 37 (0, 0)) :=
    (hh4 _ (by omega) (by omega)).trans ((hb3.block _ hs2).trans ((g2.block _ (by have := HS1.out; omega) (fun hp => by have := HDOM.out _ hp; omega)).trans HR1.out))
  have f0 : w4.frozen? ⟨w.heap.size, 0, none⟩ = false := frozen_of_row w4 _ 0 _ _ hz4
  have f1 : w4.frozen? ⟨w.heap.size, 1, none⟩ = false := frozen_of_row w4 _ 1 _ _ hz4
  have k0 : w4.cell? ⟨w.heap.size, 0, none⟩ = some (.int .i64 0) := by rw [cell_of_row _ _ 0 _ _ (0, 0) hz4]; rfl
  have k1 : w4.cell? ⟨w.heap.size, 1, none⟩ = some (.int .i64 0) := by rw [cell_of_row _ _ 1 _ _ (0, 0) hz4]; rfl
  have G4 : Grew w w4 P := ((((Grew.of_below HB1.out).trans g2).trans (Grew.of_below hb3)).trans (Grew.of_below (below_drewT w3))).trans (Grew.of_gro g4 e2.p1)
  have hgp := gro_pair w4 w.heap.size (.int .i64 d) (.int .i64 u)
  have e5 := e4.grew hgp (fun x hx hp => by have := HDOM.out x hp; omega)
  have tq := HQ.out.del HI.out hh2 (f' := updP f2 u none) ps2 (by rw [HX.out]; exact pm2)
  rw [HX.out] at tq
  have HFIN : Hid (QueP ((w4.setCell ⟨w.heap.size, 0, none⟩ (.int .i64 d)).setCell ⟨w.heap.size, 1, none⟩ (.int .i64 u)) P q (k + 500) (noT u L) ∧ Grew w ((w4.setCell ⟨w.heap.size, 0, none⟩ (.int .i64 d)).setCell ⟨w.heap.size, 1, none⟩ (.int .i64 u)) P) :=
    hid ⟨⟨h, A, c, T2, _, e5, tq, fun x hx => H0.out x (mem_noT.1 hx).1⟩, G4.over hgp (fun x hx => by omega)⟩
  have HZ4 := hid hz4
  have HW3 := hid hw3
  clear e2 pm2 hh2 ps2 g2 hw3 hb3 hr3 hs2 e3 p4 g4 e4 hh4 hhd hs3 hr4 hz4 G4 hgp e5 tq
  go_upto_region 2 with fail
  rw [← HW3.out]
  go_region_law fail
  all_goals
    go_wp2_with fail
    exact bodyPost_ret (resC1 (h := Try.results21) _ _ w.heap.size 0 [.int .i64 d, .int .i64 u] _ rfl (range_row (pairS HZ4.out)) Try.underlying37 rfl info_T) rfl ⟨rfl, HFIN.out⟩
set_option maxHeartbeats 2000000 in
theorem allQ_any {w : World} {P : Nat → Prop} {q k : Nat} {L : List Tm} (e : QueP w P q k L) : Calls Try.prog 15 #[.pointer (some ⟨q, 0, none⟩)] w fun er w' => ∃ A' c', er = .returned (.slice A' L.length c') ∧ Own (E := encT) w' w.heap.size 37 (.slice A' L.length c') L ∧ Below w.heap.size w w' := by
  obtain ⟨h, A, c, T, f, e1, e2, e3⟩ := e
  have c0 := e1.c0
  have hm := e1.els.2
  have hT64 : T.length ≤ 64 := by rw [e2.len]; exact e2.max
  have HC := cloneT_any A T T.length c rfl (by omega) w e1.els.1
  have HLN := hid e2.len
  have HSO := hid (fun S hp hs => e2.sorted (S := S) hp hs)
  obtain ⟨n, hn⟩ : ∃ n, T.length = n := ⟨_, rfl⟩
  rw [hn] at c0 hm HC hT64
  have HC := hid HC
  have HN := hid hn
  clear e1 e2 e3 hn
  go_enter Try.func15, Try.ntmps15
  go_wp2_with fail
  refine HC.out.mono ?_
  rintro er w2 ⟨A2, c2, rfl, o2, b2⟩
  have o2' : Own (E := encT) w2 w.heap.size 37 (.slice A2 T.length c2) T := by rw [HN.out]; exact o2
  have HS := sortT_any o2' (by rw [HN.out]; omega)
  rw [HN.out] at HS
  have HS := hid HS
  have HB2 := hid b2
  have HLT := hid (fun g e => (o2.lt g e).1)
  clear o2 o2' b2
  go_wp2_with fail
  refine HS.out.mono ?_
  rintro er w3 ⟨rfl, l', hp, hs, o3, g3⟩
  obtain rfl := HSO.out l' hp hs
  have HE : Hid (Own (E := encT) w3 w.heap.size 37 (.slice A2 n c2) l' ∧ Below w.heap.size w w3) := hid ⟨o3, HB2.out.grown g3 HB2.out.size HLT.out⟩
  have HL2 : Hid (l'.length = n) := hid (by rw [← HLN.out]; exact HN.out)
  clear hp hs o3 g3
  go_wp2_with fail
  go_ret
  rw [HL2.out]
  exact ⟨A2, c2, rfl, HE.out⟩
theorem newQ_at (w : World) : QueP ((w.alloc (.map #[] 0)).alloc (.cells #[.slice none 0 0, .map (some w.heap.size)] 52)) (plusT (fun _ => False) w.heap.size (w.heap.size + 2)) (w.heap.size + 1) 0 [] := by
  have s1 : (w.alloc (.map #[] 0)).heap.size = w.heap.size + 1 := by simp
  have s2 : ((w.alloc (.map #[] 0)).alloc (.cells #[.slice none 0 0, .map (some w.heap.size)] 52)).heap.size = w.heap.size + 2 := by simp
  have hm1 := map_made (P := Try.prog) w 3
  have b1 : Below (w.alloc (.map #[] 0)).heap.size (w.alloc (.map #[] 0)) ((w.alloc (.map #[] 0)).alloc (.cells #[.slice none 0 0, .map (some w.heap.size)] 52)) := (Below.refl _ _).alloc (Nat.le_refl _) _
  have hg := heap_alloc_new (w.alloc (.map #[] 0)) (.cells #[.slice none 0 0, .map (some w.heap.size)] 52)
  rw [s1] at hg
  have hpl : PlM (w.alloc (.map #[] 0)) w.heap.size 0 (fun _ => none) := ⟨_, hm1, fun z => rfl⟩
  refine ⟨w.heap.size, none, 0, [], fun _ => none, ⟨.inr ⟨by omega, by omega⟩, .inr ⟨by omega, by omega⟩, by omega, hg, Own.nil _ _ _, (fun g e => by cases e), hpl.at' (b1.block _ (by rw [s1]; omega)), fun x hx => ?_⟩, TQ.new, (fun x hx => by cases hx)⟩
  rw [s2]
  exact hx.elim (fun h => h.elim) (·.2)
theorem newQ_any (w : World) : Calls Try.prog 7 #[] w fun er w' => ∃ q, er = .returned (.pointer (some ⟨q, 0, none⟩)) ∧ QueP w' (plusT (fun _ => False) w.heap.size w'.heap.size) q 0 [] ∧ Below w.heap.size w w' := by
  have hmm := @run_makeMap Try.prog
  go_enter Try.func7, Try.ntmps7
  go_wp2_with fail
  go_ret
  have hb := newQ_at w
  refine ⟨w.heap.size + 1, ?_, ?_, ((Below.refl w.heap.size w).alloc (Nat.le_refl _) _).alloc (by simp) _⟩
  · simp
  · simpa using hb
end Go.Proofs.Ytphajbdkaikmpaa.Sh
