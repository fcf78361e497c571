/-
  The order of IDs, the program's by contract; slices.SortFunc at IDs, by the library's contract.
-/
import Derived.Test.YtfbapbpggicfbaaDoorJa21
import Derived.Test.YtfbapbpggicfbaaDoorJa17
import Derived.Shelf.SlSortCmp.NoneTotal
import Derived.Shelf.SlSortCmp.InsertionK
import Derived.Shelf.Sort.AssemblysIn
import Derived.Sort.EveryDepth
import Derived.Sort.OwnSorted
import Derived.Ground.SlsfProg
set_option linter.unusedVariables false
set_option linter.unusedSimpArgs false
namespace Go.Proofs
open Go.Shelf
def Tryd.sortID_ren : Go.Shelf.Ren := ⟨fun | 6 => 65 | 15 => 92 | 14 => 91 | 28 => 114 | 29 => 115 | 20 => 106 | 21 => 107 | 22 => 108 | 23 => 109 | 24 => 110 | 25 => 111 | 26 => 112 | 27 => 113 | 46 => 125 | 47 => 126 | 48 => 127 | 49 => 128 | 50 => 129 | 57 => 132 | n => n, fun | 22 => 35 | 24 => 26 | 25 => 69 | 3 => 3 | 39 => 127 | 0 => 0 | 53 => 147 | 55 => 149 | 4 => 4 | 46 => 140 | 45 => 139 | 50 => 144 | 5 => 5 | 9 => 9 | 66 => 157 | 70 => 161 | 76 => 164 | 77 => 165 | n => n, fun | n => n⟩
theorem Tryd.sortID : Go.Proofs.SlLaysF0.n6 Tryd.prog Tryd.sortID_ren := {
  mixed := by kernel_rfl
  f6 := ⟨Tryd.f65.name, by decide, Tryd.func65.trans (congrArg some (by kernel_rfl))⟩
  f14 := ⟨Tryd.f91.name, by decide, Tryd.func91.trans (congrArg some (by kernel_rfl))⟩
  f15 := Tryd.func92.trans (congrArg some (by kernel_rfl))
  f20 := ⟨Tryd.f106.name, by decide, Tryd.func106.trans (congrArg some (by kernel_rfl))⟩
  f21 := ⟨Tryd.f107.name, by decide, Tryd.func107.trans (congrArg some (by kernel_rfl))⟩
  f22 := ⟨Tryd.f108.name, by decide, Tryd.func108.trans (congrArg some (by kernel_rfl))⟩
  f23 := ⟨Tryd.f109.name, by decide, Tryd.func109.trans (congrArg some (by kernel_rfl))⟩
  f24 := ⟨Tryd.f110.name, by decide, Tryd.func110.trans (congrArg some (by kernel_rfl))⟩
  f25 := ⟨Tryd.f111.name, by decide, Tryd.func111.trans (congrArg some (by kernel_rfl))⟩
  f26 := ⟨Tryd.f112.name, by decide, Tryd.func112.trans (congrArg some (by kernel_rfl))⟩
  f27 := ⟨Tryd.f113.name, by decide, Tryd.func113.trans (congrArg some (by kernel_rfl))⟩
  f28 := Tryd.func114.trans (congrArg some (by kernel_rfl))
  f29 := Tryd.func115.trans (congrArg some (by kernel_rfl))
  f46 := ⟨Tryd.f125.name, by decide, Tryd.func125.trans (congrArg some (by kernel_rfl))⟩
  f47 := Tryd.func126.trans (congrArg some (by kernel_rfl))
  f48 := Tryd.func127.trans (congrArg some (by kernel_rfl))
  f49 := ⟨Tryd.f128.name, by decide, Tryd.func128.trans (congrArg some (by kernel_rfl))⟩
  f50 := ⟨Tryd.f129.name, by decide, Tryd.func129.trans (congrArg some (by kernel_rfl))⟩
  f57 := ⟨Tryd.f132.name, by decide, Tryd.func132.trans (congrArg some (by kernel_rfl))⟩
  t0 := Tryd.underlying0
  a0 := Tryd.isAgg0
  z0 := Tryd.sizeOf0
  v0 := Tryd.zeroValue0
  t3 := Tryd.underlying3
  a3 := Tryd.isAgg3
  z3 := Tryd.sizeOf3
  v3 := Tryd.zeroValue3
  t4 := Tryd.underlying4
  a4 := Tryd.isAgg4
  z4 := Tryd.sizeOf4
  v4 := Tryd.zeroValue4
  t5 := Tryd.underlying5
  a5 := Tryd.isAgg5
  z5 := Tryd.sizeOf5
  v5 := Tryd.zeroValue5
  t9 := Tryd.underlying9
  a9 := Tryd.isAgg9
  z9 := Tryd.sizeOf9
  v9 := Tryd.zeroValue9
  t22 := Tryd.underlying35
  a22 := Tryd.isAgg35
  z22 := Tryd.sizeOf35
  v22 := Tryd.zeroValue35
  t25 := Tryd.underlying69
  a25 := Tryd.isAgg69
  z25 := Tryd.sizeOf69
  v25 := Tryd.zeroValue69
  t39 := Tryd.underlying127
  a39 := Tryd.isAgg127
  z39 := Tryd.sizeOf127
  v39 := Tryd.zeroValue127
  t45 := Tryd.underlying139
  a45 := Tryd.isAgg139
  z45 := Tryd.sizeOf139
  v45 := Tryd.zeroValue139
  t46 := Tryd.underlying140
  a46 := Tryd.isAgg140
  z46 := Tryd.sizeOf140
  v46 := Tryd.zeroValue140
  t50 := Tryd.underlying144
  a50 := Tryd.isAgg144
  z50 := Tryd.sizeOf144
  v50 := Tryd.zeroValue144
  t53 := Tryd.underlying147
  a53 := Tryd.isAgg147
  z53 := Tryd.sizeOf147
  v53 := Tryd.zeroValue147
  t55 := Tryd.underlying149
  a55 := Tryd.isAgg149
  z55 := Tryd.sizeOf149
  v55 := Tryd.zeroValue149
  t66 := Tryd.underlying157
  a66 := Tryd.isAgg157
  z66 := Tryd.sizeOf157
  v66 := Tryd.zeroValue157
  t70 := Tryd.underlying161
  a70 := Tryd.isAgg161
  z70 := Tryd.sizeOf161
  v70 := Tryd.zeroValue161
  t76 := Tryd.underlying164
  a76 := Tryd.isAgg164
  z76 := Tryd.sizeOf164
  v76 := Tryd.zeroValue164
  t77 := Tryd.underlying165
  a77 := Tryd.isAgg165
  z77 := Tryd.sizeOf165
  v77 := Tryd.zeroValue165 }
end Go.Proofs
namespace Go.Proofs.YtfbapbpggicfbaaDoor.Sh
open Go Go.RowKit Go.Sort

set_option linter.unusedVariables false
set_option linter.unusedSimpArgs false
def cmpJ (x y : Int × Int) : Int := if beforeI x.1 x.2 y.1 y.2 = true then -1 else if beforeI y.1 y.2 x.1 x.2 = true then 1 else 0
theorem cmpJ_lt (x y : Int × Int) : cmpJ x y < 0 ↔ beforeI x.1 x.2 y.1 y.2 = true := by
  unfold cmpJ
  by_cases h : beforeI x.1 x.2 y.1 y.2 = true
  · rw [if_pos h]; exact ⟨fun _ => h, fun _ => by omega⟩
  · rw [if_neg h]
    refine ⟨fun e => ?_, fun e => absurd e h⟩
    by_cases h2 : beforeI y.1 y.2 x.1 x.2 = true
    · rw [if_pos h2] at e; omega
    · rw [if_neg h2] at e; omega
theorem ltOf_cmpJ (x y : Int × Int) : ltOf cmpJ x y = decide (cmpJ x y < 0) := rfl
theorem swoJ : SWO (ltOf cmpJ) where
  irrefl x := by
    rw [ltOf_cmpJ, decide_eq_false_iff_not, cmpJ_lt]
    unfold beforeI; simp only [decide_eq_true_eq]; omega
  trans x y z h k := by
    rw [ltOf_cmpJ, decide_eq_true_eq, cmpJ_lt] at *
    exact beforeI_trans h k
  ntrans x y z h k := by
    rw [ltOf_cmpJ, decide_eq_false_iff_not, cmpJ_lt] at *
    unfold beforeI at *
    simp only [decide_eq_true_eq] at *
    omega
theorem beforeG_any (d q d' q' : Int) (w : World) : Calls Tryd.prog 67 #[.agg #[.int .i64 d, .int .i64 q], .agg #[.int .i64 d', .int .i64 q']] w fun er w' => er = .returned (.bool (beforeI d q d' q')) ∧ w' = (w.alloc (.cells #[.int .i64 d, .int .i64 q] 26)).alloc (.cells #[.int .i64 d', .int .i64 q'] 26) := by
  by_cases h : d = d'
  · subst h
    have hb : (d == d) = true := by simp
    by_cases hq : q < q'
    · have HE : Hid (beforeI d q d q' = true) := hid (by unfold beforeI; simp; omega)
      go_enter Tryd.func67, Tryd.ntmps67
      go_wp2
      go_ret
      exact ⟨by rw [HE.out]; rfl, rfl⟩
    · have HE : Hid (beforeI d q d q' = false) := hid (by unfold beforeI; simp; omega)
      go_enter Tryd.func67, Tryd.ntmps67
      go_wp2
      go_ret
      exact ⟨by rw [HE.out]; rfl, rfl⟩
  · have hb : (d == d') = false := beq_eq_false_iff_ne.2 h
    by_cases hq : d < d'
    · have HE : Hid (beforeI d q d' q' = true) := hid (by unfold beforeI; simp; omega)
      go_enter Tryd.func67, Tryd.ntmps67
      go_wp2
      go_ret
      exact ⟨by rw [HE.out]; rfl, rfl⟩
    · have HE : Hid (beforeI d q d' q' = false) := hid (by unfold beforeI; simp; omega)
      go_enter Tryd.func67, Tryd.ntmps67
      go_wp2
      go_ret
      exact ⟨by rw [HE.out]; rfl, rfl⟩
set_option maxHeartbeats 2000000 in
theorem orderI_any (x y : Int × Int) (W : World) : Calls Tryd.prog 41 #[.agg (encI.cells x).toArray, .agg (encI.cells y).toArray] W fun e w' => e = .returned (.int .i64 (cmpJ x y)) ∧ ∃ q os', w' = grow (W.drewN q) os' := by
  obtain ⟨d, q⟩ := x
  obtain ⟨d', q'⟩ := y
  show Calls _ _ #[.agg #[.int .i64 d, .int .i64 q], .agg #[.int .i64 d', .int .i64 q']] _ _
  obtain ⟨b1, hb1⟩ : ∃ b, beforeI d q d' q' = b := ⟨_, rfl⟩
  obtain ⟨b2, hb2⟩ : ∃ b, beforeI d' q' d q = b := ⟨_, rfl⟩
  have HL1 := hid (fun w => by have := beforeG_any d q d' q' w; rw [hb1] at this; exact this)
  have HL2 := hid (fun w => by have := beforeG_any d' q' d q w; rw [hb2] at this; exact this)
  have HB1 := hid hb1
  have HB2 := hid hb2
  clear hb1 hb2
  cases b1 with
  | true =>
    go_enter Tryd.func41, Tryd.ntmps41
    go_wp2_with (go_at_call 67; (refine (HL1.out _).mono ?_); rintro er w2 ⟨rfl, rfl⟩)
    go_ret
    exact ⟨by unfold cmpJ; rw [if_pos HB1.out]; rfl, 0, _, by rw [alloc_eq_grow, alloc_eq_grow, alloc_eq_grow, alloc_eq_grow, grow_grow, grow_grow, grow_grow]; rfl⟩
  | false =>
    cases b2 with
    | true =>
      go_enter Tryd.func41, Tryd.ntmps41
      go_wp2_with (go_at_call 67; (refine (HL1.out _).mono ?_); rintro er w2 ⟨rfl, rfl⟩; clear HL1)
      go_wp2_with (go_at_call 67; (refine (HL2.out _).mono ?_); rintro er w2 ⟨rfl, rfl⟩; clear HL2)
      go_ret
      exact ⟨by unfold cmpJ; rw [if_neg (by rw [HB1.out]; simp), if_pos HB2.out]; rfl, 0, _, by rw [alloc_eq_grow, alloc_eq_grow, alloc_eq_grow, alloc_eq_grow, alloc_eq_grow, alloc_eq_grow, grow_grow, grow_grow, grow_grow, grow_grow, grow_grow]; rfl⟩
    | false =>
      go_enter Tryd.func41, Tryd.ntmps41
      go_wp2_with (go_at_call 67; (refine (HL1.out _).mono ?_); rintro er w2 ⟨rfl, rfl⟩; clear HL1)
      go_wp2_with (go_at_call 67; (refine (HL2.out _).mono ?_); rintro er w2 ⟨rfl, rfl⟩; clear HL2)
      go_ret
      exact ⟨by unfold cmpJ; rw [if_neg (by rw [HB1.out]; simp), if_neg (by rw [HB2.out]; simp)]; rfl, 0, _, by rw [alloc_eq_grow, alloc_eq_grow, alloc_eq_grow, alloc_eq_grow, alloc_eq_grow, alloc_eq_grow, grow_grow, grow_grow, grow_grow, grow_grow, grow_grow]; rfl⟩
theorem flat_evI {α : Type} [Inhabited α] (E : Enc α) (l : List α) : (flatK E.cells E.k l.toArray).toList = ev E l := by
  apply List.ext_getElem?
  intro t
  have hs : (flatK E.cells E.k l.toArray).toList.length = l.length * E.k := by simp
  by_cases ht : t < l.length * E.k
  · have hk := E.pos
    have hj : t / E.k < l.length := (Nat.div_lt_iff_lt_mul hk).2 ht
    have hm : t % E.k < E.k := Nat.mod_lt _ hk
    have e1 : l[t / E.k]? = some (l[t / E.k]'hj) := List.getElem?_eq_getElem hj
    have h2 := ev_get E e1 hm
    rw [show t / E.k * E.k + t % E.k = t by rw [Nat.mul_comm]; exact Nat.div_add_mod t E.k] at h2
    rw [h2, Array.getElem?_toList]
    have h3 := get_flatK E.cells E.k l.toArray t (by simpa using ht)
    have hlt : t < (flatK E.cells E.k l.toArray).size := by simpa using ht
    rw [Array.getElem?_eq_getElem hlt, ← getElem!_pos (flatK E.cells E.k l.toArray) t hlt, h3]
    have h4 : (l.toArray)[t / E.k]! = l[t / E.k]'hj := by rw [getElem!_pos l.toArray _ (by simpa using hj)]; simp
    rw [h4]
    have h5 : t % E.k < (E.cells (l[t / E.k]'hj)).length := by rw [E.len]; exact hm
    rw [List.getElem?_eq_getElem h5, getElem!_pos (E.cells (l[t / E.k]'hj)) (t % E.k) h5]
  · rw [List.getElem?_eq_none (by rw [hs]; omega), List.getElem?_eq_none (by rw [ev_length]; omega)]
theorem holds_flatI {w : World} {g : Nat} {cur F : Array Value} {e : TypeId} (hb : w.heap[g]? = some (.cells cur e (0, 0))) (ht : cur.toList.take F.size = F.toList) : Holds id w g 0 F := by
  intro j hj
  refine ⟨?_, by simp [World.frozen?, hb]⟩
  have h1 : (cur.toList.take F.size)[j]? = F.toList[j]? := by rw [ht]
  rw [List.getElem?_take_of_lt hj] at h1
  simp only [World.cell?, hb, Nat.zero_add]
  simp only [Option.isSome_none, Bool.false_eq_true, if_false]
  rw [← Array.getElem?_toList, h1, Array.getElem?_toList, Array.getElem?_eq_getElem hj, getElem!_pos F j hj]
  rfl
theorem heap_flatI {w : World} {g n : Nat} {os : Array Obj} {cur : Array Value} {e : TypeId} {fr : Nat × Nat} (d : Array Value) (hb : w.heap[g]? = some (.cells cur e fr)) :
    (grow (putRow id (Sort.ahead w n) g 0 d) os).heap[g]? = some (.cells (putCells id 0 d cur) e fr) := by
  have hg : g < w.heap.size := (Array.getElem?_eq_some_iff.1 hb).1
  rw [heap_grow_old _ _ (by simpa using hg)]
  simp [putRow, mapBlock, Sort.ahead, Array.getElem?_modify, hb, onCells]
theorem grown_flatI {w : World} {g n : Nat} {os : Array Obj} (d : Array Value) : w.grownBy (grow (putRow id (Sort.ahead w n) g 0 d) os) (some g) := by
  refine ⟨rfl, rfl, rfl, by simp, fun k hk hne => ?_⟩
  rw [heap_grow_old _ _ (by simpa using hk)]
  have : g ≠ k := fun e => hne (by rw [e])
  simp [putRow, mapBlock, Sort.ahead, Array.getElem?_modify, this]
theorem take_flatI (cur F : Array Value) (h : F.size ≤ cur.size) : (putCells id 0 F cur).toList.take F.size = F.toList := by
  apply List.ext_getElem?
  intro j
  by_cases hj : j < F.size
  · rw [List.getElem?_take_of_lt hj, Array.getElem?_toList, Array.getElem?_toList]
    have hc : j < cur.size := by omega
    simp [putCells, hj, hc]
  · rw [List.getElem?_eq_none (by simp; omega), List.getElem?_eq_none (by simpa using hj)]
theorem sortI_any {w : World} {B : Nat} {A : Option Addr} {c : Nat} {l : List (Int × Int)} (hown : Own (E := encI) w B 26 (.slice A l.length c) l) (hlen : l.length ≤ 1000000000) :
    Calls Tryd.prog 65 #[.slice A l.length c, .func (.func 41) #[] #[]] w fun e w' => e = .returned (.tuple #[]) ∧ ∃ l', l'.Perm l ∧ (l'.Pairwise fun x y => beforeI y.1 y.2 x.1 x.2 = false) ∧
      Own (E := encI) w' B 26 (.slice A l.length c) l' ∧ w.grownBy w' (Value.slice A l.length c).ownBlock := by
  rcases Nat.eq_zero_or_pos l.length with h0 | h0
  · have hn : l = [] := List.eq_nil_of_length_eq_zero h0
    subst hn
    have h := AnyF.slices_SortFunc_none Tryd.sortID A c (.func (.func 41) #[] #[]) w
    exact h.mono fun e w' ⟨he, hw⟩ => ⟨he, [], .refl _, List.Pairwise.nil, by rw [hw]; exact hown, by rw [hw]; exact grown_same _ _⟩
  rcases hown.2 with ⟨_, h1⟩ | ⟨g, cap, cur, hv, hB, hb, hc1, hc2, hc3, hc4⟩
  · omega
  simp only [Value.slice.injEq] at hv
  obtain ⟨rfl, _, rfl⟩ := hv
  have hg : g < w.heap.size := (Array.getElem?_eq_some_iff.1 hb).1
  have eg : ∀ args w, (callFunc 41 args).run Tryd.prog w = .ok (.enter 41 args) w := enters_of Tryd.func41 (by kernel_rfl) rfl
  have aE : ∀ w, (isAgg 26).run Tryd.prog w = .ok true w := fun w => by kernel_rfl
  have zE : ∀ w, (Go.sizeOf 26).run Tryd.prog w = .ok 2 w := fun w => by kernel_rfl
  have hF : (flatK encI.cells 2 l.toArray).toList = ev encI l := flat_evI encI l
  have hFs : (flatK encI.cells 2 l.toArray).size = l.length * 2 := by simp
  have hH : HoldsK encI.cells 2 w g 0 l.toArray := holds_flatI hb (by rw [hF, hFs]; exact hc4)
  have hT : ∀ x y, ltOf cmpJ x y = false → ltOf cmpJ y x = false → x = y := fun x y h1 h2 => by
    rw [ltOf_cmpJ, decide_eq_false_iff_not, cmpJ_lt] at h1 h2
    unfold beforeI at h1 h2
    simp only [decide_eq_true_eq] at h1 h2
    exact Prod.ext (by omega) (by omega)
  have h := AnyQ.slices_SortFunc_total Tryd.sortID 2 aE zE encI.cells encI.len encI.one cmpJ swoJ 41 #[] g 0 c l.toArray w eg (fun m os dk _ x y => orderI_any x y _) hH hg (by simp; omega) hT
  refine h.mono fun e w' ⟨he, n, os, hw⟩ => ⟨he, l.mergeSort fun x y => !ltOf cmpJ y x, List.mergeSort_perm _ _, ?_, ?_, ?_⟩
  · have hp := List.pairwise_mergeSort (le := fun x y => !ltOf cmpJ y x) (fun a b c h1 h2 => by
      simp only [Bool.not_eq_true'] at h1 h2 ⊢
      exact swoJ.ntrans _ _ _ h2 h1) (fun a b => by
      cases h1 : ltOf cmpJ b a with
      | false => rfl
      | true =>
        cases h2 : ltOf cmpJ a b with
        | false => simp
        | true => have := swoJ.trans _ _ _ h1 h2; rw [swoJ.irrefl] at this; cases this) l
    refine hp.imp fun {a b} hab => ?_
    simp only [Bool.not_eq_true'] at hab
    rw [ltOf_cmpJ, decide_eq_false_iff_not, cmpJ_lt, Bool.not_eq_true] at hab
    exact hab
  · subst hw
    have hl' : (l.mergeSort fun x y => !ltOf cmpJ y x).length = l.length := List.length_mergeSort _
    have e1 : (l.toArray.toList.mergeSort fun x y => !ltOf cmpJ y x) = l.mergeSort fun x y => !ltOf cmpJ y x := rfl
    have hF' : (flatK encI.cells 2 (l.mergeSort fun x y => !ltOf cmpJ y x).toArray).toList = ev encI (l.mergeSort fun x y => !ltOf cmpJ y x) := flat_evI encI _
    have hFs' : (flatK encI.cells 2 (l.mergeSort fun x y => !ltOf cmpJ y x).toArray).size = l.length * 2 := by simp
    have hk3 : encI.k = 2 := rfl
    rw [hk3] at hc3
    refine ⟨ev_length _ _, .inr ⟨g, c, _, by rw [hl'], hB, heap_flatI (flatK encI.cells 2 (l.mergeSort fun x y => !ltOf cmpJ y x).toArray) hb, by rw [hl']; exact hc1, hc2, by simp [putCells, hc3, hk3], ?_⟩⟩
    rw [hl', hk3, ← hFs', take_flatI _ _ (by rw [hFs', hc3]; exact Nat.mul_le_mul_right _ hc1), hF']
  · subst hw
    have hgr := grown_flatI (w := w) (g := g) (n := n) (os := os) (flatK encI.cells 2 (l.toArray.toList.mergeSort fun x y => !ltOf cmpJ y x).toArray)
    exact hgr
end Go.Proofs.YtfbapbpggicfbaaDoor.Sh
/-
  The program's Support, by contract.
-/
namespace Go.Proofs.YtfbapbpggicfbaaDoor.Sh
open Go Go.RowKit

set_option linter.unusedVariables false
set_option linter.unusedSimpArgs false

/-- Sorted, each once. -/
def SortedI (l : List (Int × Int)) : Prop := l.Pairwise fun x y => beforeI x.1 x.2 y.1 y.2 = true
theorem sortedI_of {l l' : List (Int × Int)} (hp : l'.Perm l) (hn : l.Nodup) (h : l'.Pairwise fun x y => beforeI y.1 y.2 x.1 x.2 = false) : SortedI l' := by
  have hn' : l'.Nodup := hp.nodup_iff.2 hn
  refine List.Pairwise.imp₂ (fun x y hxy hne => ?_) h hn'
  unfold beforeI at hxy ⊢
  simp only [decide_eq_true_eq, decide_eq_false_iff_not] at hxy ⊢
  rcases Int.lt_trichotomy x.1 y.1 with h1 | h1 | h1
  · exact .inl h1
  · rcases Int.lt_trichotomy x.2 y.2 with h2 | h2 | h2
    · exact .inr ⟨h1, h2⟩
    · exact absurd (Prod.ext h1 h2) hne
    · exact absurd (.inr ⟨h1.symm, h2⟩) hxy
  · exact absurd (.inl h1) hxy
theorem SortedI.uniq {a b : List (Int × Int)} (ha : SortedI a) (hb : SortedI b) (h : ∀ i, i ∈ a ↔ i ∈ b) : a = b := by
  have irr : ∀ x : Int × Int, ¬ beforeI x.1 x.2 x.1 x.2 = true := fun x => by unfold beforeI; simp only [decide_eq_true_eq]; omega
  have nd : ∀ {l}, SortedI l → l.Nodup := fun {l} hl => List.Pairwise.imp (fun {x y} hxy (e : x = y) => by subst e; exact irr _ hxy) hl
  exact List.Perm.eq_of_pairwise (le := fun (x y : Int × Int) => beforeI x.1 x.2 y.1 y.2 = true) (fun x y _ _ h1 h2 => by
    have := beforeI_trans h1 h2
    exact absurd this (irr x)) ha hb ((List.perm_ext_iff_of_nodup (nd ha) (nd hb)).2 h)
theorem PIn.idsOk {w : World} {B : Nat} {p : PT} (h : PIn w B p) : ∀ i ∈ p.ids, okI i := by
  induction h with
  | mk h0 h1 h2 h3 h4 ih =>
    intro i hi
    rw [PT.ids_eq] at hi
    rcases List.mem_cons.1 hi with e | e
    · rw [e]; exact h0
    · obtain ⟨a, ha, hia⟩ := List.mem_flatMap.1 e
      exact ih a ha i hia
set_option maxHeartbeats 2000000 in
theorem collectI_any (g : Nat) (lb : Array Value) (eg : ∀ args w, (callFunc g args).run Tryd.prog w = .ok (.enter g args) w) (S : List (Int × Int) → Prop) (N : Nat) (hN : N ≤ 1000000) (w : World)
    (hseq : SeqStopsK Fence.wide 4 Tryd.prog g lb (fun x : Int × Int => #[iV x]) KeepsWalks S (fun _ => True) N w) :
    Calls Tryd.prog 64 #[.func (.func g) #[] lb] w fun e w' => ∃ (A : Option Addr) (c : Nat) (ss : List (Int × Int)), e = .returned (.slice A ss.length c) ∧ S ss ∧ Own (E := encI) w' w.heap.size 26 (.slice A ss.length c) ss ∧ Below w.heap.size w w' := by
  have HCA := hid (callsIn_wide.1 (appendSeqI_in Fence.wide 5 trivial rfl (by omega) g lb trivial eg S N hN w hseq))
  clear hseq
  go_enter Tryd.func64, Tryd.ntmps64
  go_wp2_with fail
  refine HCA.out.mono ?_
  rintro er w2 ⟨A, c, ss, rfl, hS, ho, hb⟩
  go_wp2_with fail
  go_ret
  exact ⟨A, c, ss, rfl, hS, ho, hb⟩
set_option maxHeartbeats 2000000 in
theorem sortedFuncI_any (g : Nat) (lb : Array Value) (eg : ∀ args w, (callFunc g args).run Tryd.prog w = .ok (.enter g args) w) (S : List (Int × Int) → Prop) (hSn : ∀ ss, S ss → ss.Nodup ∧ ss.length ≤ 1000000) (N : Nat) (hN : N ≤ 1000000) (w : World)
    (hseq : SeqStopsK Fence.wide 4 Tryd.prog g lb (fun x : Int × Int => #[iV x]) KeepsWalks S (fun _ => True) N w) :
    Calls Tryd.prog 39 #[.func (.func g) #[] lb, .func (.func 41) #[] #[]] w fun e w' => ∃ (A : Option Addr) (c : Nat) (ss l : List (Int × Int)), e = .returned (.slice A ss.length c) ∧ S l ∧ ss.Perm l ∧ SortedI ss ∧ Own (E := encI) w' w.heap.size 26 (.slice A ss.length c) ss ∧ Below w.heap.size w w' := by
  have HCA := hid (collectI_any g lb eg S N hN w hseq)
  have HSN := hid hSn
  clear hseq hSn
  go_enter Tryd.func39, Tryd.ntmps39
  go_wp2_with fail
  refine HCA.out.mono ?_
  rintro er w2 ⟨A, c, l, rfl, hS, ho, hb⟩
  have HSO := hid (sortI_any ho (by have := (HSN.out l hS).2; omega))
  have HS := hid hS
  have HO := hid ho
  have HB := hid hb
  obtain ⟨m, hm⟩ : ∃ m, l.length = m := ⟨_, rfl⟩
  have HM := hid hm
  rw [hm] at HSO HO ⊢
  clear HCA hS ho hb hm
  go_wp2_with fail
  refine HSO.out.mono ?_
  rintro er w3 ⟨rfl, l', hp, hpw, ho, hg⟩
  have HB3 : Hid (Below w.heap.size w w3) := hid (HB.out.grown hg HB.out.size (fun k e => (HO.out.lt k e).1))
  have HR : Hid (l'.length = m ∧ l'.Perm l ∧ SortedI l' ∧ Own (E := encI) w3 w.heap.size 26 (.slice A m c) l') := hid ⟨by rw [hp.length_eq, HM.out], hp, sortedI_of hp (HSN.out l HS.out).1 hpw, ho⟩
  clear HSO hp hpw ho hg
  go_wp2_with fail
  go_ret
  exact ⟨A, c, l', l, by rw [HR.out.1]; rfl, HS.out, HR.out.2.1, HR.out.2.2.1, by rw [HR.out.1]; exact HR.out.2.2.2, HB3.out⟩
set_option maxHeartbeats 4000000 in
set_option maxRecDepth 100000 in
theorem support_any (p : PT) (w : World) (hs : p.size ≤ 100000) (hp : PIn w w.heap.size p) :
    Calls Tryd.prog 13 #[.agg p.cells.toArray] w fun e w' => ∃ (A : Option Addr) (c : Nat) (ss : List (Int × Int)), e = .returned (.slice A ss.length c) ∧ SortedI ss ∧ (∀ i, i ∈ ss ↔ i ∈ p.ids) ∧ Own (E := encI) w' w.heap.size 26 (.slice A ss.length c) ss ∧ Below w.heap.size w w' := by
  have hmf : ∀ (fn : Fn) (first cap : Array Value) (w : World), (Instr.makeFunc fn first cap).run Tryd.prog w = .ok (.func fn first cap) w := fun _ _ _ _ => rfl
  have hmm := @run_makeMap Tryd.prog
  have hids := hp.idsOk
  obtain ⟨o, n, x, d, q, A, c, ps⟩ := p
  obtain ⟨g0, hg0⟩ : ∃ g, w.heap.size = g := ⟨_, rfl⟩
  obtain ⟨w1, hw1⟩ : ∃ w1, w1 = ((w.alloc (.cells (PT.mk o n x d q A c ps).cells.toArray 29)).alloc (.map #[] 0)).alloc (.cells #[.map none, .map (some (g0 + 1)), .int .i64 0] 61) := ⟨_, rfl⟩
  have HQ1 : Hid (Below w.heap.size w w1) := hid (by rw [hw1]; exact (((Below.refl _ w).alloc (Nat.le_refl _) _).alloc (by rw [World.size_alloc]; exact Nat.le_succ _) _).alloc (by rw [World.size_alloc, World.size_alloc]; omega) _)
  have HIM : Hid (IMap w1 (g0 + 1) []) := hid (by
    rw [hw1]
    have := IMap.new (w.alloc (.cells (PT.mk o n x d q A c ps).cells.toArray 29))
    rw [World.size_alloc, hg0] at this
    exact this.kept ((Below.refl _ _).alloc (Nat.le_refl _) _))
  have HIA : Hid (IAt w1 (g0 + 1 + 1) (g0 + 1)) := hid (by
    rw [hw1]
    have := heap_alloc_new ((w.alloc (.cells (PT.mk o n x d q A c ps).cells.toArray 29)).alloc (.map #[] 0)) (.cells #[.map none, .map (some (g0 + 1)), .int .i64 0] 61)
    rw [World.size_alloc, World.size_alloc, hg0] at this
    exact this)
  have HCA := hid (visitI_any (.pointer (some ⟨g0 + 1 + 1, 0, none⟩)) (g0 + 1) g0 (fun W L => IAt W (g0 + 1 + 1) (g0 + 1) ∧ IMap W (g0 + 1) L) (fun p W L h hpi _ hL => collect_any (g0 + 1 + 1) (g0 + 1) (by omega) p W L h hL (by obtain ⟨_, _, _, _, _, _, _, _⟩ := p; exact hpi.ok)) (fun _ _ _ h hb => ⟨h.1.kept hb, h.2.kept hb⟩) (fun _ _ h => h.2.lt) (by omega) (.mk o n x d q A c ps) w1 [] ⟨HIA.out, HIM.out⟩ (by rw [← hg0]; exact hp.into HQ1.out) (by simpa using hs))
  obtain ⟨I, hI⟩ : ∃ I, (PT.mk o n x d q A c ps).ids = I := ⟨_, rfl⟩
  have HIL : Hid (I.length ≤ 100000) := hid (by rw [← hI]; exact hs)
  rw [List.nil_append, hI] at HCA
  rw [hI] at hids ⊢
  have HIO := hid hids
  have HG0 := hid hg0
  unfold PT.cells at hw1 HCA ⊢
  simp only at hw1 HCA ⊢
  clear hp hs hI hids
  go_enter Tryd.func13, Tryd.ntmps13
  go_wp2_with fail
  rw [← hw1]
  obtain ⟨gk, hgk⟩ : ∃ g, g0 + 1 + 1 = g := ⟨_, rfl⟩
  obtain ⟨gb, hgb⟩ : ∃ g, g0 + 1 = g := ⟨_, rfl⟩
  have HGK : Hid (g0 + 1 + 1 = gk ∧ g0 + 1 = gb) := hid ⟨hgk, hgb⟩
  rw [hgk] at HIA HCA ⊢
  rw [hgb] at HIA HIM HCA ⊢
  clear hw1 hg0 hgk hgb
  refine HCA.out.mono ?_
  rintro er w2 ⟨rfl, ⟨hi2, hm2⟩, hg2⟩
  have kc := hi2.cell
  have HB2 : Hid (Below w.heap.size w w2) := hid (HQ1.out.grown hg2 HQ1.out.size (fun k e => by injection e with e; have := HGK.out; have := HG0.out; omega))
  obtain ⟨w3, hw3⟩ : ∃ w3, w3 = w2.alloc (.cells #[.map (some gb)] 59) := ⟨_, rfl⟩
  have HB3 : Hid (Below w2.heap.size w2 w3) := hid (by rw [hw3]; exact (Below.refl _ _).alloc (Nat.le_refl _) _)
  have hm3 : w3.cell? ⟨w2.heap.size, 0, none⟩ = some (.map (some gb)) := by
    rw [hw3, cell_of_row _ w2.heap.size 0 _ _ (0, 0) (heap_alloc_new w2 _)]; rfl
  have HST := hid (sortedFuncI_any 66 #[.pointer (some ⟨w2.heap.size, 0, none⟩)] (enters_of Tryd.func66 (by kernel_rfl) rfl) (fun ss => ss.Nodup ∧ (∀ i ∈ ss, okI i) ∧ ∀ i, okI i → (i ∈ ss ↔ i ∈ I))
    (fun ss hss => ⟨hss.1, by have := nodup_le hss.1 (fun i hi => (hss.2.2 i (hss.2.1 i hi)).1 hi); have := HIL.out; omega⟩) I.length (by have := HIL.out; omega) w3
    (keysI_stops Fence.wide 4 trivial rfl (by omega) w2.heap.size gb I w3 (by rw [hw3]; simp) hm3 (hm2.kept HB3.out)))
  have HKE := hid (callsIn_wide.1 (keys_any Fence.wide 1 trivial rfl (some gb) w2))
  rw [← hw3] at HKE
  clear hi2 hm2 hg2 HCA hm3 hw3
  go_wp2_with (first
    | (go_at_call 40; (refine HKE.out.mono ?_); rintro er w4 ⟨rfl, rfl⟩)
    | (go_at_call 39; (refine HST.out.mono ?_); rintro er w5 ⟨A5, c5, ss, l, rfl, hS, hP, hSo, ho5, hb5⟩))
  go_ret
  refine ⟨A5, c5, ss, rfl, hSo, fun i => ?_, own_mono' ho5 (Nat.le_trans HB2.out.size HB3.out.size), (HB2.out.trans (HB3.out.mono HB2.out.size)).trans (hb5.mono (Nat.le_trans HB2.out.size HB3.out.size))⟩
  rw [hP.mem_iff]
  constructor
  · intro h; exact (hS.2.2 i (hS.2.1 i h)).1 h
  · intro h; exact (hS.2.2 i (HIO.out i h)).2 h
end Go.Proofs.YtfbapbpggicfbaaDoor.Sh
