/-
  slices.SortFunc at pairs, slices.Sort at names, by the library's contracts.
-/
import Derived.Test.YtcligogmmjdobaaGreatDoorJp34
import Derived.Shelf.SlSortCmp.NoneTotal
import Derived.Shelf.Sort.AssemblysIn
import Derived.Sort.EveryDepth
import Derived.Sort.OwnSorted
import Derived.Shelf.Small.Bits
import Derived.Ground.SlsfProg
import Derived.Ground.NamesProg
import Derived.Maps.RangeWalk
set_option linter.unusedVariables false
set_option linter.unusedSimpArgs false
namespace Go.Proofs
open Go.Shelf
def Tryz.sortPair_ren : Go.Shelf.Ren := ⟨fun | 6 => 26 | 15 => 50 | 14 => 49 | 28 => 85 | 29 => 86 | 20 => 77 | 21 => 78 | 22 => 79 | 23 => 80 | 24 => 81 | 25 => 82 | 26 => 83 | 27 => 84 | 46 => 111 | 47 => 112 | 48 => 113 | 49 => 114 | 50 => 115 | 57 => 127 | n => n, fun | 22 => 27 | 24 => 51 | 25 => 63 | 3 => 3 | 39 => 88 | 0 => 0 | 53 => 128 | 55 => 130 | 4 => 4 | 46 => 121 | 45 => 120 | 50 => 125 | 5 => 5 | 9 => 9 | 66 => 145 | 70 => 149 | 76 => 159 | 77 => 160 | n => n, fun | n => n⟩
theorem Tryz.sortPair : Go.Proofs.SlLaysF0.n6 Tryz.prog Tryz.sortPair_ren := {
  mixed := by kernel_rfl
  f6 := ⟨Tryz.f26.name, by decide, Tryz.func26.trans (congrArg some (by kernel_rfl))⟩
  f14 := ⟨Tryz.f49.name, by decide, Tryz.func49.trans (congrArg some (by kernel_rfl))⟩
  f15 := Tryz.func50.trans (congrArg some (by kernel_rfl))
  f20 := ⟨Tryz.f77.name, by decide, Tryz.func77.trans (congrArg some (by kernel_rfl))⟩
  f21 := ⟨Tryz.f78.name, by decide, Tryz.func78.trans (congrArg some (by kernel_rfl))⟩
  f22 := ⟨Tryz.f79.name, by decide, Tryz.func79.trans (congrArg some (by kernel_rfl))⟩
  f23 := ⟨Tryz.f80.name, by decide, Tryz.func80.trans (congrArg some (by kernel_rfl))⟩
  f24 := ⟨Tryz.f81.name, by decide, Tryz.func81.trans (congrArg some (by kernel_rfl))⟩
  f25 := ⟨Tryz.f82.name, by decide, Tryz.func82.trans (congrArg some (by kernel_rfl))⟩
  f26 := ⟨Tryz.f83.name, by decide, Tryz.func83.trans (congrArg some (by kernel_rfl))⟩
  f27 := ⟨Tryz.f84.name, by decide, Tryz.func84.trans (congrArg some (by kernel_rfl))⟩
  f28 := Tryz.func85.trans (congrArg some (by kernel_rfl))
  f29 := Tryz.func86.trans (congrArg some (by kernel_rfl))
  f46 := ⟨Tryz.f111.name, by decide, Tryz.func111.trans (congrArg some (by kernel_rfl))⟩
  f47 := Tryz.func112.trans (congrArg some (by kernel_rfl))
  f48 := Tryz.func113.trans (congrArg some (by kernel_rfl))
  f49 := ⟨Tryz.f114.name, by decide, Tryz.func114.trans (congrArg some (by kernel_rfl))⟩
  f50 := ⟨Tryz.f115.name, by decide, Tryz.func115.trans (congrArg some (by kernel_rfl))⟩
  f57 := ⟨Tryz.f127.name, by decide, Tryz.func127.trans (congrArg some (by kernel_rfl))⟩
  t0 := Tryz.underlying0
  a0 := Tryz.isAgg0
  z0 := Tryz.sizeOf0
  v0 := Tryz.zeroValue0
  t3 := Tryz.underlying3
  a3 := Tryz.isAgg3
  z3 := Tryz.sizeOf3
  v3 := Tryz.zeroValue3
  t4 := Tryz.underlying4
  a4 := Tryz.isAgg4
  z4 := Tryz.sizeOf4
  v4 := Tryz.zeroValue4
  t5 := Tryz.underlying5
  a5 := Tryz.isAgg5
  z5 := Tryz.sizeOf5
  v5 := Tryz.zeroValue5
  t9 := Tryz.underlying9
  a9 := Tryz.isAgg9
  z9 := Tryz.sizeOf9
  v9 := Tryz.zeroValue9
  t22 := Tryz.underlying27
  a22 := Tryz.isAgg27
  z22 := Tryz.sizeOf27
  v22 := Tryz.zeroValue27
  t25 := Tryz.underlying63
  a25 := Tryz.isAgg63
  z25 := Tryz.sizeOf63
  v25 := Tryz.zeroValue63
  t39 := Tryz.underlying88
  a39 := Tryz.isAgg88
  z39 := Tryz.sizeOf88
  v39 := Tryz.zeroValue88
  t45 := Tryz.underlying120
  a45 := Tryz.isAgg120
  z45 := Tryz.sizeOf120
  v45 := Tryz.zeroValue120
  t46 := Tryz.underlying121
  a46 := Tryz.isAgg121
  z46 := Tryz.sizeOf121
  v46 := Tryz.zeroValue121
  t50 := Tryz.underlying125
  a50 := Tryz.isAgg125
  z50 := Tryz.sizeOf125
  v50 := Tryz.zeroValue125
  t53 := Tryz.underlying128
  a53 := Tryz.isAgg128
  z53 := Tryz.sizeOf128
  v53 := Tryz.zeroValue128
  t55 := Tryz.underlying130
  a55 := Tryz.isAgg130
  z55 := Tryz.sizeOf130
  v55 := Tryz.zeroValue130
  t66 := Tryz.underlying145
  a66 := Tryz.isAgg145
  z66 := Tryz.sizeOf145
  v66 := Tryz.zeroValue145
  t70 := Tryz.underlying149
  a70 := Tryz.isAgg149
  z70 := Tryz.sizeOf149
  v70 := Tryz.zeroValue149
  t76 := Tryz.underlying159
  a76 := Tryz.isAgg159
  z76 := Tryz.sizeOf159
  v76 := Tryz.zeroValue159
  t77 := Tryz.underlying160
  a77 := Tryz.isAgg160
  z77 := Tryz.sizeOf160
  v77 := Tryz.zeroValue160 }
def Tryz.sortStr_ren : Go.Shelf.Ren := ⟨fun | 190 => 30 | 125 => 50 | 258 => 54 | 128 => 85 | 129 => 86 | 302 => 88 | 303 => 89 | 304 => 90 | 305 => 91 | 306 => 92 | 307 => 93 | 308 => 94 | 309 => 95 | 310 => 96 | 333 => 116 | 329 => 112 | 330 => 113 | 334 => 117 | 335 => 118 | 336 => 87 | 344 => 128 | n => n, fun | 31 => 37 | 9 => 9 | 3 => 3 | 46 => 88 | 0 => 0 | 51 => 128 | 53 => 130 | 4 => 4 | 183 => 121 | 182 => 120 | 131 => 125 | 5 => 5 | 218 => 145 | 222 => 149 | 228 => 159 | 229 => 160 | n => n, fun | n => n⟩
theorem Tryz.sortStr : Go.Proofs.Lays.n190 Tryz.prog Tryz.sortStr_ren := {
  mixed := by kernel_rfl
  f125 := Tryz.func50.trans (congrArg some (by kernel_rfl))
  f128 := Tryz.func85.trans (congrArg some (by kernel_rfl))
  f129 := Tryz.func86.trans (congrArg some (by kernel_rfl))
  f190 := Tryz.func30.trans (congrArg some (by kernel_rfl))
  f258 := Tryz.func54.trans (congrArg some (by kernel_rfl))
  f302 := Tryz.func88.trans (congrArg some (by kernel_rfl))
  f303 := Tryz.func89.trans (congrArg some (by kernel_rfl))
  f304 := Tryz.func90.trans (congrArg some (by kernel_rfl))
  f305 := Tryz.func91.trans (congrArg some (by kernel_rfl))
  f306 := Tryz.func92.trans (congrArg some (by kernel_rfl))
  f307 := Tryz.func93.trans (congrArg some (by kernel_rfl))
  f308 := Tryz.func94.trans (congrArg some (by kernel_rfl))
  f309 := Tryz.func95.trans (congrArg some (by kernel_rfl))
  f310 := Tryz.func96.trans (congrArg some (by kernel_rfl))
  f329 := Tryz.func112.trans (congrArg some (by kernel_rfl))
  f330 := Tryz.func113.trans (congrArg some (by kernel_rfl))
  f333 := Tryz.func116.trans (congrArg some (by kernel_rfl))
  f334 := Tryz.func117.trans (congrArg some (by kernel_rfl))
  f335 := Tryz.func118.trans (congrArg some (by kernel_rfl))
  f336 := Tryz.func87.trans (congrArg some (by kernel_rfl))
  f344 := Tryz.func128.trans (congrArg some (by kernel_rfl))
  t0 := Tryz.underlying0
  a0 := Tryz.isAgg0
  z0 := Tryz.sizeOf0
  v0 := Tryz.zeroValue0
  t3 := Tryz.underlying3
  a3 := Tryz.isAgg3
  z3 := Tryz.sizeOf3
  v3 := Tryz.zeroValue3
  t4 := Tryz.underlying4
  a4 := Tryz.isAgg4
  z4 := Tryz.sizeOf4
  v4 := Tryz.zeroValue4
  t5 := Tryz.underlying5
  a5 := Tryz.isAgg5
  z5 := Tryz.sizeOf5
  v5 := Tryz.zeroValue5
  t9 := Tryz.underlying9
  a9 := Tryz.isAgg9
  z9 := Tryz.sizeOf9
  v9 := Tryz.zeroValue9
  t31 := Tryz.underlying37
  a31 := Tryz.isAgg37
  z31 := Tryz.sizeOf37
  v31 := Tryz.zeroValue37
  t46 := Tryz.underlying88
  a46 := Tryz.isAgg88
  z46 := Tryz.sizeOf88
  v46 := Tryz.zeroValue88
  t51 := Tryz.underlying128
  a51 := Tryz.isAgg128
  z51 := Tryz.sizeOf128
  v51 := Tryz.zeroValue128
  t53 := Tryz.underlying130
  a53 := Tryz.isAgg130
  z53 := Tryz.sizeOf130
  v53 := Tryz.zeroValue130
  t131 := Tryz.underlying125
  a131 := Tryz.isAgg125
  z131 := Tryz.sizeOf125
  v131 := Tryz.zeroValue125
  t182 := Tryz.underlying120
  a182 := Tryz.isAgg120
  z182 := Tryz.sizeOf120
  v182 := Tryz.zeroValue120
  t183 := Tryz.underlying121
  a183 := Tryz.isAgg121
  z183 := Tryz.sizeOf121
  v183 := Tryz.zeroValue121
  t218 := Tryz.underlying145
  a218 := Tryz.isAgg145
  z218 := Tryz.sizeOf145
  v218 := Tryz.zeroValue145
  t222 := Tryz.underlying149
  a222 := Tryz.isAgg149
  z222 := Tryz.sizeOf149
  v222 := Tryz.zeroValue149
  t228 := Tryz.underlying159
  a228 := Tryz.isAgg159
  z228 := Tryz.sizeOf159
  v228 := Tryz.zeroValue159
  t229 := Tryz.underlying160
  a229 := Tryz.isAgg160
  z229 := Tryz.sizeOf160
  v229 := Tryz.zeroValue160 }
def Tryz.sortBits_ren : Go.Shelf.Ren := ⟨fun | 125 => 50 | 128 => 85 | 129 => 86 | n => n, fun | 46 => 88 | 3 => 3 | 51 => 128 | 53 => 130 | 4 => 4 | 5 => 5 | 9 => 9 | n => n, fun | n => n⟩
theorem Tryz.sortBits : Go.Proofs.Lays.n125 Tryz.prog Tryz.sortBits_ren := {
  mixed := by kernel_rfl
  f125 := Tryz.func50.trans (congrArg some (by kernel_rfl))
  f128 := Tryz.func85.trans (congrArg some (by kernel_rfl))
  f129 := Tryz.func86.trans (congrArg some (by kernel_rfl))
  t3 := Tryz.underlying3
  a3 := Tryz.isAgg3
  z3 := Tryz.sizeOf3
  v3 := Tryz.zeroValue3
  t4 := Tryz.underlying4
  a4 := Tryz.isAgg4
  z4 := Tryz.sizeOf4
  v4 := Tryz.zeroValue4
  t5 := Tryz.underlying5
  a5 := Tryz.isAgg5
  z5 := Tryz.sizeOf5
  v5 := Tryz.zeroValue5
  t9 := Tryz.underlying9
  a9 := Tryz.isAgg9
  z9 := Tryz.sizeOf9
  v9 := Tryz.zeroValue9
  t46 := Tryz.underlying88
  a46 := Tryz.isAgg88
  z46 := Tryz.sizeOf88
  v46 := Tryz.zeroValue88
  t51 := Tryz.underlying128
  a51 := Tryz.isAgg128
  z51 := Tryz.sizeOf128
  v51 := Tryz.zeroValue128
  t53 := Tryz.underlying130
  a53 := Tryz.isAgg130
  z53 := Tryz.sizeOf130
  v53 := Tryz.zeroValue130 }
end Go.Proofs
namespace Go.Proofs.YtcligogmmjdobaaGreatDoor.Sh
open Go Go.RowKit Go.Sort

set_option linter.unusedSimpArgs false
theorem flat_ev {α : Type} [Inhabited α] (E : Enc α) (l : List α) : (flatK E.cells E.k l.toArray).toList = ev E l := by
  apply List.ext_getElem?
  intro t
  have hs : (flatK E.cells E.k l.toArray).toList.length = l.length * E.k := by simp
  by_cases ht : t < l.length * E.k
  · have hk := E.pos
    have hj : t / E.k < l.length := (Nat.div_lt_iff_lt_mul hk).2 ht
    have hm : t % E.k < E.k := Nat.mod_lt _ hk
    have e1 : l[t / E.k]? = some (l[t / E.k]'hj) := List.getElem?_eq_getElem hj
    have h2 := ev_get E e1 hm
    rw [show t / E.k * E.k + t % E.k = t by rw [Nat.mul_comm]; exact Nat.div_add_mod t E.k] at h2
    rw [h2, Array.getElem?_toList]
    have h3 := get_flatK E.cells E.k l.toArray t (by simpa using ht)
    have hlt : t < (flatK E.cells E.k l.toArray).size := by simpa using ht
    rw [Array.getElem?_eq_getElem hlt, ← getElem!_pos (flatK E.cells E.k l.toArray) t hlt, h3]
    have h4 : (l.toArray)[t / E.k]! = l[t / E.k]'hj := by rw [getElem!_pos l.toArray _ (by simpa using hj)]; simp
    rw [h4]
    have h5 : t % E.k < (E.cells (l[t / E.k]'hj)).length := by rw [E.len]; exact hm
    rw [List.getElem?_eq_getElem h5, getElem!_pos (E.cells (l[t / E.k]'hj)) (t % E.k) h5]
  · rw [List.getElem?_eq_none (by rw [hs]; omega), List.getElem?_eq_none (by rw [ev_length]; omega)]
theorem holds_flat {w : World} {g : Nat} {cur F : Array Value} {e : TypeId} (hb : w.heap[g]? = some (.cells cur e (0, 0))) (ht : cur.toList.take F.size = F.toList) : Holds id w g 0 F := by
  intro j hj
  refine ⟨?_, by simp [World.frozen?, hb]⟩
  have h1 : (cur.toList.take F.size)[j]? = F.toList[j]? := by rw [ht]
  rw [List.getElem?_take_of_lt hj] at h1
  simp only [World.cell?, hb, Nat.zero_add]
  simp only [Option.isSome_none, Bool.false_eq_true, if_false]
  rw [← Array.getElem?_toList, h1, Array.getElem?_toList, Array.getElem?_eq_getElem hj, getElem!_pos F j hj]
  rfl
theorem heap_flat {w : World} {g n : Nat} {os : Array Obj} {cur : Array Value} {e : TypeId} {fr : Nat × Nat} (d : Array Value) (hb : w.heap[g]? = some (.cells cur e fr)) :
    (grow (putRow id (Sort.ahead w n) g 0 d) os).heap[g]? = some (.cells (putCells id 0 d cur) e fr) := by
  have hg : g < w.heap.size := (Array.getElem?_eq_some_iff.1 hb).1
  rw [heap_grow_old _ _ (by simpa using hg)]
  simp [putRow, mapBlock, Sort.ahead, Array.getElem?_modify, hb, onCells]
theorem grown_flat {w : World} {g n : Nat} {os : Array Obj} (d : Array Value) : w.grownBy (grow (putRow id (Sort.ahead w n) g 0 d) os) (some g) := by
  refine ⟨rfl, rfl, rfl, by simp, fun k hk hne => ?_⟩
  rw [heap_grow_old _ _ (by simpa using hk)]
  have : g ≠ k := fun e => hne (by rw [e])
  simp [putRow, mapBlock, Sort.ahead, Array.getElem?_modify, this]
theorem take_flat (cur F : Array Value) (h : F.size ≤ cur.size) : (putCells id 0 F cur).toList.take F.size = F.toList := by
  apply List.ext_getElem?
  intro j
  by_cases hj : j < F.size
  · rw [List.getElem?_take_of_lt hj, Array.getElem?_toList, Array.getElem?_toList]
    have hc : j < cur.size := by omega
    simp [putCells, hj, hc]
  · rw [List.getElem?_eq_none (by simp; omega), List.getElem?_eq_none (by simpa using hj)]
theorem sortP_any {w : World} {B : Nat} {A : Option Addr} {c : Nat} {l : List Pr} (hown : Own (E := encP) w B 51 (.slice A l.length c) l) (hlen : l.length ≤ 1000000000) :
    Calls Tryz.prog 26 #[.slice A l.length c, .func (.func 27) #[] #[]] w fun e w' => e = .returned (.tuple #[]) ∧ ∃ l', l'.Perm l ∧ (l'.Pairwise fun x y => ¬ ltP y x) ∧
      Own (E := encP) w' B 51 (.slice A l.length c) l' ∧ But (fun g => (Value.slice A l.length c).ownBlock = some g) w w' := by
  rcases Nat.eq_zero_or_pos l.length with h0 | h0
  · have hn : l = [] := List.eq_nil_of_length_eq_zero h0
    subst hn
    have h := AnyF.slices_SortFunc_none Tryz.sortPair A c (.func (.func 27) #[] #[]) w
    exact h.mono fun e w' ⟨he, hw⟩ => ⟨he, [], .refl _, List.Pairwise.nil, by rw [hw]; exact hown, by rw [hw]; exact .refl _ _⟩
  rcases hown.2 with ⟨_, h1⟩ | ⟨g, cap, cur, hv, hB, hb, hc1, hc2, hc3, hc4⟩
  · omega
  simp only [Value.slice.injEq] at hv
  obtain ⟨rfl, _, rfl⟩ := hv
  have hg : g < w.heap.size := (Array.getElem?_eq_some_iff.1 hb).1
  have eg : ∀ args w, (callFunc 27 args).run Tryz.prog w = .ok (.enter 27 args) w := enters_of Tryz.func27 (by kernel_rfl) rfl
  have aE : ∀ w, (isAgg 51).run Tryz.prog w = .ok true w := fun w => by kernel_rfl
  have zE : ∀ w, (Go.sizeOf 51).run Tryz.prog w = .ok 3 w := fun w => by kernel_rfl
  have hF : (flatK encP.cells 3 l.toArray).toList = ev encP l := flat_ev encP l
  have hFs : (flatK encP.cells 3 l.toArray).size = l.length * 3 := by simp
  have hH : HoldsK encP.cells 3 w g 0 l.toArray := holds_flat hb (by rw [hF, hFs]; exact hc4)
  have hT : ∀ x y, ltOf cmpP x y = false → ltOf cmpP y x = false → x = y := fun x y h1 h2 => by
    rw [ltOf_cmpP, decide_eq_false_iff_not, cmpP_lt] at h1 h2
    rcases lt3_three x.1.1 x.1.2 x.2 y.1.1 y.1.2 y.2 with h | ⟨a1, a2, a3⟩ | h
    · exact absurd h h1
    · exact Prod.ext (Prod.ext a1 a2) a3
    · exact absurd h h2
  have h := AnyQ.slices_SortFunc_total Tryz.sortPair 3 aE zE encP.cells encP.len encP.one cmpP swoP 27 #[] g 0 c l.toArray w eg (fun m os dk _ x y => order_any x y _) hH hg (by simp; omega) hT
  refine h.mono fun e w' ⟨he, n, os, hw⟩ => ⟨he, l.mergeSort fun x y => !ltOf cmpP y x, List.mergeSort_perm _ _, ?_, ?_, ?_⟩
  · have hp := List.pairwise_mergeSort (le := fun x y => !ltOf cmpP y x) (fun a b c h1 h2 => by
      simp only [Bool.not_eq_true'] at h1 h2 ⊢
      exact swoP.ntrans _ _ _ h2 h1) (fun a b => by
      cases h1 : ltOf cmpP b a with
      | false => rfl
      | true =>
        cases h2 : ltOf cmpP a b with
        | false => simp
        | true => have := swoP.trans _ _ _ h1 h2; rw [swoP.irrefl] at this; cases this) l
    refine hp.imp fun {a b} hab => ?_
    simp only [Bool.not_eq_true'] at hab
    rw [ltOf_cmpP, decide_eq_false_iff_not, cmpP_lt] at hab
    exact hab
  · subst hw
    have hl' : (l.mergeSort fun x y => !ltOf cmpP y x).length = l.length := List.length_mergeSort _
    have e1 : (l.toArray.toList.mergeSort fun x y => !ltOf cmpP y x) = l.mergeSort fun x y => !ltOf cmpP y x := rfl
    have hF' : (flatK encP.cells 3 (l.mergeSort fun x y => !ltOf cmpP y x).toArray).toList = ev encP (l.mergeSort fun x y => !ltOf cmpP y x) := flat_ev encP _
    have hFs' : (flatK encP.cells 3 (l.mergeSort fun x y => !ltOf cmpP y x).toArray).size = l.length * 3 := by simp
    have hk3 : encP.k = 3 := rfl
    rw [hk3] at hc3
    refine ⟨ev_length _ _, .inr ⟨g, c, _, by rw [hl'], hB, heap_flat (flatK encP.cells 3 (l.mergeSort fun x y => !ltOf cmpP y x).toArray) hb, by rw [hl']; exact hc1, hc2, by simp [putCells, hc3, hk3], ?_⟩⟩
    rw [hl', hk3, ← hFs', take_flat _ _ (by rw [hFs', hc3]; exact Nat.mul_le_mul_right _ hc1), hF']
  · subst hw
    have hgr := grown_flat (w := w) (g := g) (n := n) (os := os) (flatK encP.cells 3 (l.toArray.toList.mergeSort fun x y => !ltOf cmpP y x).toArray)
    exact (But.grown hgr).mono fun x _ hx => hx
theorem insS_none (p : Option Addr) (cap : Nat) (w : World) : Calls Tryz.prog 88 #[.slice p 0 cap, .int .i64 0, .int .i64 0] w fun e w' => e = .returned (.tuple #[]) ∧ w' = w := by
  go_enter Tryz.func88, Tryz.ntmps88
  go_wp2
  refine wp_loop_rounds 1 ?_
  rw [rounds_succ]
  go_wp2
  go_end0
  exact ⟨rfl, rfl⟩
theorem pdqS_none (p : Option Addr) (cap : Nat) (lim : Int) (w : World) : Calls Tryz.prog 54 #[.slice p 0 cap, .int .i64 0, .int .i64 0, .int .i64 lim] w fun e w' => e = .returned (.tuple #[]) ∧ w' = w := by
  go_enter Tryz.func54, Tryz.ntmps54
  go_wp2
  refine wp_loop_rounds 1 ?_
  rw [rounds_succ]
  go_wp2_with (go_at_call 88; (refine (insS_none p cap w).mono ?_); rintro e w' ⟨rfl, rfl⟩)
  (try simp only [Exit.inBlock, Exit.then]); refine bodyPost_ret (results_none rfl _ _ _) rfl ?_
  exact ⟨rfl, rfl⟩
theorem sortS_none (p : Option Addr) (cap : Nat) (w : World) : Calls Tryz.prog 30 #[.slice p 0 cap] w fun e w' => e = .returned (.tuple #[]) ∧ w' = w := by
  have hl : ∀ W, Calls Tryz.prog 50 #[.int .u64 0] W fun e w' => e = .returned (.int .i64 (Lib.bitLen 0 : Nat)) ∧ w' = W := fun W => Any.bits_Len Tryz.sortBits 0 W (by omega) (by omega)
  go_enter Tryz.func30, Tryz.ntmps30
  go_wp2_with (first | (go_at_call 50; (refine (hl _).mono ?_); rintro e w' ⟨rfl, rfl⟩) | (go_at_call 54; (refine (pdqS_none p cap _ _).mono ?_); rintro e w' ⟨rfl, rfl⟩))
  go_end0
  exact ⟨rfl, rfl⟩
theorem ev_str (l : List ByteArray) : ev encS l = (l.map fun x => x.data.toList).map encStr := by
  induction l with
  | nil => rfl
  | cons x t ih =>
    show [Value.string x] ++ ev encS t = _
    rw [ih]
    rfl
theorem sortS_any {w : World} {B : Nat} {A : Option Addr} {c : Nat} {l : List ByteArray} (hown : Own (E := encS) w B 9 (.slice A l.length c) l) (hlen : l.length ≤ 1000000000) :
    Calls Tryz.prog 30 #[.slice A l.length c] w fun e w' => e = .returned (.tuple #[]) ∧ ∃ l' : List ByteArray, l'.Perm l ∧ (l'.Pairwise fun x y => bl y x = false) ∧
      Own (E := encS) w' B 9 (.slice A l.length c) l' ∧ But (fun g => (Value.slice A l.length c).ownBlock = some g) w w' := by
  rcases Nat.eq_zero_or_pos l.length with h0 | h0
  · have hn : l = [] := List.eq_nil_of_length_eq_zero h0
    subst hn
    exact (sortS_none A c w).mono fun e w' ⟨he, hw⟩ => ⟨he, [], .refl _, List.Pairwise.nil, by rw [hw]; exact hown, by rw [hw]; exact .refl _ _⟩
  rcases hown.2 with ⟨_, h1⟩ | ⟨g, cap, cur, hv, hB, hb, hc1, hc2, hc3, hc4⟩
  · omega
  simp only [Value.slice.injEq] at hv
  obtain ⟨rfl, _, rfl⟩ := hv
  have hg : g < w.heap.size := (Array.getElem?_eq_some_iff.1 hb).1
  have hk : encS.k = 1 := rfl
  obtain ⟨ss, hss⟩ : ∃ ss, ss = l.map fun x => x.data.toList := ⟨_, rfl⟩
  have hsl : ss.length = l.length := by rw [hss]; simp
  rw [hk, Nat.mul_one, ev_str, ← hss, ← hsl] at hc4
  have hH := holds_of_block hb hc4
  have h := calls_of_every_depth fun D => AnyS.slices_Sort_string_in Tryz.sortStr D g 0 c ss w hH hg (by omega)
  rw [hsl] at h
  obtain ⟨l', hl'⟩ : ∃ l', l' = l.mergeSort fun x y => decide (x.data.toList ≤ y.data.toList) := ⟨_, rfl⟩
  have hperm : l'.Perm l := by rw [hl']; exact List.mergeSort_perm _ _
  have hmap : (ss.mergeSort fun x y => decide (x ≤ y)) = l'.map fun x => x.data.toList := by
    rw [hss, hl']
    exact (List.map_mergeSort (f := fun x : ByteArray => x.data.toList) (r := fun x y : ByteArray => decide (x.data.toList ≤ y.data.toList)) (s := fun x y : List UInt8 => decide (x ≤ y)) (fun a _ b _ => rfl)).symm
  have hll : l'.length = l.length := hperm.length_eq
  refine h.mono fun e w' ⟨he, n, os, hw⟩ => ⟨he, l', hperm, ?_, ?_, ?_⟩
  · rw [hl']
    have hp := List.pairwise_mergeSort (le := fun x y : ByteArray => decide (x.data.toList ≤ y.data.toList)) (fun a b c h1 h2 => by
      simp only [decide_eq_true_eq] at h1 h2 ⊢
      exact List.le_trans h1 h2) (fun a b => by
      simp only [Bool.or_eq_true, decide_eq_true_eq]
      exact List.le_total _ _) l
    refine hp.imp fun {a b} hab => ?_
    simp only [decide_eq_true_eq] at hab
    unfold bl
    rw [bytesLess_eq, decide_eq_false_iff_not]
    exact hab
  · subst hw
    rw [hmap]
    refine ⟨ev_length _ _, ?_⟩
    rw [ev_str, hk, hll]
    exact (ownsRow_sorted (w := w) (n := n) (os := os) (ss := ss) (ts := l'.map fun x => x.data.toList) (by simp [hll, hsl]) hB hb (by omega) hc2 (by rw [hk] at hc3; exact hc3)).2.imp (fun ⟨h1, h2⟩ => ⟨by rw [← hsl]; exact h1, by omega⟩) fun ⟨g', cap', cur', a1, a2, a3, a4, a5, a6, a7⟩ => ⟨g', cap', cur', by rw [← hsl]; exact a1, a2, a3, by omega, a5, a6, by rw [← hsl]; exact a7⟩
  · subst hw
    exact (But.grown (grownBy_sorted _)).mono fun x _ hx => hx
end Go.Proofs.YtcligogmmjdobaaGreatDoor.Sh
/-
  A range over a map whose keys are known by a reader of one's own.
-/
namespace Go.Proofs.YtcligogmmjdobaaGreatDoor.Sh
open Go Go.RowKit
open Go.Maps (Keyed)

section
variable {H : Type} {P : Program} {k : TypeId} {R : Value → Option (DataW H × List MemPlace)} {w w' : World} {b r n : Nat} {D : DataW H} {left : Lit → Bool} {cnt : Nat}
theorem ranges_at (h : w.ranges P k R b r n D left cnt) (hb : w'.heap[b]? = w.heap[b]?) (hr : w'.heap[r]? = w.heap[r]?) : w'.ranges P k R b r n D left cnt := by
  obtain ⟨es, clock, since, seen, c0, h1, F, hs, hD, h2, rest⟩ := h
  exact ⟨es, clock, since, seen, c0, hb.trans h1, F, hs, hD, hr.trans h2, rest⟩
theorem ranges_has (h : w.ranges P k R b r n D left cnt) (K : Keyed P k) {z : Lit} (hz : left z = true) : Maps.has D z = true := by
  obtain ⟨es, clock, since, seen, c0, h1, F, hs, rfl, h2, h3, h4, h5, h6, h7, h8⟩ := h
  obtain ⟨x, hx, rfl⟩ := h6 z hz
  obtain ⟨y, hy⟩ := F.reads x hx
  exact List.any_eq_true.2 ⟨WideElems.rg P k R x, mem_sorted.2 (List.mem_map.2 ⟨x, hx, rfl⟩), WideAt.sameKey_self (by rw [WideElems.rg_of hy]; exact K.key (WideElems.rd_key hy))⟩
theorem wpList_next_key {κ : Type} {ops : Array Oper} {rest : List Oper} {o : Oper} {a : Act} {Q : Exit → Act → World → Prop} (hg : o.guard = none) (it : Operand) (hop : o.op = Op.next it false) (K : Keyed P k) (kl : κ → Lit) (kv : κ → Value) (ok : κ → Prop)
    (hkv : ∀ x, ok x → keyOf P k (kv x) = some (kl x)) (hkeys : ∀ z, Maps.has D z = true → ∃ x, ok x ∧ z = kl x)
    (hit : a.eval it = .pointer (some ⟨r, 0, none⟩)) (h : w.ranges P k R b r n D left cnt)
    (hDone : (∀ z, left z = false) → wpList P ops Q rest (a.put o.dst (.tuple #[.bool false])) w)
    (hMore : ∀ (x : κ) (v : Value) (w' : World) (cnt' : Nat), ok x → left (kl x) = true → w'.ranges P k R b r n D (fun z => left z && !z.sameKey (kl x)) cnt' → cnt' < cnt →
      w.grownBy w' (some r) → w'.heap.size = w.heap.size → (Instr.entry (.pointer (some ⟨r, 0, none⟩))).run P w' = .ok (.tuple #[kv x, v]) w' → wpList P ops Q rest (a.put o.dst (.tuple #[.bool true, kv x, v])) w') :
    wpList P ops Q (o :: rest) a w := by
  refine wpList_plain hg fun K' hK' => ?_
  unfold Oper.wp
  rcases h.next K o.type with ⟨h0, hl, hrun⟩ | ⟨key, v, z, y, w', cnt', hkey, hlk, hv, hat, hrun, hrg, hlt, hgr, hsz, hen⟩
  · simp [execOp, hop, hit, hrun, Result.andThen]
    exact hK' _ _ (hDone hl)
  · obtain ⟨x, hx, rfl⟩ := hkeys z (ranges_has h K hlk)
    obtain rfl := K.inj hkey (hkv x hx)
    simp [execOp, hop, hit, hrun, Result.andThen]
    exact hK' _ _ (hMore x v w' cnt' hx hlk hrg hlt hgr hsz hen)
end
theorem sameKey_iff {a b : Lit} (hb : WideAt.IsKeyLit b) : a.sameKey b = true ↔ a = b :=
  ⟨fun h => WideAt.sameKey_eq h, fun h => by rw [h]; exact WideAt.sameKey_self hb⟩
theorem imp_giv {l : List Crd} {s : St} (hL : Laid l s) {p : Pr} (h : Imp (· ∈ l) p) : s.giv p.2 ≠ [] := by
  obtain ⟨c, hc, h1, e⟩ := imp_who h
  exact List.ne_nil_of_mem ((hL.giv p.2 _).2 ⟨c, hc, h1, e, rfl⟩)
theorem imp_ok {l : List Crd} (hm : ∀ c ∈ l, mayC c = true) {p : Pr} (h : Imp (· ∈ l) p) : okP p := by
  obtain ⟨c, hc, e⟩ := imp_role h
  obtain ⟨c', hc', _, e'⟩ := imp_who h
  have h1 := okC_of (hm c hc)
  have h2 := okC_of (hm c' hc')
  refine ⟨?_, by rw [← e']; exact h2.2.1⟩
  rw [← e]
  exact ⟨ok_dom _, h1.1⟩
end Go.Proofs.YtcligogmmjdobaaGreatDoor.Sh
