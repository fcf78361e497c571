/-
  slices.CompactFunc at credentials, and the program's own Counts, by contract.
-/
import Derived.Test.YtkimhdcngagmaaaJa24
set_option linter.unusedVariables false
set_option linter.unusedSimpArgs false
namespace Go.Proofs.Ytkimhdcngagmaaa.Sh
open Go Go.RowKit
set_option linter.unusedSimpArgs false
set_option maxRecDepth 100000

/-- Of the first j of a sorted list: of each ID the first. -/
structure KeptS (out s : List Crd) (j : Nat) : Prop where
  sd : Sd out
  one : ∀ d q, out.filter (idIs d q) = ((s.take j).filter (idIs d q)).take 1
theorem KeptS.mem {out s : List Crd} {j : Nat} (h : KeptS out s j) {a : Crd} (ha : a ∈ out) : ∃ t, t < j ∧ s[t]? = some a := by
  have h1 : a ∈ out.filter (idIs a.d a.q) := by rw [List.mem_filter]; exact ⟨ha, by simp [idIs]⟩
  rw [h.one] at h1
  have h2 := (List.mem_filter.1 (List.mem_of_mem_take h1)).1
  obtain ⟨t, ht⟩ := List.getElem?_of_mem h2
  rw [List.getElem?_take] at ht
  split at ht
  · rename_i hlt; exact ⟨t, hlt, ht⟩
  · cases ht
theorem sd_get {s : List Crd} (h : Sd s) {i j : Nat} {x y : Crd} (hij : i < j) (hx : s[i]? = some x) (hy : s[j]? = some y) : bef y x = false := by
  obtain ⟨g1, e1⟩ := List.getElem?_eq_some_iff.1 hx
  obtain ⟨g2, e2⟩ := List.getElem?_eq_some_iff.1 hy
  have := List.pairwise_iff_getElem.1 h i j g1 g2 hij
  rwa [e1, e2] at this
theorem same_id {a b : Crd} : sameId a b = true ↔ a.d = b.d ∧ a.q = b.q := by unfold sameId; simp
theorem KeptS.skip {out s : List Crd} {j : Nat} {x y : Crd} (h : KeptS out s (j + 1)) (hx : s[j + 1]? = some x) (hy : s[j]? = some y) (he : sameId x y = true) : KeptS out s (j + 2) := by
  refine ⟨h.sd, fun d q => ?_⟩
  rw [h.one, take_snoc_of hx, List.filter_append]
  by_cases hi : idIs d q x = true
  · have hiy : idIs d q y = true := by
      have := same_id.1 he
      unfold idIs at hi ⊢
      simp only [decide_eq_true_eq] at hi ⊢
      omega
    have hm : y ∈ (s.take (j + 1)).filter (idIs d q) := by
      rw [List.mem_filter]
      exact ⟨List.mem_of_getElem? (by rw [List.getElem?_take, if_pos (Nat.lt_succ_self _)]; exact hy), hiy⟩
    cases hq : (s.take (j + 1)).filter (idIs d q) with
    | nil => rw [hq] at hm; cases hm
    | cons a t => rfl
  · rw [show [x].filter (idIs d q) = [] by simp [hi], List.append_nil]
theorem KeptS.take {out s : List Crd} {j : Nat} {x y : Crd} (hs : Sd s) (h : KeptS out s (j + 1)) (hx : s[j + 1]? = some x) (hy : s[j]? = some y) (he : sameId x y = false) : KeptS (out ++ [x]) s (j + 2) := by
  have hlow : ∀ t z, t < j + 1 → s[t]? = some z → ¬ (z.d = x.d ∧ z.q = x.q) := fun t z ht hz hzx => by
    have h1 := sd_get hs (show j < j + 1 from Nat.lt_succ_self _) hy hx
    have h2 : bef y z = false := by
      rcases Nat.lt_or_ge t j with g | g
      · exact sd_get hs g hz hy
      · obtain rfl : t = j := by omega
        rw [hy] at hz; injection hz with hz; subst hz; exact bef_irrefl _
    have h3 : ¬ (x.d = y.d ∧ x.q = y.q) := fun e => by rw [same_id.2 e] at he; cases he
    unfold bef at h1 h2
    simp only [decide_eq_false_iff_not] at h1 h2
    omega
  refine ⟨?_, fun d q => ?_⟩
  · refine List.pairwise_append.2 ⟨h.sd, List.pairwise_singleton _ _, fun a ha b hb => ?_⟩
    rw [List.mem_singleton.1 hb]
    obtain ⟨t, ht, hta⟩ := h.mem ha
    exact sd_get hs (show t < j + 1 from ht) hta hx
  · rw [List.filter_append, h.one, take_snoc_of hx, List.filter_append]
    by_cases hi : idIs d q x = true
    · have hno : (s.take (j + 1)).filter (idIs d q) = [] := by
        rw [List.filter_eq_nil_iff]
        intro z hz hzi
        obtain ⟨t, ht⟩ := List.getElem?_of_mem hz
        rw [List.getElem?_take] at ht
        split at ht
        · rename_i hlt
          refine hlow t z hlt ht ?_
          unfold idIs at hi hzi
          simp only [decide_eq_true_eq] at hi hzi
          omega
        · cases ht
      rw [hno]
      simp [hi]
    · rw [show [x].filter (idIs d q) = [] by simp [hi], List.append_nil, List.append_nil]
theorem KeptS.one_ {s : List Crd} (h : s.length ≤ 1) : KeptS s s s.length := by
  match s, h with
  | [], _ => exact ⟨List.Pairwise.nil, fun _ _ => rfl⟩
  | [x], _ => exact ⟨List.pairwise_singleton _ _, fun d q => by simp only [List.length_singleton, List.take_succ_cons, List.take_zero]; by_cases h : idIs d q x = true <;> simp [h]⟩
theorem KeptS.first {s : List Crd} {x : Crd} (hx : s[0]? = some x) : KeptS (s.take 1) s 1 := by
  have e : s.take 1 = [x] := by
    have := take_snoc_of hx
    simpa using this
  rw [e]
  exact ⟨List.pairwise_singleton _ _, fun d q => by rw [e]; by_cases h : idIs d q x = true <;> simp [h]⟩
theorem KeptS.counts {out s all : List Crd} (h : KeptS out s s.length) (hs : SortOf s (all.filter mayC)) : CountsOf out all :=
  ⟨h.sd, fun d q => by rw [h.one, List.take_length, hs.2, List.filter_filter]⟩

/-! ### clear -/
theorem zero_credC : (Try.prog.info? 53).map (fun i => (i.zero, i.size, i.bytes)) = some (some (.agg Crd.zero.cells.toArray), 9, 120) := by kernel_rfl
/-- So many zero credentials. -/
def zers (n : Nat) : List Value := (Builtin.zeroCells Crd.zero.cells.toArray n).toList
theorem zers_len (n : Nat) : (zers n).length = n * 9 := by
  unfold zers
  rw [Array.length_toList, size_zeroCells]
  rfl
theorem zers_one (n : Nat) : ∀ v ∈ zers n, v.oneCell' = true := fun v hv => by
  unfold zers Builtin.zeroCells at hv
  rw [Array.toList_map, List.mem_map] at hv
  obtain ⟨i, _, rfl⟩ := hv
  have hlt : i % Crd.zero.cells.toArray.size < 9 := Nat.mod_lt _ (by decide)
  generalize i % Crd.zero.cells.toArray.size = k at hlt ⊢
  match k, hlt with
  | 0, _ | 1, _ | 2, _ | 3, _ | 4, _ | 5, _ | 6, _ | 7, _ | 8, _ => rfl
theorem wpList_clearC {ops : Array Oper} {rest : List Oper} {op : Oper} {a : Act} {w : World} {Q : Exit → Act → World → Prop} (hgd : op.guard = none) (x : Operand)
    (ho : op.op = .call { callee := .builtin .clear, args := #[x], argTypes := #[34] }) (b k n c : Nat) (hx : a.eval x = .slice (some ⟨b, k, none⟩) n c) (hn : 0 < n) (ht : w.there b k (n * 9))
    (h : wpList Try.prog ops Q rest (a.put op.dst (.tuple #[])) (w.setCells b k (zers n))) : wpList Try.prog ops Q (op :: rest) a w := by
  refine wpList_plain hgd fun _ hK => ?_
  obtain ⟨i0, hi0, hz0, hz1, hz2⟩ := info_parts zero_credC
  have hl := zers_len n
  have hst := run_storeCells_cells (P := Try.prog) b k (zers n) 0 w (fun j hj => by have := (ht j (by omega)).1; simpa using this) (fun j hj => by have := (ht j (by omega)).2; simpa using this) (zers_one n)
  simp only [Nat.add_zero] at hst
  unfold zers at hst
  have hv : (zeroValue 53).run Try.prog w = .ok (.agg Crd.zero.cells.toArray) w := by simp [zeroValue, typeInfo, hi0, hz0]
  have hrun : (Builtin.clear_ #[34] op.type #[.slice (some ⟨b, k, none⟩) n c]).run Try.prog w = .ok (.tuple #[]) (w.setCells b k (zers n)) := by
    obtain ⟨m, rfl⟩ : ∃ m, n = m + 1 := ⟨n - 1, by omega⟩
    simp [Builtin.clear_, run_underlying Try.underlying34, hv, Value.cells, hst, zers]
  unfold Oper.wp execOp
  simp only [ho, resolve, invoke, builtin, Sem.run_bind, Sem.run_pure, Result.andThen_ok, List.map_toArray, List.map_cons, List.map_nil, hx, hrun]
  exact hK _ _ h

/-! ### a row told as an own slice -/
theorem own_row {W : World} {B g n c : Nat} {tl : List Value} {l : List Crd} (hb : B ≤ g) (h : RowL W g tl l) (hn : l.length = n) (hc : n ≤ c) (hm : c ≤ maxLen) (hs : n * 9 + tl.length = c * 9) : OwnC W B (.slice (some ⟨g, 0, none⟩) n c) n l :=
  ⟨by rw [cv_length, hn], .inr ⟨g, c, _, rfl, hb, h, hc, hm, by rw [List.size_toArray, List.length_append, cv_length, hn]; exact hs, by
    rw [List.take_append_of_le_length (by rw [cv_length, hn]; exact Nat.le_refl _), List.take_of_length_le (by rw [cv_length, hn]; exact Nat.le_refl _)]⟩⟩
theorem OwnC.rowS {w : World} {B n c : Nat} {A : Option Addr} {l : List Crd} (h : OwnC w B (.slice A n c) n l) (hn : 0 < n) : ∃ g tl, A = some ⟨g, 0, none⟩ ∧ B ≤ g ∧ RowL w g tl l ∧ n ≤ c ∧ c ≤ maxLen ∧ n * 9 + tl.length = c * 9 := by
  have hl := h.len
  rcases h.2 with ⟨_, h0⟩ | ⟨g, cap, cur, hv, hb, hg, hc, hm, hs, ht⟩
  · omega
  · simp only [Value.slice.injEq, true_and] at hv
    obtain ⟨rfl, rfl⟩ := hv
    have e : cur = (cv l ++ cur.toList.drop (n * 9)).toArray := by rw [← ht, List.take_append_drop]
    refine ⟨g, cur.toList.drop (n * 9), rfl, hb, ?_, hc, hm, ?_⟩
    · show w.heap[g]? = _
      rw [← e]; exact hg
    · rw [List.length_drop, Array.length_toList, hs]
      have : n * 9 ≤ c * 9 := Nat.mul_le_mul_right 9 hc
      omega
theorem compact_nil (A : Option Addr) (c : Nat) (ev : Value) (w : World) : Calls Try.prog 45 #[.slice A 0 c, ev] w fun e w' => e = .returned (.slice A 0 c) ∧ w = w' := by
  go_enter Try.func45, Try.ntmps45
  go_wp2
  go_ret
  exact ⟨rfl, rfl⟩

/-- The inner loop: what is kept of the first k + i, where it lies, what is still as it was. -/
structure InC (s cur : List Crd) (k m i n : Nat) : Prop where
  len : cur.length = n
  lo : k ≤ m
  hi : m + 1 ≤ k + i
  top : k + i ≤ n
  rest : ∀ t, k + i ≤ t + 1 → cur[t]? = s[t]?
  kept : KeptS (cur.take m) s (k + i)
theorem InC.skip {s cur : List Crd} {k m i n : Nat} {x y : Crd} (h : InC s cur k m (i + 1) n) (hx : s[k + i + 1]? = some x) (hy : s[k + i]? = some y) (he : sameId x y = true) (hn : s.length = n) : InC s cur k m (i + 1 + 1) n :=
  ⟨h.len, h.lo, by have := h.hi; omega, by have := (List.getElem?_eq_some_iff.1 hx).1; omega, fun t ht => h.rest t (by omega), h.kept.skip hx hy he⟩
theorem InC.take {s cur : List Crd} {k m i n : Nat} {x y : Crd} (h : InC s cur k m (i + 1) n) (hs : Sd s) (hx : s[k + i + 1]? = some x) (hy : s[k + i]? = some y) (he : sameId x y = false) (hn : s.length = n) : InC s (cur.set m x) k (m + 1) (i + 1 + 1) n := by
  have h1 := (List.getElem?_eq_some_iff.1 hx).1
  have h2 := h.hi
  have h3 := h.len
  refine ⟨by rw [List.length_set]; exact h.len, by have := h.lo; omega, by omega, by omega, fun t ht => ?_, ?_⟩
  · rw [List.getElem?_set, if_neg (by omega)]
    exact h.rest t (by omega)
  · have e : (cur.set m x).take (m + 1) = cur.take m ++ [x] := by
      have : (cur.set m x)[m]? = some x := by rw [List.getElem?_set, if_pos rfl, if_pos (by omega)]
      rw [take_snoc_of this, List.take_set_of_le (Nat.le_refl _)]
    rw [e]
    exact h.kept.take hs hx hy he

/-- What CompactFunc tells. -/
def CompEnd (w0 w' : World) (B g c n : Nat) (tl : List Value) (s : List Crd) (e : Ending) : Prop :=
  ∃ m out tl', e = .returned (.slice (some ⟨g, 0, none⟩) m c) ∧ m ≤ n ∧ out.length = m ∧ KeptS out s n ∧ Rw w0 w' B g tl' out ∧ m * 9 + tl'.length = n * 9 + tl.length
theorem comp_row {w0 w : World} {B g m n rr : Nat} {tl : List Value} {cur : List Crd} (h : Rw w0 w B g tl cur) (hl : cur.length = n) (hm : m + rr = n) : Rw w0 (w.setCells g (m * 9) (zers rr)) B g (zers rr ++ tl) (cur.take m) := by
  refine ⟨?_, below_setCells h.hB _ _ _ h.bel, h.hB⟩
  have hr := h.row
  unfold RowL at hr ⊢
  have e : cv cur = cv (cur.take m) ++ cv (cur.drop m) := by rw [← cv_append, List.take_append_drop]
  have hP : (cv (cur.take m)).length = m * 9 := by rw [cv_length, List.length_take]; omega
  rw [e] at hr
  have := set_cells g 53 (zers rr) (cv (cur.drop m)) (cv (cur.take m)) tl w (by rw [cv_length, zers_len, List.length_drop]; omega) hr
  rw [hP] at this
  rw [this, List.append_assoc]
set_option maxHeartbeats 16000000 in
theorem compact_any {w0 w : World} {B g c : Nat} {tl : List Value} (s : List Crd) (n : Nat) (hn : s.length = n) (hNm : n ≤ 100000000) (hnc : n ≤ c) (hc63 : c ≤ 9223372036854775807) (hsd : Sd s) (h : Rw w0 w B g tl s) :
    Calls Try.prog 45 #[.slice (some ⟨g, 0, none⟩) n c, .func (.func 47) #[] #[]] w fun e w' => CompEnd w0 w' B g c n tl s e := by
  have HN := hid hn
  have HR := hid h
  have HSD := hid hsd
  clear hn h hsd
  by_cases h2 : n < 2
  · have h2' : (n : Int) < 2 := by omega
    go_enter Try.func45, Try.ntmps45
    go_wp2
    go_ret
    exact ⟨n, s, tl, rfl, Nat.le_refl _, HN.out, by have := KeptS.one_ (s := s) (by rw [HN.out]; omega); rwa [HN.out] at this, HR.out, rfl⟩
  have h2' : ¬ (n : Int) < 2 := by omega
  obtain ⟨z, hz⟩ : ∃ x, s[0]? = some x := ⟨_, List.getElem?_eq_getElem (by rw [HN.out]; omega)⟩
  have HK0 := hid (KeptS.first hz)
  clear hz
  go_enter Try.func45, Try.ntmps45
  go_wp2
  go_loopw [5] (fun v wr => ∃ k : Nat, v = .int .i64 k ∧ 1 ≤ k ∧ k ≤ n ∧ Rw w0 wr B g tl s ∧ Hid (KeptS (s.take k) s k)) (fun v _ => n - (intOf v).toNat)
  case atStart => exact ⟨1, rfl, Nat.le_refl _, by omega, HR.out, HK0⟩
  case round =>
    obtain ⟨k, rfl, hk1, hkn, R, HK⟩ := hrel
    by_cases hlt : k < n
    · have hlt' : (k : Int) < (n : Int) := by omega
      obtain ⟨p, hp⟩ : ∃ p, p + 1 = k := ⟨k - 1, by omega⟩
      have e1 : (k : Int) - 1 = (p : Int) := by omega
      have hpn : (p : Int) < (n : Int) := by omega
      have wk := wrap_in (k : Int) (by omega)
      have wp := wrap_in (p : Int) (by omega)
      have ak := addr_row g (k * 9)
      have ap := addr_row g (p * 9)
      obtain ⟨x, hx⟩ : ∃ x, s[k]? = some x := ⟨_, List.getElem?_eq_getElem (by rw [HN.out]; omega)⟩
      obtain ⟨y, hy⟩ : ∃ x, s[p]? = some x := ⟨_, List.getElem?_eq_getElem (by rw [HN.out]; omega)⟩
      obtain ⟨bb, hbb⟩ : ∃ b, sameId x y = b := ⟨_, rfl⟩
      have HEQ : Hid (∀ W, Calls Try.prog 47 #[.agg x.cells.toArray, .agg y.cells.toArray] W fun e w' => e = .returned (.bool bb) ∧ Below W.heap.size W w') := hid (fun W => hbb ▸ eqC_any x y W)
      have HX := hid hx
      have HY := hid hy
      have HB := hid hbb
      have HP := hid hp
      have HR1 := hid R.drew
      clear hx hy hbb hp R
      go_wp2_with fail
      refine wp_region_held_drew (S := (fun W => W.rangeAt g (k * 9) x.cells ∧ W.rangeAt g (p * 9) y.cells)) (by kernel_rfl) (⟨HR1.out.row.range HX.out, HR1.out.row.range HY.out⟩) (fun hHeld => ?_)
      refine wpAnyH_take (i := 0) (oi := ({ dst := some 18, op := Op.move (Operand.tmp 1), type := 79, pos := "slices.go:401", after := #[], guard := none } : Oper)) (v := (.func (.func 47) #[] #[])) rfl (by kernel_rfl) (by kernel_rfl) (by kernel_rfl) (fun _ _ _ h => h) (Or.inl ⟨by rfl, by intro w _; go_simp⟩) hHeld ?_
      simp only [Act.put, List.setIfInBounds_toArray, List.set_cons_zero, List.set_cons_succ]
      refine wpAnyH_take (i := 1) (oi := ({ dst := some 19, op := Op.move (Operand.tmp 0), type := 34, pos := "slices.go:401", after := #[], guard := none } : Oper)) (v := (.slice (some ⟨g, 0, none⟩) n c)) rfl (by kernel_rfl) (by kernel_rfl) (by kernel_rfl) (fun _ _ _ h => h) (Or.inl ⟨by rfl, by intro w _; go_simp⟩) hHeld ?_
      simp only [Act.put, List.setIfInBounds_toArray, List.set_cons_zero, List.set_cons_succ]
      refine wpAnyH_take (i := 2) (oi := ({ dst := some 20, op := Op.move (Operand.tmp 5), type := 3, pos := "slices.go:401", after := #[], guard := none } : Oper)) (v := (.int .i64 (k : Int))) rfl (by kernel_rfl) (by kernel_rfl) (by kernel_rfl) (fun _ _ _ h => h) (Or.inl ⟨by rfl, by intro w _; go_simp⟩) hHeld ?_
      simp only [Act.put, List.setIfInBounds_toArray, List.set_cons_zero, List.set_cons_succ]
      refine wpAnyH_take (i := 3) (oi := ({ dst := some 21, op := Op.indexAddr 34 (Operand.tmp 19) (Operand.tmp 20), type := 0, pos := "slices.go:401", after := #[{ on := 1, ground := Ground.data }, { on := 2, ground := Ground.data }], guard := none } : Oper)) (v := (.pointer (some ⟨g, k * 9, none⟩))) rfl (by kernel_rfl) (by kernel_rfl) (by kernel_rfl) (fun _ _ _ h => h) (Or.inl ⟨by rfl, by intro w _; go_simp⟩) hHeld ?_
      simp only [Act.put, List.setIfInBounds_toArray, List.set_cons_zero, List.set_cons_succ]
      refine wpAnyH_take (i := 4) (oi := ({ dst := some 22, op := Op.load 53 (Operand.tmp 21), type := 53, pos := "slices.go:401", after := #[{ on := 3, ground := Ground.data }], guard := none } : Oper)) (v := .agg x.cells.toArray) rfl (by kernel_rfl) (by kernel_rfl) (by kernel_rfl) (fun _ _ _ h => h) (yieldsIf_load_mid (by rfl) 53 (.tmp 21) rfl g (k * 9) rfl x.cells _ (fun _ h => h.1) Try.underlying53 rfl (info_credL _)) hHeld ?_
      simp only [Act.put, List.setIfInBounds_toArray, List.set_cons_zero, List.set_cons_succ]
      refine wpAnyH_take (i := 5) (oi := ({ dst := some 23, op := Op.move (Operand.tmp 0), type := 34, pos := "slices.go:401", after := #[], guard := none } : Oper)) (v := (.slice (some ⟨g, 0, none⟩) n c)) rfl (by kernel_rfl) (by kernel_rfl) (by kernel_rfl) (fun _ _ _ h => h) (Or.inl ⟨by rfl, by intro w _; go_simp⟩) hHeld ?_
      simp only [Act.put, List.setIfInBounds_toArray, List.set_cons_zero, List.set_cons_succ]
      refine wpAnyH_take (i := 6) (oi := ({ dst := some 24, op := Op.move (Operand.tmp 5), type := 3, pos := "slices.go:401", after := #[], guard := none } : Oper)) (v := (.int .i64 (k : Int))) rfl (by kernel_rfl) (by kernel_rfl) (by kernel_rfl) (fun _ _ _ h => h) (Or.inl ⟨by rfl, by intro w _; go_simp⟩) hHeld ?_
      simp only [Act.put, List.setIfInBounds_toArray, List.set_cons_zero, List.set_cons_succ]
      refine wpAnyH_take (i := 7) (oi := ({ dst := some 25, op := Op.binOp BinOp.sub 3 (Operand.tmp 24) (Operand.const (Value.int IntKind.i64 1)) 3, type := 3, pos := "slices.go:401", after := #[{ on := 6, ground := Ground.data }], guard := none } : Oper)) (v := (.int .i64 (p : Int))) rfl (by kernel_rfl) (by kernel_rfl) (by kernel_rfl) (fun _ _ _ h => h) (Or.inl ⟨by rfl, by intro w _; go_simp⟩) hHeld ?_
      simp only [Act.put, List.setIfInBounds_toArray, List.set_cons_zero, List.set_cons_succ]
      refine wpAnyH_take (i := 8) (oi := ({ dst := some 26, op := Op.indexAddr 34 (Operand.tmp 23) (Operand.tmp 25), type := 0, pos := "slices.go:401", after := #[{ on := 5, ground := Ground.data }, { on := 7, ground := Ground.data }], guard := none } : Oper)) (v := (.pointer (some ⟨g, p * 9, none⟩))) rfl (by kernel_rfl) (by kernel_rfl) (by kernel_rfl) (fun _ _ _ h => h) (Or.inl ⟨by rfl, by intro w _; go_simp⟩) hHeld ?_
      simp only [Act.put, List.setIfInBounds_toArray, List.set_cons_zero, List.set_cons_succ]
      refine wpAnyH_take (i := 9) (oi := ({ dst := some 27, op := Op.load 53 (Operand.tmp 26), type := 53, pos := "slices.go:401", after := #[{ on := 8, ground := Ground.data }], guard := none } : Oper)) (v := .agg y.cells.toArray) rfl (by kernel_rfl) (by kernel_rfl) (by kernel_rfl) (fun _ _ _ h => h) (yieldsIf_load_mid (by rfl) 53 (.tmp 26) rfl g (p * 9) rfl y.cells _ (fun _ h => h.2) Try.underlying53 rfl (info_credL _)) hHeld ?_
      simp only [Act.put, List.setIfInBounds_toArray, List.set_cons_zero, List.set_cons_succ]
      refine wpAnyH_ready (rs := [10]) (by kernel_rfl) (by simp) ?_
      refine AllReadyH.cons (o := ({ dst := some 28, op := Op.call { callee := Callee.value (Operand.tmp 18), args := #[Operand.tmp 22, Operand.tmp 27], argTypes := #[53, 53] }, type := 4, pos := "slices.go:401", after := #[{ on := 0, ground := Ground.data }, { on := 4, ground := Ground.data }, { on := 9, ground := Ground.data }], guard := none } : Oper)) rfl (fun K hK => ?_) AllReadyH.nil
      rw [if_pos (by rfl)]
      go_simp
      refine (HEQ.out _).mono ?_
      rintro er w2 ⟨rfl, bl⟩
      have HR2 := hid (HR1.out.kept bl)
      clear bl
      refine hK.out _ _ (⟨HR2.out.row.range HX.out, HR2.out.row.range HY.out⟩) (fun hHeld2 => ?_)
      clear hK K hHeld
      try simp only [Act.put, List.setIfInBounds_toArray, List.set_cons_zero, List.set_cons_succ]
      refine wpAnyH_done (by kernel_rfl) ?_ _
      clear hHeld2
      cases bb with
      | false =>
        have HK2 : Hid (KeptS (s.take (k + 1)) s (k + 1)) := hid (by
          have hk := HK.out
          have hx := HX.out
          have e : s.take (k + 1) = s.take k ++ [x] := take_snoc_of hx
          rw [e]
          rw [← HP.out] at hk hx ⊢
          exact hk.take HSD.out hx HY.out HB.out)
        go_wp2
        go_roundw
        case rel => exact ⟨k + 1, by go_num, by omega, by omega, HR2.out, HK2⟩
        case measure => simp [intOf]; omega
      | true =>
        have HI0 : Hid (InC s s k k 1 n) := hid ⟨HN.out, Nat.le_refl _, Nat.le_refl _, by omega, fun _ _ => rfl, by
          have hk := HK.out
          have hx := HX.out
          rw [← HP.out] at hk hx ⊢
          exact hk.skip hx HY.out HB.out⟩
        obtain ⟨r, hr⟩ : ∃ r, n - k = r := ⟨_, rfl⟩
        have hr' : (n : Int) - (k : Int) = (r : Int) := by omega
        have hck : ¬ c = k := by omega
        have hkc : (k : Int) ≤ (n : Int) := by omega
        have hnc' : (n : Int) ≤ (c : Int) := by omega
        have HRN := hid (show k + r = n by omega)
        clear HK
        go_wp2
        go_loopw [5, 7] (fun vm vi wi => ∃ (m i : Nat) (cur : List Crd), vm = .int .i64 m ∧ vi = .int .i64 ((i + 1 : Nat) : Int) ∧ m ≤ n ∧ i + 1 ≤ r ∧ Rw w0 wi B g tl cur ∧ Hid (InC s cur k m (i + 1) n)) (fun _ vi _ => n - (intOf vi).toNat)
        case atStart => exact ⟨k, 0, s, rfl, rfl, hkn, by omega, HR2.out, HI0⟩
        case round =>
          clear HI0 HR2 HR1
          obtain ⟨m, i, cur, rfl, rfl, hmn, hir, R, HI⟩ := hrel
          obtain ⟨i1, hi1⟩ : ∃ i1, i + 1 = i1 := ⟨_, rfl⟩
          have HI1 := hid hi1
          rw [hi1] at hir
          obtain ⟨cu, hcu⟩ : ∃ z : Int, ((i + 1 : Nat) : Int) = z := ⟨_, rfl⟩
          have hcu2 : cu = (i1 : Int) := by rw [← hcu, hi1]
          subst hcu2
          rw [hcu]
          have HCU := hid hcu
          clear hcu hi1
          by_cases hlt2 : i1 < r
          · have hlt2' : (i1 : Int) < (r : Int) := by omega
            obtain ⟨j, hj⟩ : ∃ j, k + i1 = j := ⟨_, rfl⟩
            obtain ⟨q, hq⟩ : ∃ q, k + i = q := ⟨_, rfl⟩
            have f1 : (i1 : Int) - 1 = (i : Int) := by have := HI1.out; omega
            have hiN : (i : Int) < (r : Int) := by have := HI1.out; omega
            have wi1 := wrap_in (i1 : Int) (by omega)
            have wi := wrap_in (i : Int) (by omega)
            have aj : k * 9 + i1 * 9 = j * 9 := by omega
            have aq : k * 9 + i * 9 = q * 9 := by omega
            have am := addr_row g (m * 9)
            have wm := wrap_in (m : Int) (by omega)
            have hmj : m + 1 ≤ j := by have := HI.out.hi; have := HI1.out; omega
            have hjn : j < n := by have := HRN.out; omega
            have hmn' : (m : Int) < (n : Int) := by omega
            have hcl := HI.out.len
            obtain ⟨x2, hx⟩ : ∃ x, cur[j]? = some x := ⟨_, List.getElem?_eq_getElem (by omega)⟩
            obtain ⟨y2, hy⟩ : ∃ x, cur[q]? = some x := ⟨_, List.getElem?_eq_getElem (by have := HI1.out; omega)⟩
            have hxs : s[k + i + 1]? = some x2 := by rw [← HI.out.rest _ (by omega), ← hx]; congr 1; have := HI1.out; omega
            have hys : s[k + i]? = some y2 := by rw [← HI.out.rest _ (by omega), ← hy]; congr 1
            obtain ⟨bb, hbb⟩ : ∃ b, sameId x2 y2 = b := ⟨_, rfl⟩
            have HEQ2 : Hid (∀ W, Calls Try.prog 47 #[.agg x2.cells.toArray, .agg y2.cells.toArray] W fun e w' => e = .returned (.bool bb) ∧ Below W.heap.size W w') := hid (fun W => hbb ▸ eqC_any x2 y2 W)
            have HX2 := hid hx
            have HY2 := hid hy
            have HXS := hid hxs
            have HYS := hid hys
            have HBB := hid hbb
            have HR1 := hid R.drew
            have HCL := hid hcl
            have HJ := hid hj
            clear hx hy hxs hys hbb R hcl hj hq
            go_wp2_with fail
            refine wp_region_held_drew (S := (fun W => W.rangeAt g (j * 9) x2.cells ∧ W.rangeAt g (q * 9) y2.cells)) (by kernel_rfl) (⟨HR1.out.row.range HX2.out, HR1.out.row.range HY2.out⟩) (fun hHeld => ?_)
            refine wpAnyH_take (i := 0) (oi := ({ dst := some 38, op := Op.move (Operand.tmp 1), type := 79, pos := "slices.go:404", after := #[], guard := none } : Oper)) (v := (.func (.func 47) #[] #[])) rfl (by kernel_rfl) (by kernel_rfl) (by kernel_rfl) (fun _ _ _ h => h) (Or.inl ⟨by rfl, by intro w _; go_simp⟩) hHeld ?_
            simp only [Act.put, List.setIfInBounds_toArray, List.set_cons_zero, List.set_cons_succ]
            refine wpAnyH_take (i := 1) (oi := ({ dst := some 39, op := Op.move (Operand.tmp 6), type := 34, pos := "slices.go:404", after := #[], guard := none } : Oper)) (v := (.slice (some ⟨g, k * 9, none⟩) r (c - k))) rfl (by kernel_rfl) (by kernel_rfl) (by kernel_rfl) (fun _ _ _ h => h) (Or.inl ⟨by rfl, by intro w _; go_simp⟩) hHeld ?_
            simp only [Act.put, List.setIfInBounds_toArray, List.set_cons_zero, List.set_cons_succ]
            refine wpAnyH_take (i := 2) (oi := ({ dst := some 40, op := Op.move (Operand.tmp 7), type := 3, pos := "slices.go:404", after := #[], guard := none } : Oper)) (v := (.int .i64 (i1 : Int))) rfl (by kernel_rfl) (by kernel_rfl) (by kernel_rfl) (fun _ _ _ h => h) (Or.inl ⟨by rfl, by intro w _; go_simp⟩) hHeld ?_
            simp only [Act.put, List.setIfInBounds_toArray, List.set_cons_zero, List.set_cons_succ]
            refine wpAnyH_take (i := 3) (oi := ({ dst := some 41, op := Op.indexAddr 34 (Operand.tmp 39) (Operand.tmp 40), type := 0, pos := "slices.go:404", after := #[{ on := 1, ground := Ground.data }, { on := 2, ground := Ground.data }], guard := none } : Oper)) (v := (.pointer (some ⟨g, j * 9, none⟩))) rfl (by kernel_rfl) (by kernel_rfl) (by kernel_rfl) (fun _ _ _ h => h) (Or.inl ⟨by rfl, by intro w _; go_simp⟩) hHeld ?_
            simp only [Act.put, List.setIfInBounds_toArray, List.set_cons_zero, List.set_cons_succ]
            refine wpAnyH_take (i := 4) (oi := ({ dst := some 42, op := Op.load 53 (Operand.tmp 41), type := 53, pos := "slices.go:404", after := #[{ on := 3, ground := Ground.data }], guard := none } : Oper)) (v := .agg x2.cells.toArray) rfl (by kernel_rfl) (by kernel_rfl) (by kernel_rfl) (fun _ _ _ h => h) (yieldsIf_load_mid (by rfl) 53 (.tmp 41) rfl g (j * 9) rfl x2.cells _ (fun _ h => h.1) Try.underlying53 rfl (info_credL _)) hHeld ?_
            simp only [Act.put, List.setIfInBounds_toArray, List.set_cons_zero, List.set_cons_succ]
            refine wpAnyH_take (i := 5) (oi := ({ dst := some 43, op := Op.move (Operand.tmp 6), type := 34, pos := "slices.go:404", after := #[], guard := none } : Oper)) (v := (.slice (some ⟨g, k * 9, none⟩) r (c - k))) rfl (by kernel_rfl) (by kernel_rfl) (by kernel_rfl) (fun _ _ _ h => h) (Or.inl ⟨by rfl, by intro w _; go_simp⟩) hHeld ?_
            simp only [Act.put, List.setIfInBounds_toArray, List.set_cons_zero, List.set_cons_succ]
            refine wpAnyH_take (i := 6) (oi := ({ dst := some 44, op := Op.move (Operand.tmp 7), type := 3, pos := "slices.go:404", after := #[], guard := none } : Oper)) (v := (.int .i64 (i1 : Int))) rfl (by kernel_rfl) (by kernel_rfl) (by kernel_rfl) (fun _ _ _ h => h) (Or.inl ⟨by rfl, by intro w _; go_simp⟩) hHeld ?_
            simp only [Act.put, List.setIfInBounds_toArray, List.set_cons_zero, List.set_cons_succ]
            refine wpAnyH_take (i := 7) (oi := ({ dst := some 45, op := Op.binOp BinOp.sub 3 (Operand.tmp 44) (Operand.const (Value.int IntKind.i64 1)) 3, type := 3, pos := "slices.go:404", after := #[{ on := 6, ground := Ground.data }], guard := none } : Oper)) (v := (.int .i64 (i : Int))) rfl (by kernel_rfl) (by kernel_rfl) (by kernel_rfl) (fun _ _ _ h => h) (Or.inl ⟨by rfl, by intro w _; go_simp⟩) hHeld ?_
            simp only [Act.put, List.setIfInBounds_toArray, List.set_cons_zero, List.set_cons_succ]
            refine wpAnyH_take (i := 8) (oi := ({ dst := some 46, op := Op.indexAddr 34 (Operand.tmp 43) (Operand.tmp 45), type := 0, pos := "slices.go:404", after := #[{ on := 5, ground := Ground.data }, { on := 7, ground := Ground.data }], guard := none } : Oper)) (v := (.pointer (some ⟨g, q * 9, none⟩))) rfl (by kernel_rfl) (by kernel_rfl) (by kernel_rfl) (fun _ _ _ h => h) (Or.inl ⟨by rfl, by intro w _; go_simp⟩) hHeld ?_
            simp only [Act.put, List.setIfInBounds_toArray, List.set_cons_zero, List.set_cons_succ]
            refine wpAnyH_take (i := 9) (oi := ({ dst := some 47, op := Op.load 53 (Operand.tmp 46), type := 53, pos := "slices.go:404", after := #[{ on := 8, ground := Ground.data }], guard := none } : Oper)) (v := .agg y2.cells.toArray) rfl (by kernel_rfl) (by kernel_rfl) (by kernel_rfl) (fun _ _ _ h => h) (yieldsIf_load_mid (by rfl) 53 (.tmp 46) rfl g (q * 9) rfl y2.cells _ (fun _ h => h.2) Try.underlying53 rfl (info_credL _)) hHeld ?_
            simp only [Act.put, List.setIfInBounds_toArray, List.set_cons_zero, List.set_cons_succ]
            refine wpAnyH_ready (rs := [10]) (by kernel_rfl) (by simp) ?_
            refine AllReadyH.cons (o := ({ dst := some 48, op := Op.call { callee := Callee.value (Operand.tmp 38), args := #[Operand.tmp 42, Operand.tmp 47], argTypes := #[53, 53] }, type := 4, pos := "slices.go:404", after := #[{ on := 0, ground := Ground.data }, { on := 4, ground := Ground.data }, { on := 9, ground := Ground.data }], guard := none } : Oper)) rfl (fun K hK => ?_) AllReadyH.nil
            rw [if_pos (by rfl)]
            go_simp
            refine (HEQ2.out _).mono ?_
            rintro er w3 ⟨rfl, bl⟩
            have HR3 := hid (HR1.out.kept bl)
            clear bl
            refine hK.out _ _ (⟨HR3.out.row.range HX2.out, HR3.out.row.range HY2.out⟩) (fun hHeld2 => ?_)
            clear hK K hHeld
            try simp only [Act.put, List.setIfInBounds_toArray, List.set_cons_zero, List.set_cons_succ]
            refine wpAnyH_take (i := 11) (oi := ({ dst := some 49, op := Op.unOp UnOp.not 4 (Operand.tmp 48), type := 4, pos := "slices.go:404", after := #[{ on := 10, ground := Ground.data }], guard := none } : Oper)) (v := (.bool (!bb))) rfl (by kernel_rfl) (by kernel_rfl) (by kernel_rfl) (fun _ _ _ h => h) (Or.inl ⟨by rfl, by intro w _; go_simp⟩) hHeld2 ?_
            simp only [Act.put, List.setIfInBounds_toArray, List.set_cons_zero, List.set_cons_succ]
            refine wpAnyH_done (by kernel_rfl) ?_ _
            clear hHeld2
            cases bb with
            | true =>
              have HI2 : Hid (InC s cur k m (i + 1 + 1) n) := hid (HI.out.skip HXS.out HYS.out HBB.out HN.out)
              have fi : (i1 : Int) + 1 = ((i + 1 + 1 : Nat) : Int) := by have := HI1.out; omega
              go_wp2
              go_roundw
              case rel => exact ⟨m, i + 1, cur, rfl, by first | rfl | rw [fi] | simp [fi], hmn, by have := HI1.out; omega, HR3.out, HI2⟩
              case measure => simp [intOf]; have := HI1.out; omega
            | false =>
              have HI2 : Hid (InC s (cur.set m x2) k (m + 1) (i + 1 + 1) n) := hid (HI.out.take HSD.out HXS.out HYS.out HBB.out HN.out)
              have fi : (i1 : Int) + 1 = ((i + 1 + 1 : Nat) : Int) := by have := HI1.out; omega
              have HR4 : Hid (Rw w0 (w3.setCells g (m * 9) x2.cells) B g tl (cur.set m x2)) := hid (HR3.out.set (by have := HCL.out; omega) x2)
              go_wp2_with (first
                | (with_reducible show wpList _ _ _ (Oper.mk (some 55) _ _ _ _ _ :: _) _ _; refine wpList_load_mid rfl 53 (.tmp 54) rfl g (j * 9) rfl x2.cells _ (HR3.out.row.range HX2.out) Try.underlying53 rfl (info_credL _) ?_)
                | (with_reducible show wpList _ _ _ (Oper.mk none (Op.store _ _ _) _ _ _ _ :: _) _ _; refine wpList_store_mid rfl 53 (.tmp 56) (.tmp 55) rfl g (m * 9) x2.cells.toArray rfl rfl (HR3.out.row.thereC (by have := HCL.out; omega) x2) (info_credC _) (one_credC _) ?_))
              go_roundw
              case rel => exact ⟨m + 1, i + 1, _, by go_num, by first | rfl | rw [fi] | go_num, by omega, by have := HI1.out; omega, HR4.out, HI2⟩
              case measure => simp [intOf]; have := HI1.out; omega
          · obtain rfl : i1 = r := by omega
            have hlt2' : ¬ (i1 : Int) < (i1 : Int) := by omega
            have hmlt : m < n := by have := HI.out.hi; have := HI1.out; have := HRN.out; omega
            obtain ⟨rr, hrr⟩ : ∃ rr, n - m = rr := ⟨_, rfl⟩
            have hcm : ¬ c = m := by omega
            have hm1 : (m : Int) ≤ (n : Int) := by omega
            have am := addr_row g (m * 9)
            have HRR := hid hrr
            have HTH : Hid (wr.there g (m * 9) (rr * 9)) := hid (fun t ht => ⟨by
              have e : m * 9 + t = (m + t / 9) * 9 + t % 9 := by omega
              have hl : m + t / 9 < cur.length := by rw [HI.out.len]; omega
              rw [e, R.row.cell (List.getElem?_eq_getElem hl) (i := t % 9) (List.getElem?_eq_getElem (by rw [cells_len]; omega))]
              rfl, R.row.f _⟩)
            go_wp2_with (with_reducible show wpList _ _ _ (Oper.mk none (Op.call _) _ _ _ _ :: _) _ _; refine wpList_clearC rfl (.tmp 61) rfl g (m * 9) rr (c - m) rfl (by omega) HTH.out ?_)
            go_ret
            refine ⟨m, cur.take m, zers rr ++ tl, rfl, by omega, by rw [List.length_take, HI.out.len]; omega, ?_, comp_row R HI.out.len (by have := HRR.out; omega), by rw [List.length_append, zers_len]; have := HRR.out; omega⟩
            have hk := HI.out.kept
            rwa [show k + (i + 1) = n by have := HI1.out; have := HRN.out; omega] at hk
    · obtain rfl : k = n := by omega
      have hlt' : ¬ (k : Int) < (k : Int) := by omega
      go_wp2
      go_ret
      exact ⟨k, s, tl, rfl, Nat.le_refl _, HN.out, by have := HK.out; rwa [List.take_of_length_le (by rw [HN.out]; exact Nat.le_refl _)] at this, R, rfl⟩

set_option maxHeartbeats 4000000 in
theorem counts_any (A : Option Addr) (all : List Crd) (n c : Nat) (hn : all.length = n) (hc : n ≤ c) (_hc2 : c ≤ 9223372036854775807) (hm : n ≤ 100000000) (w : World) (h : Crs w w.heap.size A all) :
    Calls Try.prog 40 #[.slice A n c] w fun e w' => ∃ A' n' c' out, e = .returned (.slice A' n' c') ∧ n' ≤ n ∧ OwnC w' w.heap.size (.slice A' n' c') n' out ∧ CountsOf out all ∧ Below w.heap.size w w' := by
  have HN := hid hn
  have HA := hid h
  clear hn h
  have hflen : ∀ k, ((all.take k).filter mayC).length ≤ k := fun k => by
    have h1 := List.length_filter_le mayC (all.take k)
    rw [List.length_take] at h1
    omega
  have HFL := hid hflen
  clear hflen
  go_enter Try.func40, Try.ntmps40
  go_wp2
  go_loopw [3, 8] (fun v i wr => ∃ (k no co : Nat) (Ao : Option Addr), v = .slice Ao no co ∧ i = .int .i64 k ∧ k ≤ n ∧ no ≤ k ∧ OwnC wr w.heap.size (.slice Ao no co) no ((all.take k).filter mayC) ∧ Below w.heap.size w wr) (fun _ i _ => n - (intOf i).toNat)
  case atStart => exact ⟨0, 0, 0, none, rfl, rfl, Nat.zero_le _, Nat.zero_le _, by simpa using OwnC.nil w w.heap.size, Below.refl _ _⟩
  case round =>
    obtain ⟨k, no, co, Ao, rfl, rfl, hk, hno, own, bel⟩ := hrel
    by_cases hlt : k < n
    · have hlt' : (k : Int) < (n : Int) := by omega
      have hk0 : (0 : Int) ≤ (k : Int) := Int.natCast_nonneg _
      obtain ⟨⟨d, q, nm, kd, wh, ao, an, bo, bn⟩, hx⟩ : ∃ x, all[k]? = some x := ⟨_, List.getElem?_eq_getElem (by rw [HN.out]; exact hlt)⟩
      obtain ⟨ad, ak, rfl, -, ea, -, a0, a1, a2, a3, a4, a5, a6, a7, a8⟩ := (HA.out.below bel).get hx
      obtain ⟨bb, hbb⟩ : ∃ b, mayC ⟨d, q, nm, kd, wh, ao, an, bo, bn⟩ = b := ⟨_, rfl⟩
      have HM := hid (fun W => hbb ▸ mayC_any ⟨d, q, nm, kd, wh, ao, an, bo, bn⟩ W)
      have HT : Hid ((all.take (k + 1)).filter mayC = (all.take k).filter mayC ++ if bb = true then [⟨d, q, nm, kd, wh, ao, an, bo, bn⟩] else []) := hid (by
        rw [take_snoc_of hx, List.filter_append]
        congr 1
        cases bb <;> simp [hbb])
      unfold Crd.cells at HM
      simp only at HM
      have HO := hid own
      have HB := hid bel
      obtain ⟨w1, hw1⟩ : ∃ w1, w1 = wr.alloc (.cells (Crd.cells ⟨d, q, nm, kd, wh, ao, an, bo, bn⟩).toArray 53) := ⟨_, rfl⟩
      have r1 : CrAt w1 wr.heap.size ⟨d, q, nm, kd, wh, ao, an, bo, bn⟩ := by rw [hw1]; exact CrAt.new wr _
      have R1 := hid r1
      have b1 : Below wr.heap.size wr w1 := by rw [hw1]; exact below_cr wr _
      have HB1 := hid (bel.trans (b1.mono bel.size))
      have HO1 := hid (OwnC.below own b1)
      unfold Crd.cells at hw1
      simp only at hw1
      clear hx hbb own bel b1 r1
      go_wp2_with fail
      rw [← hw1]
      clear hw1 a0 a1 a2 a3 a4 a5 a6 a7 a8
      refine (HM.out _).mono ?_
      rintro er w2 ⟨rfl, bl⟩
      have R2 := hid (R1.out.kept bl)
      have HB2 := hid (HB1.out.trans (bl.mono HB1.out.size))
      have HO2 := hid (OwnC.below HO1.out bl)
      clear bl
      cases bb with
      | false =>
        have HO3 : Hid (OwnC w2 w.heap.size (.slice Ao no co) no ((all.take (k + 1)).filter mayC)) := hid (by rw [HT.out]; simpa using HO2.out)
        go_wp2
        go_roundw
        case rel => exact ⟨k + 1, no, co, Ao, rfl, by go_num, by omega, by omega, HO3.out, HB2.out⟩
        case measure => simp [intOf]; omega
      | true =>
        obtain ⟨c0, c1, c2, c3, c4, c5, c6, c7, c8⟩ := R2.out.all
        have Q1 : Hid (no + 1 ≤ 1000000000000) := hid (by omega)
        go_wp2_with (at_builtin; refine wpList_appC rfl (.tmp 14) (.tmp 16) rfl w.heap.size (.slice Ao no co) no _ (OwnC.alloc HO2.out _) rfl (some ⟨w2.heap.size, 0, none⟩) 1 1 [⟨d, q, nm, kd, wh, ao, an, bo, bn⟩] rfl rfl (reads_cr w2 _ _ _) Q1.out (le_alloc HB2.out.size _) w (HB2.out.alloc HB2.out.size _) (no + 1) rfl ?_; intro A4 c4 w4 o4 _ b4 _; have HO4 := hid o4; have HB4 := hid b4; clear o4 b4)
        have HO5 : Hid (OwnC w4 w.heap.size (.slice A4 (no + 1) c4) (no + 1) ((all.take (k + 1)).filter mayC)) := hid (by rw [HT.out]; simpa using HO4.out)
        go_roundw
        case rel => exact ⟨k + 1, no + 1, c4, A4, rfl, by go_num, by omega, by omega, HO5.out, HB4.out⟩
        case measure => simp [intOf]; omega
    · obtain rfl : k = n := by omega
      have hlt' : ¬ (k : Int) < (k : Int) := by omega
      obtain ⟨val, hval⟩ : ∃ v, (all.take k).filter mayC = v := ⟨_, rfl⟩
      rw [hval] at own
      have HV : Hid (val = all.filter mayC) := hid (by rw [← hval, List.take_of_length_le (by rw [HN.out]; exact Nat.le_refl _)])
      have hlen := own.len
      obtain ⟨A9, c9, e9, k9, m9⟩ := own.slice
      simp only [Value.slice.injEq, true_and] at e9
      obtain ⟨rfl, rfl⟩ := e9
      have HC := hid (sorted_any Ao val no co hlen k9 m9 (by omega) wr own.crs)
      have HB := hid bel
      clear hval own hlen bel
      go_wp2_with fail
      refine HC.out.mono ?_
      rintro er w2 ⟨A2, c2, s, rfl, o2, s2, b2⟩
      have HB2 := hid (HB.out.trans (b2.mono HB.out.size))
      have HS := hid s2
      have HO2 := hid (o2.mono HB.out.size)
      clear b2 s2 o2
      by_cases h0 : no = 0
      · subst h0
        go_wp2_with fail
        refine (compact_nil _ _ _ _).mono ?_
        rintro er w3 ⟨rfl, rfl⟩
        go_wp2
        go_ret
        have hs0 : s = [] := List.eq_nil_of_length_eq_zero HO2.out.len
        have hsx := HS.out
        rw [HV.out, hs0] at hsx
        have hk0 : KeptS [] ([] : List Crd) ([] : List Crd).length := KeptS.one_ (by simp)
        exact ⟨_, 0, _, [], rfl, Nat.zero_le _, by rw [← hs0]; exact HO2.out, hk0.counts hsx, HB2.out⟩
      · obtain ⟨g, tl, rfl, hg, hrow, hnc, hcm, hsz⟩ := HO2.out.rowS (by omega)
        have hcm' := hcm
        unfold maxLen at hcm'
        have HW : Hid (Rw w w2 w.heap.size g tl s) := hid ⟨hrow, HB2.out, hg⟩
        have HCP := hid (compact_any s no HO2.out.len (by omega) hnc hcm' HS.out.1 HW.out)
        have HLN := hid HO2.out.len
        have HSZ := hid hsz
        have HCM := hid hcm
        clear hrow hsz hcm hcm'
        go_wp2_with fail
        refine HCP.out.mono ?_
        rintro er w3 ⟨m, out, tl', rfl, hmn, hol, hkp, R3, hsz3⟩
        have HR3 := hid R3
        have HKP := hid hkp
        have HOL := hid hol
        have HSZ3 := hid hsz3
        clear R3 hkp hol hsz3
        go_wp2
        go_ret
        refine ⟨_, m, _, out, rfl, by omega, own_row hg HR3.out.row HOL.out (by omega) HCM.out (by have := HSZ.out; have := HSZ3.out; omega), ?_, HR3.out.bel⟩
        have hkk := HKP.out
        rw [← HLN.out] at hkk
        exact hkk.counts (HV.out ▸ HS.out)
end Go.Proofs.Ytkimhdcngagmaaa.Sh
