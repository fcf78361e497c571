/-
  A row of elements in a block: one element written over, the rest cleared.
-/
import Derived.Test.YtaadmgbmaekicaaGreatDoorJn12
import Derived.Lib.LazyBuf
import Derived.Test.YtaadmgbmaekicaaGreatDoorJn33
set_option linter.unusedVariables false
set_option linter.unusedSimpArgs false
namespace Go.Proofs.YtaadmgbmaekicaaGreatDoor.Sh
open Go Go.RowKit

set_option linter.unusedSimpArgs false
set_option linter.unusedVariables false
/-- The elements l from the block's first cell on, tl behind them. -/
def RowE {α : Type} (E : Enc α) (T : TypeId) (w : World) (g : Nat) (tl : List Value) (l : List α) : Prop := w.heap[g]? = some (.cells (ev E l ++ tl).toArray T (0, 0))
theorem set_cellsE (g : Nat) (t : TypeId) : ∀ (vs us P Q : List Value) (w : World), us.length = vs.length → w.heap[g]? = some (.cells (P ++ us ++ Q).toArray t (0, 0)) → (w.setCells g P.length vs).heap[g]? = some (.cells (P ++ vs ++ Q).toArray t (0, 0))
  | [], us, P, Q, w, hl, h => by
    obtain rfl : us = [] := List.eq_nil_of_length_eq_zero hl
    exact h
  | v :: r, [], P, Q, w, hl, h => by simp at hl
  | v :: r, u :: s, P, Q, w, hl, h => by
    have h1 : (w.setCell ⟨g, P.length, none⟩ v).heap[g]? = some (.cells (P ++ [v] ++ s ++ Q).toArray t (0, 0)) := by
      rw [heap_setCell_same w g P.length _ _ v h]
      congr 2
      rw [List.setIfInBounds_toArray]
      congr 1
      simp
    have := set_cellsE g t r s (P ++ [v]) Q _ (by simpa using hl) h1
    rw [List.length_append, List.length_singleton] at this
    rw [World.setCells]
    rw [this]
    congr 2
    simp
section
variable {α : Type} {E : Enc α} {T : TypeId} {w : World} {g : Nat} {tl : List Value} {l : List α}
theorem RowE.lt (h : RowE E T w g tl l) : g < w.heap.size := (Array.getElem?_eq_some_iff.1 h).1
theorem RowE.f (h : RowE E T w g tl l) (j : Nat) : w.frozen? ⟨g, j, none⟩ = false := frozen_of_row w g j _ _ h
theorem RowE.cell (h : RowE E T w g tl l) {j i : Nat} {x : α} {u : Value} (hx : l[j]? = some x) (hi : i < E.k) (hu : (E.cells x)[i]? = some u) : w.cell? ⟨g, j * E.k + i, none⟩ = some u := by
  have h1 := ev_get E hx hi
  rw [hu] at h1
  have h2 := (List.getElem?_eq_some_iff.1 h1).1
  rw [cell_of_row _ _ _ _ _ (0, 0) h, List.getElem?_toArray, List.getElem?_append_left h2, h1]
theorem RowE.below {w' : World} (h : RowE E T w g tl l) (hb : Below w.heap.size w w') : RowE E T w' g tl l := (hb.block g h.lt).trans h
theorem RowE.els (h : RowE E T w g tl l) : Els E w w.heap.size (some ⟨g, 0, none⟩) l := fun hn => ⟨_, rfl, h.lt, fun i u hu => by
  have h2 := (List.getElem?_eq_some_iff.1 hu).1
  have e : (⟨g, 0, none⟩ : Addr).add i = ⟨g, i, none⟩ := by
    rcases Nat.eq_zero_or_pos i with e | e
    · subst e; rw [add_zero]
    · rw [add_pos _ i e]; simp
  rw [e, cell_of_row _ _ _ _ _ (0, 0) h, List.getElem?_toArray, List.getElem?_append_left h2, hu]⟩
theorem RowE.own {B n c : Nat} (h : RowE E T w g tl l) (hb : B ≤ g) (hn : l.length = n) (hc : n ≤ c) (hm : c ≤ maxLen) (hs : n * E.k + tl.length = c * E.k) : Own (E := E) w B T (.slice (some ⟨g, 0, none⟩) n c) l :=
  ⟨ev_length E l, .inr ⟨g, c, _, by rw [hn], hb, h, by rw [hn]; exact hc, hm, by rw [List.size_toArray, List.length_append, ev_length, hn]; exact hs, by
    rw [List.take_append_of_le_length (by rw [ev_length]; exact Nat.le_refl _), List.take_of_length_le (by rw [ev_length]; exact Nat.le_refl _)]⟩⟩
theorem Own.rowE {B n c : Nat} {A : Option Addr} (h : Own (E := E) w B T (.slice A n c) l) (hl : l.length = n) (hn : 0 < n) : ∃ g tl, A = some ⟨g, 0, none⟩ ∧ B ≤ g ∧ RowE E T w g tl l ∧ n ≤ c ∧ c ≤ maxLen ∧ n * E.k + tl.length = c * E.k := by
  rcases h.2 with ⟨_, h0⟩ | ⟨g, cap, cur, hv, hb, hg, hc, hm, hs, ht⟩
  · omega
  · simp only [Value.slice.injEq, true_and] at hv
    obtain ⟨rfl, rfl, rfl⟩ := hv
    have e : cur = (ev E l ++ cur.toList.drop (l.length * E.k)).toArray := by rw [← ht, List.take_append_drop]
    refine ⟨g, cur.toList.drop (l.length * E.k), rfl, hb, ?_, by omega, hm, ?_⟩
    · show w.heap[g]? = _
      rw [← e]; exact hg
    · have e9 : cur.toList.length = c * E.k := by rw [Array.length_toList]; exact hs
      have e8 : l.length * E.k ≤ c * E.k := Nat.mul_le_mul_right _ hc
      rw [List.length_drop, e9]
      omega
theorem ev_one_el (x : α) : ev E [x] = E.cells x := by simp [ev]
theorem RowE.put (h : RowE E T w g tl l) {a : Nat} (ha : a < l.length) (x : α) : RowE E T (w.setCells g (a * E.k) (E.cells x)) g tl (l.set a x) := by
  unfold RowE at h ⊢
  have e1 : l = l.take a ++ [l[a]] ++ l.drop (a + 1) := by
    rw [List.append_assoc, List.singleton_append, List.getElem_cons_drop, List.take_append_drop]
  have e2 : l.set a x = l.take a ++ [x] ++ l.drop (a + 1) := by
    rw [List.set_eq_take_append_cons_drop, if_pos ha, List.append_assoc, List.singleton_append]
  rw [e1, ev_append, ev_append, ev_one_el, List.append_assoc] at h
  rw [e2, ev_append, ev_append, ev_one_el, List.append_assoc]
  have := set_cellsE g T (E.cells x) (E.cells l[a]) (ev E (l.take a)) (ev E (l.drop (a + 1)) ++ tl) w (by rw [E.len, E.len]) h
  rwa [ev_length, List.length_take, Nat.min_eq_left (Nat.le_of_lt ha)] at this
theorem RowE.cut (h : RowE E T w g tl l) {m : Nat} (hm : m ≤ l.length) (zs : List Value) (hz : zs.length = (l.length - m) * E.k) : RowE E T (w.setCells g (m * E.k) zs) g (zs ++ tl) (l.take m) := by
  unfold RowE at h ⊢
  have e : ev E l = ev E (l.take m) ++ ev E (l.drop m) := by rw [← ev_append, List.take_append_drop]
  rw [e] at h
  have := set_cellsE g T zs (ev E (l.drop m)) (ev E (l.take m)) tl w (by rw [ev_length, List.length_drop, hz]) h
  rw [ev_length, List.length_take, Nat.min_eq_left hm] at this
  rw [this, List.append_assoc]
end
/-- A row of n elements l in a block from B on, below U, that may be written to. -/
structure RowN {α : Type} (E : Enc α) (T : TypeId) (w : World) (B U : Nat) (A : Option Addr) (n c : Nat) (l : List α) : Prop where
  len : l.length = n
  le : n ≤ c
  max : c ≤ 9223372036854775807
  row : 0 < n → ∃ g tl, A = some ⟨g, 0, none⟩ ∧ B ≤ g ∧ g < U ∧ RowE E T w g tl l
section
variable {α : Type} {E : Enc α} {T : TypeId} {w w' : World} {B U n c : Nat} {A : Option Addr} {l : List α}
theorem RowN.of_own (h : Own (E := E) w B T (.slice A n c) l) (hn : l.length = n) : RowN E T w B w.heap.size A n c l := by
  obtain ⟨A', c', e, h1, h2, _⟩ := h.els
  simp only [Value.slice.injEq] at e
  obtain ⟨rfl, e2, rfl⟩ := e
  refine ⟨hn, by omega, h2, fun h0 => ?_⟩
  obtain ⟨g, tl, e, hb, row, _, _, _⟩ := h.rowE hn h0
  exact ⟨g, tl, e, hb, row.lt, row⟩
theorem RowN.nil {A : Option Addr} : RowN E T w B U A 0 0 [] := ⟨rfl, Nat.le_refl _, by omega, fun h => absurd h (by omega)⟩
theorem RowN.kept (h : RowN E T w B U A n c l) (hk : ∀ b, B ≤ b → b < U → b < w.heap.size → w'.heap[b]? = w.heap[b]?) : RowN E T w' B U A n c l :=
  ⟨h.len, h.le, h.max, fun h0 => by
    obtain ⟨g, tl, e, h1, h2, h3⟩ := h.row h0
    exact ⟨g, tl, e, h1, h2, (hk g h1 h2 h3.lt).trans h3⟩⟩
theorem RowN.grew {X : Nat → Prop} (h : RowN E T w B U A n c l) (hg : Grew w w' X) (hx : ∀ b, B ≤ b → b < U → ¬ X b) : RowN E T w' B U A n c l := h.kept fun b h1 h2 h3 => hg.block b h3 (hx b h1 h2)
theorem RowN.below (h : RowN E T w B U A n c l) (hb : Below w.heap.size w w') : RowN E T w' B U A n c l := h.kept fun b _ _ h3 => hb.block b h3
theorem RowN.wide {B' U' : Nat} (h : RowN E T w B U A n c l) (h1 : B' ≤ B) (h2 : U ≤ U') : RowN E T w B' U' A n c l :=
  ⟨h.len, h.le, h.max, fun h0 => by
    obtain ⟨g, tl, e, k1, k2, h3⟩ := h.row h0
    exact ⟨g, tl, e, Nat.le_trans h1 k1, Nat.lt_of_lt_of_le k2 h2, h3⟩⟩
theorem RowN.elsQ {Q : Nat → Prop} (h : RowN E T w B U A n c l) (hQ : ∀ b, B ≤ b → b < U → Q b) : ElsQ E w Q A l := fun h0 => by
  obtain ⟨g, tl, e, h1, h2, h3⟩ := h.row (by rw [← h.len]; exact h0)
  subst e
  obtain ⟨ad, e2, hb, hc⟩ := h3.els h0
  obtain rfl := Option.some.inj e2
  exact ⟨_, rfl, hQ g h1 h2, hb, hc⟩
end
end Go.Proofs.YtaadmgbmaekicaaGreatDoor.Sh
/-
  The library's Clone at roles, IDs, caveats and bytes; Index and Contains at roles, by contract. Written by mk_tkpgd.py.
-/
namespace Go.Proofs.YtaadmgbmaekicaaGreatDoor.Sh
open Go Go.RowKit

set_option linter.unusedSimpArgs false
set_option linter.unusedVariables false
def encY : Enc UInt8 := ⟨1, fun x => [.int .u8 x.toNat], by omega, fun _ => rfl, fun x u hu => by simp at hu; rcases hu with rfl; rfl⟩
theorem ev_bytes (l : List UInt8) : ev encY l = bv l := by
  induction l with
  | nil => rfl
  | cons x t ih =>
    show encY.cells x ++ ev encY t = bv (x :: t)
    rw [ih]; rfl
theorem own_bytes {w : World} {B n c : Nat} {A : Option Addr} {l : List UInt8} (h : Own (E := encY) w B 5 (.slice A n c) l) (hn : l.length = n) : OwnB w B (.slice A n c) n l := by
  unfold Own at h
  unfold OwnB
  rw [ev_bytes, hn] at h
  exact h
theorem els_bytes {w : World} {B : Nat} {A : Option Addr} {l : List UInt8} (h : Byt w B A l) : Els encY w B A l := fun hn => by
  obtain ⟨ad, e, hb, hc⟩ := h (by simpa [ev_bytes, ev_length, encY] using hn)
  refine ⟨ad, e, hb, fun i u hu => ?_⟩
  rw [ev_bytes] at hu
  unfold bv at hu
  rw [List.getElem?_map, Option.map_eq_some_iff] at hu
  obtain ⟨x, hx, rfl⟩ := hu
  exact hc i x hx
theorem slkR : SlN Tryz.prog 23 69 2 32 := by
  obtain ⟨i0, hi0, hz0, hz1, hz2⟩ := info_parts (P := Tryz.prog) (e := 69) (z := .agg #[.string ⟨#[]⟩, .string ⟨#[]⟩]) (size := 2) (bytes := 32) (by kernel_rfl)
  exact ⟨Tryz.underlying23, ⟨i0, _, hi0, hz0, hz1, hz2, rfl⟩, by omega⟩
theorem eql_nilR (n c : Nat) (w : World) : (Go.binOp .eql 23 (.slice none n c) (.slice none 0 0)).run Tryz.prog w = .ok (.bool true) w := by kernel_rfl
theorem eql_someR (ad : Addr) (n c : Nat) (w : World) : (Go.binOp .eql 23 (.slice (some ad) n c) (.slice none 0 0)).run Tryz.prog w = .ok (.bool false) w := by kernel_rfl
theorem cloneR_made0 (w : World) (B : Nat) (hB : B ≤ w.heap.size) : Own (E := encR) (w.alloc (.cells #[] 69)) B 69 (.slice (some ⟨w.heap.size, 0, none⟩) 0 0) [] :=
  ⟨rfl, .inr ⟨w.heap.size, 0, #[], rfl, hB, heap_alloc_new w _, Nat.le_refl _, by unfold maxLen; omega, by simp, by simp [ev]⟩⟩
theorem cloneR_any (A : Option Addr) (l : List Ro) (n c : Nat) (hn : l.length = n) (hm : n ≤ 1000000000) (w : World) (h : Els encR w w.heap.size A l) :
    Calls Tryz.prog 56 #[.slice A n c] w fun e w' => ∃ A' c', e = .returned (.slice A' n c') ∧ Own (E := encR) w' w.heap.size 69 (.slice A' n c') l ∧ Below w.heap.size w w' := by
  rcases A with _ | ad
  · have hl : l = [] := by
      rcases Nat.eq_zero_or_pos l.length with h0 | h0
      · exact List.eq_nil_of_length_eq_zero h0
      · obtain ⟨ad, e, _⟩ := h h0; cases e
    subst hl
    obtain rfl : n = 0 := hn.symm
    have hq := eql_nilR
    clear h
    go_enter Tryz.func56, Tryz.ntmps56
    go_wp2_with fail
    go_ret
    exact ⟨none, 0, rfl, Own.nil _ _ _, Below.refl _ _⟩
  · have HN := hid hn
    have HB := hid ((Below.refl w.heap.size w).alloc (Nat.le_refl _) (.cells #[] 69))
    have HR := hid ((h.below HB.out).reads)
    have HO := hid (cloneR_made0 w w.heap.size (Nat.le_refl _))
    have hs : w.heap.size ≤ (w.alloc (.cells #[] 69)).heap.size := HB.out.size
    clear hn h
    have hq := eql_someR
    go_enter Tryz.func56, Tryz.ntmps56
    go_wp2_with (at_builtin; refine wpList_appL (E := encR) rfl slkR (.tmp 5) (.tmp 6) rfl (B := w.heap.size) (v := .slice (some ⟨w.heap.size, 0, none⟩) 0 0) (l := []) HO.out rfl (A := some ad) (m := n) (c := c) l rfl HN.out HR.out (by simp; omega) (by omega) hs ?_; intro A9 c9 w9 ho9 hg9 he9; simp only [List.nil_append, List.length_nil, Nat.zero_add] at ho9; simp only [List.length_nil, Nat.zero_add]; have HO9 := hid ho9; have HB9 := hid (HB.out.grown hg9 hs (fun g e => (HO.out.lt g e).1)); clear ho9 hg9 he9)
    go_ret
    exact ⟨A9, c9, rfl, HO9.out, HB9.out⟩
theorem slkI : SlN Tryz.prog 24 65 2 16 := by
  obtain ⟨i0, hi0, hz0, hz1, hz2⟩ := info_parts (P := Tryz.prog) (e := 65) (z := .agg #[.int .i64 0, .int .i64 0]) (size := 2) (bytes := 16) (by kernel_rfl)
  exact ⟨Tryz.underlying24, ⟨i0, _, hi0, hz0, hz1, hz2, rfl⟩, by omega⟩
theorem eql_nilI (n c : Nat) (w : World) : (Go.binOp .eql 24 (.slice none n c) (.slice none 0 0)).run Tryz.prog w = .ok (.bool true) w := by kernel_rfl
theorem eql_someI (ad : Addr) (n c : Nat) (w : World) : (Go.binOp .eql 24 (.slice (some ad) n c) (.slice none 0 0)).run Tryz.prog w = .ok (.bool false) w := by kernel_rfl
theorem cloneI_made0 (w : World) (B : Nat) (hB : B ≤ w.heap.size) : Own (E := encI) (w.alloc (.cells #[] 65)) B 65 (.slice (some ⟨w.heap.size, 0, none⟩) 0 0) [] :=
  ⟨rfl, .inr ⟨w.heap.size, 0, #[], rfl, hB, heap_alloc_new w _, Nat.le_refl _, by unfold maxLen; omega, by simp, by simp [ev]⟩⟩
theorem cloneI_any (A : Option Addr) (l : List (Int × Int)) (n c : Nat) (hn : l.length = n) (hm : n ≤ 1000000000) (w : World) (h : Els encI w w.heap.size A l) :
    Calls Tryz.prog 57 #[.slice A n c] w fun e w' => ∃ A' c', e = .returned (.slice A' n c') ∧ Own (E := encI) w' w.heap.size 65 (.slice A' n c') l ∧ Below w.heap.size w w' := by
  rcases A with _ | ad
  · have hl : l = [] := by
      rcases Nat.eq_zero_or_pos l.length with h0 | h0
      · exact List.eq_nil_of_length_eq_zero h0
      · obtain ⟨ad, e, _⟩ := h h0; cases e
    subst hl
    obtain rfl : n = 0 := hn.symm
    have hq := eql_nilI
    clear h
    go_enter Tryz.func57, Tryz.ntmps57
    go_wp2_with fail
    go_ret
    exact ⟨none, 0, rfl, Own.nil _ _ _, Below.refl _ _⟩
  · have HN := hid hn
    have HB := hid ((Below.refl w.heap.size w).alloc (Nat.le_refl _) (.cells #[] 65))
    have HR := hid ((h.below HB.out).reads)
    have HO := hid (cloneI_made0 w w.heap.size (Nat.le_refl _))
    have hs : w.heap.size ≤ (w.alloc (.cells #[] 65)).heap.size := HB.out.size
    clear hn h
    have hq := eql_someI
    go_enter Tryz.func57, Tryz.ntmps57
    go_wp2_with (at_builtin; refine wpList_appL (E := encI) rfl slkI (.tmp 5) (.tmp 6) rfl (B := w.heap.size) (v := .slice (some ⟨w.heap.size, 0, none⟩) 0 0) (l := []) HO.out rfl (A := some ad) (m := n) (c := c) l rfl HN.out HR.out (by simp; omega) (by omega) hs ?_; intro A9 c9 w9 ho9 hg9 he9; simp only [List.nil_append, List.length_nil, Nat.zero_add] at ho9; simp only [List.length_nil, Nat.zero_add]; have HO9 := hid ho9; have HB9 := hid (HB.out.grown hg9 hs (fun g e => (HO.out.lt g e).1)); clear ho9 hg9 he9)
    go_ret
    exact ⟨A9, c9, rfl, HO9.out, HB9.out⟩
theorem slkC : SlN Tryz.prog 25 51 4 56 := by
  obtain ⟨i0, hi0, hz0, hz1, hz2⟩ := info_parts (P := Tryz.prog) (e := 51) (z := .agg #[.int .i64 0, .slice none 0 0, .int .i64 0, .string ⟨#[]⟩]) (size := 4) (bytes := 56) (by kernel_rfl)
  exact ⟨Tryz.underlying25, ⟨i0, _, hi0, hz0, hz1, hz2, rfl⟩, by omega⟩
theorem eql_nilC (n c : Nat) (w : World) : (Go.binOp .eql 25 (.slice none n c) (.slice none 0 0)).run Tryz.prog w = .ok (.bool true) w := by kernel_rfl
theorem eql_someC (ad : Addr) (n c : Nat) (w : World) : (Go.binOp .eql 25 (.slice (some ad) n c) (.slice none 0 0)).run Tryz.prog w = .ok (.bool false) w := by kernel_rfl
theorem cloneC_made0 (w : World) (B : Nat) (hB : B ≤ w.heap.size) : Own (E := encC) (w.alloc (.cells #[] 51)) B 51 (.slice (some ⟨w.heap.size, 0, none⟩) 0 0) [] :=
  ⟨rfl, .inr ⟨w.heap.size, 0, #[], rfl, hB, heap_alloc_new w _, Nat.le_refl _, by unfold maxLen; omega, by simp, by simp [ev]⟩⟩
theorem cloneC_any (A : Option Addr) (l : List CH) (n c : Nat) (hn : l.length = n) (hm : n ≤ 1000000000) (w : World) (h : Els encC w w.heap.size A l) :
    Calls Tryz.prog 58 #[.slice A n c] w fun e w' => ∃ A' c', e = .returned (.slice A' n c') ∧ Own (E := encC) w' w.heap.size 51 (.slice A' n c') l ∧ Below w.heap.size w w' := by
  rcases A with _ | ad
  · have hl : l = [] := by
      rcases Nat.eq_zero_or_pos l.length with h0 | h0
      · exact List.eq_nil_of_length_eq_zero h0
      · obtain ⟨ad, e, _⟩ := h h0; cases e
    subst hl
    obtain rfl : n = 0 := hn.symm
    have hq := eql_nilC
    clear h
    go_enter Tryz.func58, Tryz.ntmps58
    go_wp2_with fail
    go_ret
    exact ⟨none, 0, rfl, Own.nil _ _ _, Below.refl _ _⟩
  · have HN := hid hn
    have HB := hid ((Below.refl w.heap.size w).alloc (Nat.le_refl _) (.cells #[] 51))
    have HR := hid ((h.below HB.out).reads)
    have HO := hid (cloneC_made0 w w.heap.size (Nat.le_refl _))
    have hs : w.heap.size ≤ (w.alloc (.cells #[] 51)).heap.size := HB.out.size
    clear hn h
    have hq := eql_someC
    go_enter Tryz.func58, Tryz.ntmps58
    go_wp2_with (at_builtin; refine wpList_appL (E := encC) rfl slkC (.tmp 5) (.tmp 6) rfl (B := w.heap.size) (v := .slice (some ⟨w.heap.size, 0, none⟩) 0 0) (l := []) HO.out rfl (A := some ad) (m := n) (c := c) l rfl HN.out HR.out (by simp; omega) (by omega) hs ?_; intro A9 c9 w9 ho9 hg9 he9; simp only [List.nil_append, List.length_nil, Nat.zero_add] at ho9; simp only [List.length_nil, Nat.zero_add]; have HO9 := hid ho9; have HB9 := hid (HB.out.grown hg9 hs (fun g e => (HO.out.lt g e).1)); clear ho9 hg9 he9)
    go_ret
    exact ⟨A9, c9, rfl, HO9.out, HB9.out⟩
theorem slkY : SlN Tryz.prog 22 5 1 1 := by
  obtain ⟨i0, hi0, hz0, hz1, hz2⟩ := info_parts (P := Tryz.prog) (e := 5) (z := .int .u8 0) (size := 1) (bytes := 1) (by kernel_rfl)
  exact ⟨Tryz.underlying22, ⟨i0, _, hi0, hz0, hz1, hz2, rfl⟩, by omega⟩
theorem eql_nilY (n c : Nat) (w : World) : (Go.binOp .eql 22 (.slice none n c) (.slice none 0 0)).run Tryz.prog w = .ok (.bool true) w := by kernel_rfl
theorem eql_someY (ad : Addr) (n c : Nat) (w : World) : (Go.binOp .eql 22 (.slice (some ad) n c) (.slice none 0 0)).run Tryz.prog w = .ok (.bool false) w := by kernel_rfl
theorem cloneY_made0 (w : World) (B : Nat) (hB : B ≤ w.heap.size) : Own (E := encY) (w.alloc (.cells #[] 5)) B 5 (.slice (some ⟨w.heap.size, 0, none⟩) 0 0) [] :=
  ⟨rfl, .inr ⟨w.heap.size, 0, #[], rfl, hB, heap_alloc_new w _, Nat.le_refl _, by unfold maxLen; omega, by simp, by simp [ev]⟩⟩
theorem cloneY_any (A : Option Addr) (l : List UInt8) (n c : Nat) (hn : l.length = n) (hm : n ≤ 1000000000) (w : World) (h : Els encY w w.heap.size A l) :
    Calls Tryz.prog 59 #[.slice A n c] w fun e w' => ∃ A' c', e = .returned (.slice A' n c') ∧ Own (E := encY) w' w.heap.size 5 (.slice A' n c') l ∧ Below w.heap.size w w' := by
  rcases A with _ | ad
  · have hl : l = [] := by
      rcases Nat.eq_zero_or_pos l.length with h0 | h0
      · exact List.eq_nil_of_length_eq_zero h0
      · obtain ⟨ad, e, _⟩ := h h0; cases e
    subst hl
    obtain rfl : n = 0 := hn.symm
    have hq := eql_nilY
    clear h
    go_enter Tryz.func59, Tryz.ntmps59
    go_wp2_with fail
    go_ret
    exact ⟨none, 0, rfl, Own.nil _ _ _, Below.refl _ _⟩
  · have HN := hid hn
    have HB := hid ((Below.refl w.heap.size w).alloc (Nat.le_refl _) (.cells #[] 5))
    have HR := hid ((h.below HB.out).reads)
    have HO := hid (cloneY_made0 w w.heap.size (Nat.le_refl _))
    have hs : w.heap.size ≤ (w.alloc (.cells #[] 5)).heap.size := HB.out.size
    clear hn h
    have hq := eql_someY
    go_enter Tryz.func59, Tryz.ntmps59
    go_wp2_with (at_builtin; refine wpList_appL (E := encY) rfl slkY (.tmp 5) (.tmp 6) rfl (B := w.heap.size) (v := .slice (some ⟨w.heap.size, 0, none⟩) 0 0) (l := []) HO.out rfl (A := some ad) (m := n) (c := c) l rfl HN.out HR.out (by simp; omega) (by omega) hs ?_; intro A9 c9 w9 ho9 hg9 he9; simp only [List.nil_append, List.length_nil, Nat.zero_add] at ho9; simp only [List.length_nil, Nat.zero_add]; have HO9 := hid ho9; have HB9 := hid (HB.out.grown hg9 hs (fun g e => (HO.out.lt g e).1)); clear ho9 hg9 he9)
    go_ret
    exact ⟨A9, c9, rfl, HO9.out, HB9.out⟩
theorem tlne {a b : ByteArray} (h : a ≠ b) : (a.toList == b.toList) = false := by
  rw [ByteArray.toList_eq, ByteArray.toList_eq]
  refine beq_false_of_ne (fun e => h ?_)
  obtain ⟨⟨x⟩⟩ := a
  obtain ⟨⟨y⟩⟩ := b
  simp at e
  rw [e]
open Classical in
set_option maxHeartbeats 8000000 in
theorem idxR_any (A : Option Addr) (l : List Ro) (n c : Nat) (hn : l.length = n) (hm : n ≤ 1000000000) (o s : ByteArray) (w : World) (h : Els encR w w.heap.size A l) :
    Calls Tryz.prog 117 #[.slice A n c, .agg #[.string o, .string s]] w fun e w' => ∃ i : Int, e = .returned (.int .i64 i) ∧ decide (0 ≤ i) = decide ((o, s) ∈ l) ∧ Below w.heap.size w w' := by
  have HN := hid hn
  have HY := hid (fun W (hW : Below w.heap.size w W) => h.below hW)
  obtain ⟨w0, hw0⟩ : ∃ w0, w0 = w.alloc (.cells #[.string o, .string s] 69) := ⟨_, rfl⟩
  have HR0 : Hid (RoleAt w0 w.heap.size o s) := hid (by rw [hw0]; exact RoleAt.new w o s)
  have HB0 : Hid (Below w.heap.size w w0) := hid (by rw [hw0]; exact below_box w o s)
  have HW0 := hid hw0
  clear hn h hw0
  go_enter Tryz.func117, Tryz.ntmps117
  go_upto_region 1 with fail
  rw [← HW0.out]
  go_wp2_with fail
  go_loopw [8] (fun i wr => ∃ j : Nat, j ≤ n ∧ i = .int .i64 j ∧ Hid ((o, s) ∉ l.take j) ∧ Hid (Below w0.heap.size w0 wr)) (fun i _ => n - (intOf i).toNat)
  case atStart => exact ⟨0, Nat.zero_le _, rfl, hid (by simp), hid (Below.refl _ _)⟩
  case round =>
    obtain ⟨j, hj, rfl, HNI, HB⟩ := hrel
    have HBW := hid (HB0.out.trans (HB.out.mono HB0.out.size))
    have d0 := (HR0.out.kept HB.out).c0
    have d1 := (HR0.out.kept HB.out).c1
    by_cases hlt : j < n
    · obtain ⟨y, hx⟩ : ∃ x, l[j]? = some x := ⟨_, List.getElem?_eq_getElem (by rw [HN.out]; exact hlt)⟩
      obtain ⟨ad, aj, rfl, -, ea, -, a0, a1⟩ := role_at2 (HY.out wr HBW.out) hx
      have hk0 : (0 : Int) ≤ (j : Int) := Int.natCast_nonneg _
      have hk1 : (j : Int) < (n : Int) := by omega
      have HX := hid hx
      clear hx
      obtain ⟨p1, p2⟩ := y
      simp only at a0 a1
      by_cases hv : ((o, s) : Ro) = (p1, p2)
      · have hT : Hid (decide ((0 : Int) ≤ (j : Int)) = decide ((o, s) ∈ l)) := hid (by rw [decide_eq_true hk0, decide_eq_true]; rw [hv]; exact List.mem_of_getElem? HX.out)
        obtain ⟨rfl, rfl⟩ := Prod.mk.inj hv
        go_wp2_with fail
        go_quiet (fail)
        go_wp2_with fail
        go_ret
        exact ⟨_, rfl, hT.out, below_drewN HBW.out _⟩
      · have hT : Hid ((o, s) ∉ l.take (j + 1)) := hid (by
          rw [take_snoc_of HX.out, List.mem_append, List.mem_singleton]
          rintro (h1 | h1)
          · exact HNI.out h1
          · exact hv h1)
        by_cases hp1 : o = p1
        · subst hp1
          have hp2 : (s.toList == p2.toList) = false := tlne (fun e => hv (by rw [e]))
          clear hv
          go_wp2_with fail
          go_quiet (fail)
          go_wp2_with fail
          go_roundw
          case rel => exact ⟨j + 1, by omega, by go_num, hT, hid (below_drewN HB.out _)⟩
          case measure => simp [intOf]; omega
        · have hp2 : (o.toList == p1.toList) = false := tlne hp1
          clear hv hp1
          go_wp2_with fail
          go_quiet (fail)
          go_wp2_with fail
          go_roundw
          case rel => exact ⟨j + 1, by omega, by go_num, hT, hid (below_drewN HB.out _)⟩
          case measure => simp [intOf]; omega
    · obtain rfl : j = n := by omega
      have hT : Hid (decide (0 ≤ (-1 : Int)) = decide ((o, s) ∈ l)) := hid (by
        have := HNI.out
        rw [List.take_of_length_le (by rw [HN.out]; exact Nat.le_refl _)] at this
        rw [decide_eq_false this]; rfl)
      go_wp2_with fail
      go_ret
      exact ⟨_, rfl, hT.out, HBW.out⟩
open Classical in
theorem conR_any (A : Option Addr) (l : List Ro) (n c : Nat) (hn : l.length = n) (hm : n ≤ 1000000000) (o s : ByteArray) (w : World) (h : Els encR w w.heap.size A l) :
    Calls Tryz.prog 82 #[.slice A n c, .agg #[.string o, .string s]] w fun e w' => e = .returned (.bool (decide ((o, s) ∈ l))) ∧ Below w.heap.size w w' := by
  obtain ⟨w0, hw0⟩ : ∃ w0, w0 = w.alloc (.cells #[.string o, .string s] 69) := ⟨_, rfl⟩
  have HR0 : Hid (RoleAt w0 w.heap.size o s) := hid (by rw [hw0]; exact RoleAt.new w o s)
  have hb0 : Below w.heap.size w w0 := by rw [hw0]; exact below_box w o s
  have HB0 := hid hb0
  have HC := hid (idxR_any A l n c hn hm o s w0 ((h.below hb0).more hb0.size))
  have HW0 := hid hw0
  have d0 := HR0.out.c0
  have d1 := HR0.out.c1
  clear hn hm h hw0 hb0
  go_enter Tryz.func82, Tryz.ntmps82
  go_upto_region 1 with fail
  rw [← HW0.out]
  go_wp2_with fail
  refine HC.out.mono ?_
  rintro er w2 ⟨i, rfl, hi, hb⟩
  have HI := hid hi
  have HB2 := hid (HB0.out.trans (hb.mono HB0.out.size))
  clear hi hb
  go_wp2_with fail
  go_ret
  exact ⟨by rw [← HI.out]; rfl, HB2.out⟩
end Go.Proofs.YtaadmgbmaekicaaGreatDoor.Sh
