/-
  The program's book: Until, by contract.
-/
import Derived.Test.YtkimhdcngagmaaaJa29
import Derived.Test.YtkimhdcngagmaaaJa7
import Derived.Lib.LazyBuf
set_option linter.unusedVariables false
set_option linter.unusedSimpArgs false
namespace Go.Proofs.Ytkimhdcngagmaaa.Sh
open Go Go.RowKit

set_option linter.unusedSimpArgs false
set_option linter.unusedVariables false
theorem LB.ends_snoc (b : LB) (l : List (Int × Int)) (x : Int × Int) : b.ends (l ++ [x]) = if x.1 = b.own then b.ends l else b.ends l ++ [(b.endP x).getD 0] := by
  unfold LB.ends
  rw [List.filter_append, List.map_append]
  by_cases h : x.1 = b.own <;> simp [h]
theorem all_bad {α : Type} {l : List α} {p : α → Bool} {x : α} (hx : x ∈ l) (hp : p x = false) : l.all p = false := by
  rw [Bool.eq_false_iff]
  intro h
  rw [List.all_eq_true.1 h x hx] at hp
  cases hp
theorem Els.intAt {w : World} {B : Nat} {A : Option Addr} {l : List Int} (h : Els encN w B A l) : IntAt w B A l := fun hn => by
  obtain ⟨ad, e, hb, hc⟩ := h hn
  refine ⟨ad, e, hb, fun j x hx => ?_⟩
  obtain ⟨ad2, e2, _, h2⟩ := h.num hx
  rw [e] at e2
  injection e2 with e2
  rw [e2]
  exact h2
set_option maxHeartbeats 8000000 in
theorem until_any {w : World} {P : Nat → Prop} {g k : Nat} {b : LB} (h : BookP w P g k b) (hle : ∀ d, (b.hl d).length ≤ 24) (A : Option Addr) (ids : List (Int × Int)) (n c : Nat) (hn : ids.length = n) (hnm : n ≤ 40) (hA : Els encI w w.heap.size A ids) (h64 : ∀ x ∈ ids, In64 x.1) (now : Int) :
    Calls Try.prog 14 #[.pointer (some ⟨g, 0, none⟩), .slice A n c, .int .i64 now] w fun e w' => e = .returned (.tuple #[.int .i64 (b.untilP ids now).1, .int .i64 (b.untilP ids now).2]) ∧ Below w.heap.size w w' := by
  obtain ⟨h1, h2, hb⟩ := h.e
  have c0 := hb.c0
  have hgl := hb.dom g hb.p0
  have HC := hid (fun W (hW : Below w.heap.size w W) => (hW.cell (p := ⟨g, 0, none⟩) hgl).trans c0)
  have HEN := hid (fun W (hW : Below w.heap.size w W) d q hd => end_any (h.below hW) hle d q hd)
  have HY := hid (fun W (hW : Below w.heap.size w W) => (hA.below hW).more hW.size)
  have HN := hid hn
  have H64 := hid h64
  have HOV := hid (fun u W => over_any now u W)
  have HU : Hid (b.untilP ids now = if ids.all (b.goodU now) = true then (leastT (b.ends ids), 0) else (0, 13)) := hid rfl
  have HG : Hid (∀ x, b.goodU now x = (decide (x.1 = b.own) || (match b.endP x with | some u => !overB now u | none => false))) := hid (fun _ => rfl)
  have HLS := hid (b.ends_snoc)
  have HB0 := hid (Below.refl w.heap.size w)
  obtain ⟨o, ho⟩ : ∃ o, b.own = o := ⟨_, rfl⟩
  rw [ho] at HC HG HLS
  clear h hb hle hA hn h64 c0 hgl ho
  go_enter Try.func14, Try.ntmps14
  go_wp2_with fail
  go_loopw [8, 15] (fun v i wr => ∃ (A : Option Addr) (m c k : Nat), v = .slice A m c ∧ i = .int .i64 (k : Int) ∧ k ≤ n ∧ m ≤ k ∧ Hid ((b.ends (ids.take k)).length = m) ∧ Hid (Own (E := encN) wr w.heap.size 3 (.slice A m c) (b.ends (ids.take k))) ∧ Hid ((ids.take k).all (b.goodU now) = true) ∧ Hid (Below w.heap.size w wr)) (fun _ i _ => n - (intOf i).toNat)
  case atStart => exact ⟨none, 0, 0, 0, rfl, rfl, Nat.zero_le _, Nat.le_refl _, hid rfl, hid (Own.nil _ _ _), hid rfl, HB0⟩
  case round =>
    obtain ⟨wj, hwj⟩ : ∃ x, x = wr := ⟨_, rfl⟩
    subst hwj
    obtain ⟨A6, m, c6, k, rfl, rfl, hk, hmk, HL, HO, HP, HB⟩ := hrel
    have hk0 : (0 : Int) ≤ (k : Int) := Int.natCast_nonneg _
    have hsj := HB.out.size
    by_cases hlt : k < n
    · obtain ⟨x, hx⟩ : ∃ x, ids[k]? = some x := ⟨_, List.getElem?_eq_getElem (by rw [HN.out]; exact hlt)⟩
      obtain ⟨ad, aj, hA, hab, ea, hbj, a0, a1⟩ := (HY.out wj HB.out).get hx
      subst hA
      have ea : ad.add (k * 2) = aj := ea
      have d0 := a0 _ rfl
      have d1 := a1 1 _ (by omega) rfl
      have HX := hid hx
      have HTK := hid (take_snoc_of hx)
      obtain ⟨xd, xq⟩ := x
      simp only at d0 d1
      have h64x : In64 xd := H64.out _ (List.mem_of_getElem? hx)
      have hk1 : (k : Int) < (n : Int) := by omega
      obtain ⟨w1, hw1⟩ : ∃ y, y = wj.alloc (.cells #[.int .i64 xd, .int .i64 xq] 49) := ⟨_, rfl⟩
      have hc1 : w1.heap[wj.heap.size]? = some (.cells #[.int .i64 xd, .int .i64 xq] 49 (0, 0)) := by rw [hw1]; exact heap_alloc_new wj _
      have HB1 : Hid (Below w.heap.size w w1) := hid (by rw [hw1]; exact HB.out.alloc HB.out.size _)
      have HO1 : Hid (Own (E := encN) w1 w.heap.size 3 (.slice A6 m c6) (b.ends (ids.take k))) := hid (by rw [hw1]; exact HO.out.alloc _)
      have e0 : w1.cell? ⟨wj.heap.size, 0, none⟩ = some (.int .i64 xd) := by rw [cell_of_row _ _ 0 _ _ (0, 0) hc1]; rfl
      have e1 : w1.cell? ⟨wj.heap.size, 1, none⟩ = some (.int .i64 xq) := by rw [cell_of_row _ _ 1 _ _ (0, 0) hc1]; rfl
      have c1 := HC.out w1 HB1.out
      have HW1 := hid hw1
      clear hx a0 a1 hab hbj hw1
      by_cases he : xd = o
      · have HT : Hid ((ids.take (k + 1)).all (b.goodU now) = true) := hid (by rw [HTK.out, List.all_append, HP.out, Bool.true_and, List.all_cons, HG.out]; simp [he])
        have HLT : Hid (b.ends (ids.take (k + 1)) = b.ends (ids.take k)) := hid (by rw [HTK.out, HLS.out, if_pos he])
        subst he
        clear hc1
        go_upto_region 5 with fail
        rw [← HW1.out]
        go_quiet (fail)
        go_wp2_with fail
        go_roundw
        case rel => exact ⟨A6, m, c6, k + 1, rfl, by go_num, by omega, by omega, hid (by rw [HLT.out]; exact HL.out), hid (by rw [HLT.out]; exact HO1.out.below (below_drewN (Below.refl _ _) _)), HT, hid (below_drewN HB1.out _)⟩
        case measure => simp [intOf]; omega
      · have h1 : (xd == o) = false := beq_eq_false_iff_ne.2 he
        have HLT : Hid (b.ends (ids.take (k + 1)) = b.ends (ids.take k) ++ [(b.endP (xd, xq)).getD 0]) := hid (by rw [HTK.out, HLS.out, if_neg he])
        have HGX : Hid (b.goodU now (xd, xq) = (match b.endP (xd, xq) with | some u => !overB now u | none => false)) := hid (by rw [HG.out]; simp [he])
        have HCE := hid (fun W (hW : Below w.heap.size w W) => HEN.out W hW xd xq h64x)
        obtain ⟨ee, hee⟩ : ∃ z, b.endP (xd, xq) = z := ⟨_, rfl⟩
        rw [hee] at HLT HGX HCE
        have HC1 := hid hc1
        clear hee hc1
        go_upto_region 5 with fail
        rw [← HW1.out]
        go_quiet (fail)
        go_wp2_with fail
        refine (HCE.out _ (below_drewN HB1.out _)).mono ?_
        rintro er w3 ⟨rfl, b3⟩
        have b3' : Below w1.heap.size w1 w3 := (below_drewN (Below.refl w1.heap.size w1) _).trans b3
        have HB3 := hid (HB1.out.trans (b3'.mono HB1.out.size))
        have HO3 := hid (HO1.out.below b3')
        clear b3'
        clear e0 e1 c1 b3
        cases ee with
        | none =>
          have HE : Hid (b.untilP ids now = (0, 13)) := hid (by rw [HU.out, if_neg (by rw [all_bad (List.mem_of_getElem? HX.out) HGX.out]; simp)])
          simp only [Option.getD_none, Option.isSome_none]
          go_wp2_with fail
          go_ret2
          exact ⟨by rw [HE.out]; rfl, HB3.out⟩
        | some u =>
          simp only [Option.getD_some, Option.isSome_some] at HLT HGX ⊢
          have HOC := hid (HOV.out u w3)
          have HOB : Hid (decide (tk u ≤ tk now) = overB now u) := hid rfl
          rw [HOB.out] at HOC
          cases ho : overB now u
          · rw [ho] at HOC HGX
            have HT : Hid ((ids.take (k + 1)).all (b.goodU now) = true) := hid (by rw [HTK.out, List.all_append, HP.out, Bool.true_and, List.all_cons, HGX.out]; rfl)
            obtain ⟨fl, hfll⟩ : ∃ fl, b.ends (ids.take k) = fl := ⟨_, rfl⟩
            rw [hfll] at HL HO3 HLT
            have hfl : fl.length ≤ 1000000000000 := by rw [HL.out]; omega
            have HOA := hid (HO3.out.alloc (.cells #[.int .i64 u] 3))
            have HRD := hid (reads_new w3 #[.int .i64 u] 3 (0, 0))
            have HBA := hid (HB3.out.alloc HB3.out.size (.cells #[.int .i64 u] 3))
            have hbs : w.heap.size ≤ (w3.alloc (.cells #[.int .i64 u] 3)).heap.size := HBA.out.size
            clear ho HOB hfll HO1 HO
            go_wp2_with fail
            refine HOC.out.mono ?_
            rintro er w4 ⟨rfl, hw⟩
            have hw4 : w3 = w4 := hw
            subst hw4
            go_wp2_with (first | (at_builtin; refine wpList_app1 (E := encN) rfl slN (.tmp 39) (.tmp 41) rfl (B := w.heap.size) (v := .slice A6 m c6) (l := fl) HOA.out rfl (ad := ⟨w3.heap.size, 0, none⟩) (c := 1) u rfl HRD.out hfl (by omega) hbs ?_; intro A9 c9 w9 ho9 hg9 he9; have HO9 := hid ho9; have HB9 := hid (HBA.out.grown hg9 hbs (fun g e => (World.ownsRow.lt HOA.out g e).1)); clear ho9 hg9 he9) | go_in)
            rw [HL.out] at HO9 ⊢
            go_roundw
            case rel => exact ⟨A9, m + 1, c9, k + 1, rfl, by go_num, by omega, by omega, hid (by rw [HLT.out, List.length_append, HL.out]; rfl), hid (by rw [HLT.out]; exact HO9.out), HT, HB9⟩
            case measure => simp [intOf]; omega
          · rw [ho] at HOC HGX
            have HE : Hid (b.untilP ids now = (0, 13)) := hid (by rw [HU.out, if_neg (by rw [all_bad (List.mem_of_getElem? HX.out) (by rw [HGX.out]; rfl)]; simp)])
            clear ho HOB
            go_wp2_with fail
            refine HOC.out.mono ?_
            rintro er w4 ⟨rfl, hw⟩
            have hw4 : w3 = w4 := hw
            subst hw4
            go_wp2_with fail
            go_ret2
            exact ⟨by rw [HE.out]; rfl, HB3.out⟩
    · obtain rfl : k = n := by omega
      have HT : Hid (ids.take k = ids) := hid (List.take_of_length_le (by rw [HN.out]; exact Nat.le_refl _))
      rw [HT.out] at HP HL HO
      have HE : Hid (b.untilP ids now = (leastT (b.ends ids), 0)) := hid (by rw [HU.out, if_pos HP.out])
      have HLA := hid (least_any A6 (b.ends ids) m c6 HL.out (by omega) wj (Els.intAt ((show Own (E := encN) wj w.heap.size 3 (.slice A6 (b.ends ids).length c6) (b.ends ids) from by rw [HL.out]; exact HO.out) |> own_els)))
      go_wp2_with fail
      refine HLA.out.mono ?_
      rintro er w2 ⟨rfl, hw⟩
      have hw2 : wj = w2 := hw
      subst hw2
      go_wp2_with fail
      go_ret2
      exact ⟨by rw [HE.out]; rfl, HB.out⟩
end Go.Proofs.Ytkimhdcngagmaaa.Sh
/-
  A row of elements in a block: one element written over, the rest cleared.
-/
namespace Go.Proofs.Ytkimhdcngagmaaa.Sh
open Go Go.RowKit

set_option linter.unusedSimpArgs false
set_option linter.unusedVariables false
/-- The elements l from the block's first cell on, tl behind them. -/
def RowE {α : Type} (E : Enc α) (T : TypeId) (w : World) (g : Nat) (tl : List Value) (l : List α) : Prop := w.heap[g]? = some (.cells (ev E l ++ tl).toArray T (0, 0))
theorem set_cellsE (g : Nat) (t : TypeId) : ∀ (vs us P Q : List Value) (w : World), us.length = vs.length → w.heap[g]? = some (.cells (P ++ us ++ Q).toArray t (0, 0)) → (w.setCells g P.length vs).heap[g]? = some (.cells (P ++ vs ++ Q).toArray t (0, 0))
  | [], us, P, Q, w, hl, h => by
    obtain rfl : us = [] := List.eq_nil_of_length_eq_zero hl
    exact h
  | v :: r, [], P, Q, w, hl, h => by simp at hl
  | v :: r, u :: s, P, Q, w, hl, h => by
    have h1 : (w.setCell ⟨g, P.length, none⟩ v).heap[g]? = some (.cells (P ++ [v] ++ s ++ Q).toArray t (0, 0)) := by
      rw [heap_setCell_same w g P.length _ _ v h]
      congr 2
      rw [List.setIfInBounds_toArray]
      congr 1
      simp
    have := set_cellsE g t r s (P ++ [v]) Q _ (by simpa using hl) h1
    rw [List.length_append, List.length_singleton] at this
    rw [World.setCells]
    rw [this]
    congr 2
    simp
section
variable {α : Type} {E : Enc α} {T : TypeId} {w : World} {g : Nat} {tl : List Value} {l : List α}
theorem RowE.lt (h : RowE E T w g tl l) : g < w.heap.size := (Array.getElem?_eq_some_iff.1 h).1
theorem RowE.f (h : RowE E T w g tl l) (j : Nat) : w.frozen? ⟨g, j, none⟩ = false := frozen_of_row w g j _ _ h
theorem RowE.cell (h : RowE E T w g tl l) {j i : Nat} {x : α} {u : Value} (hx : l[j]? = some x) (hi : i < E.k) (hu : (E.cells x)[i]? = some u) : w.cell? ⟨g, j * E.k + i, none⟩ = some u := by
  have h1 := ev_get E hx hi
  rw [hu] at h1
  have h2 := (List.getElem?_eq_some_iff.1 h1).1
  rw [cell_of_row _ _ _ _ _ (0, 0) h, List.getElem?_toArray, List.getElem?_append_left h2, h1]
theorem RowE.below {w' : World} (h : RowE E T w g tl l) (hb : Below w.heap.size w w') : RowE E T w' g tl l := (hb.block g h.lt).trans h
theorem RowE.els (h : RowE E T w g tl l) : Els E w w.heap.size (some ⟨g, 0, none⟩) l := fun hn => ⟨_, rfl, h.lt, fun i u hu => by
  have h2 := (List.getElem?_eq_some_iff.1 hu).1
  have e : (⟨g, 0, none⟩ : Addr).add i = ⟨g, i, none⟩ := by
    rcases Nat.eq_zero_or_pos i with e | e
    · subst e; rw [add_zero]
    · rw [add_pos _ i e]; simp
  rw [e, cell_of_row _ _ _ _ _ (0, 0) h, List.getElem?_toArray, List.getElem?_append_left h2, hu]⟩
theorem RowE.own {B n c : Nat} (h : RowE E T w g tl l) (hb : B ≤ g) (hn : l.length = n) (hc : n ≤ c) (hm : c ≤ maxLen) (hs : n * E.k + tl.length = c * E.k) : Own (E := E) w B T (.slice (some ⟨g, 0, none⟩) n c) l :=
  ⟨ev_length E l, .inr ⟨g, c, _, by rw [hn], hb, h, by rw [hn]; exact hc, hm, by rw [List.size_toArray, List.length_append, ev_length, hn]; exact hs, by
    rw [List.take_append_of_le_length (by rw [ev_length]; exact Nat.le_refl _), List.take_of_length_le (by rw [ev_length]; exact Nat.le_refl _)]⟩⟩
theorem Own.rowE {B n c : Nat} {A : Option Addr} (h : Own (E := E) w B T (.slice A n c) l) (hl : l.length = n) (hn : 0 < n) : ∃ g tl, A = some ⟨g, 0, none⟩ ∧ B ≤ g ∧ RowE E T w g tl l ∧ n ≤ c ∧ c ≤ maxLen ∧ n * E.k + tl.length = c * E.k := by
  rcases h.2 with ⟨_, h0⟩ | ⟨g, cap, cur, hv, hb, hg, hc, hm, hs, ht⟩
  · omega
  · simp only [Value.slice.injEq, true_and] at hv
    obtain ⟨rfl, rfl, rfl⟩ := hv
    have e : cur = (ev E l ++ cur.toList.drop (l.length * E.k)).toArray := by rw [← ht, List.take_append_drop]
    refine ⟨g, cur.toList.drop (l.length * E.k), rfl, hb, ?_, by omega, hm, ?_⟩
    · show w.heap[g]? = _
      rw [← e]; exact hg
    · have e9 : cur.toList.length = c * E.k := by rw [Array.length_toList]; exact hs
      have e8 : l.length * E.k ≤ c * E.k := Nat.mul_le_mul_right _ hc
      rw [List.length_drop, e9]
      omega
theorem ev_one_el (x : α) : ev E [x] = E.cells x := by simp [ev]
theorem RowE.put (h : RowE E T w g tl l) {a : Nat} (ha : a < l.length) (x : α) : RowE E T (w.setCells g (a * E.k) (E.cells x)) g tl (l.set a x) := by
  unfold RowE at h ⊢
  have e1 : l = l.take a ++ [l[a]] ++ l.drop (a + 1) := by
    rw [List.append_assoc, List.singleton_append, List.getElem_cons_drop, List.take_append_drop]
  have e2 : l.set a x = l.take a ++ [x] ++ l.drop (a + 1) := by
    rw [List.set_eq_take_append_cons_drop, if_pos ha, List.append_assoc, List.singleton_append]
  rw [e1, ev_append, ev_append, ev_one_el, List.append_assoc] at h
  rw [e2, ev_append, ev_append, ev_one_el, List.append_assoc]
  have := set_cellsE g T (E.cells x) (E.cells l[a]) (ev E (l.take a)) (ev E (l.drop (a + 1)) ++ tl) w (by rw [E.len, E.len]) h
  rwa [ev_length, List.length_take, Nat.min_eq_left (Nat.le_of_lt ha)] at this
theorem RowE.cut (h : RowE E T w g tl l) {m : Nat} (hm : m ≤ l.length) (zs : List Value) (hz : zs.length = (l.length - m) * E.k) : RowE E T (w.setCells g (m * E.k) zs) g (zs ++ tl) (l.take m) := by
  unfold RowE at h ⊢
  have e : ev E l = ev E (l.take m) ++ ev E (l.drop m) := by rw [← ev_append, List.take_append_drop]
  rw [e] at h
  have := set_cellsE g T zs (ev E (l.drop m)) (ev E (l.take m)) tl w (by rw [ev_length, List.length_drop, hz]) h
  rw [ev_length, List.length_take, Nat.min_eq_left hm] at this
  rw [this, List.append_assoc]
end
/-- A row of n elements l in a block from B on, below U, that may be written to. -/
structure RowN {α : Type} (E : Enc α) (T : TypeId) (w : World) (B U : Nat) (A : Option Addr) (n c : Nat) (l : List α) : Prop where
  len : l.length = n
  le : n ≤ c
  max : c ≤ 9223372036854775807
  row : 0 < n → ∃ g tl, A = some ⟨g, 0, none⟩ ∧ B ≤ g ∧ g < U ∧ RowE E T w g tl l
section
variable {α : Type} {E : Enc α} {T : TypeId} {w w' : World} {B U n c : Nat} {A : Option Addr} {l : List α}
theorem RowN.of_own (h : Own (E := E) w B T (.slice A n c) l) (hn : l.length = n) : RowN E T w B w.heap.size A n c l := by
  obtain ⟨A', c', e, h1, h2, _⟩ := h.els
  simp only [Value.slice.injEq] at e
  obtain ⟨rfl, e2, rfl⟩ := e
  refine ⟨hn, by omega, h2, fun h0 => ?_⟩
  obtain ⟨g, tl, e, hb, row, _, _, _⟩ := h.rowE hn h0
  exact ⟨g, tl, e, hb, row.lt, row⟩
theorem RowN.nil {A : Option Addr} : RowN E T w B U A 0 0 [] := ⟨rfl, Nat.le_refl _, by omega, fun h => absurd h (by omega)⟩
theorem RowN.kept (h : RowN E T w B U A n c l) (hk : ∀ b, B ≤ b → b < U → b < w.heap.size → w'.heap[b]? = w.heap[b]?) : RowN E T w' B U A n c l :=
  ⟨h.len, h.le, h.max, fun h0 => by
    obtain ⟨g, tl, e, h1, h2, h3⟩ := h.row h0
    exact ⟨g, tl, e, h1, h2, (hk g h1 h2 h3.lt).trans h3⟩⟩
theorem RowN.grew {X : Nat → Prop} (h : RowN E T w B U A n c l) (hg : Grew w w' X) (hx : ∀ b, B ≤ b → b < U → ¬ X b) : RowN E T w' B U A n c l := h.kept fun b h1 h2 h3 => hg.block b h3 (hx b h1 h2)
theorem RowN.below (h : RowN E T w B U A n c l) (hb : Below w.heap.size w w') : RowN E T w' B U A n c l := h.kept fun b _ _ h3 => hb.block b h3
theorem RowN.wide {B' U' : Nat} (h : RowN E T w B U A n c l) (h1 : B' ≤ B) (h2 : U ≤ U') : RowN E T w B' U' A n c l :=
  ⟨h.len, h.le, h.max, fun h0 => by
    obtain ⟨g, tl, e, k1, k2, h3⟩ := h.row h0
    exact ⟨g, tl, e, Nat.le_trans h1 k1, Nat.lt_of_lt_of_le k2 h2, h3⟩⟩
theorem RowN.elsQ {Q : Nat → Prop} (h : RowN E T w B U A n c l) (hQ : ∀ b, B ≤ b → b < U → Q b) : ElsQ E w Q A l := fun h0 => by
  obtain ⟨g, tl, e, h1, h2, h3⟩ := h.row (by rw [← h.len]; exact h0)
  subst e
  obtain ⟨ad, e2, hb, hc⟩ := h3.els h0
  obtain rfl := Option.some.inj e2
  exact ⟨_, rfl, hQ g h1 h2, hb, hc⟩
end
end Go.Proofs.Ytkimhdcngagmaaa.Sh
