/-
  The program's book: Fresh, Stale, by contract.
-/
import Derived.Test.YtkimhdcngagmaaaJa13
import Derived.Test.YtkimhdcngagmaaaJa28
import Derived.Deep.CutRange
import Derived.Test.YtkimhdcngagmaaaJa9
import Derived.Test.YtkimhdcngagmaaaJa1
import Derived.BigQuiet
set_option linter.unusedVariables false
set_option linter.unusedSimpArgs false
namespace Go.Proofs.Ytkimhdcngagmaaa.Sh
open Go Go.RowKit

set_option linter.unusedSimpArgs false
set_option linter.unusedVariables false
set_option maxHeartbeats 4000000 in
theorem fresh_any {w : World} {P : Nat → Prop} {g k : Nat} {b : LB} (h : BookP w P g k b) (d now : Int) (hd : In64 d) :
    Calls Try.prog 16 #[.pointer (some ⟨g, 0, none⟩), .int .i64 d, .int .i64 now] w fun e w' => e = .returned (.bool (b.fresh d now)) ∧ w = w' := by
  obtain ⟨h1, h2, hb⟩ := h.e
  have c0 := hb.c0
  have c1 := hb.c1
  have hlk := hb.st.look2 hd
  have HF : Hid (b.fresh d now = (decide (d = b.own) || (match b.st d with | some a => !overB now (addT a 48) | none => false))) := hid rfl
  obtain ⟨o, ho⟩ : ∃ o, b.own = o := ⟨_, rfl⟩
  rw [ho] at c0 HF
  obtain ⟨s, hs⟩ : ∃ s, b.st d = s := ⟨_, rfl⟩
  rw [hs] at hlk HF
  clear h hb hd ho hs
  by_cases he : d = o
  · subst he
    rw [decide_eq_true rfl, Bool.true_or] at HF
    cases s <;> (
      simp only [Option.getD_none, Option.getD_some, Option.isSome_none, Option.isSome_some] at hlk
      go_enter Try.func16, Try.ntmps16
      go_wp2_with fail
      go_ret
      exact ⟨by rw [HF.out]; rfl, rfl⟩)
  have he' : (d == o) = false := beq_eq_false_iff_ne.2 he
  rw [decide_eq_false he, Bool.false_or] at HF
  cases s with
  | none =>
    simp only [Option.getD_none, Option.isSome_none] at hlk HF
    go_enter Try.func16, Try.ntmps16
    go_wp2_with fail
    go_ret
    exact ⟨by rw [HF.out]; rfl, rfl⟩
  | some a =>
    simp only [Option.getD_some, Option.isSome_some] at hlk HF
    obtain ⟨u, hu⟩ : ∃ u, addT a 48 = u := ⟨_, rfl⟩
    have HA : Hid (∀ W, Calls Try.prog 29 #[.int .i64 a, .int .i64 48] W fun e w' => e = .returned (.int .i64 u) ∧ W = w') := hid (fun W => by have h := add_any a 48 W; rw [hu] at h; exact h)
    have HO := hid (fun W => over_any now u W)
    rw [hu] at HF
    obtain ⟨v, hv⟩ : ∃ v, decide (tk u ≤ tk now) = v := ⟨_, rfl⟩
    rw [hv] at HO
    have HV : Hid (overB now u = v) := hid hv
    rw [HV.out] at HF
    clear hu hv
    go_enter Try.func16, Try.ntmps16
    go_wp2_with fail
    refine (HA.out _).mono ?_
    rintro er w2 ⟨rfl, hw⟩
    have hw2 : w = w2 := hw
    subst hw2
    go_wp2_with fail
    refine (HO.out _).mono ?_
    rintro er w2 ⟨rfl, hw⟩
    have hw2 : w = w2 := hw
    subst hw2
    go_wp2_with fail
    go_ret
    exact ⟨by rw [HF.out]; rfl, rfl⟩
/-- The closure of Stale: gb and gn hold what it captured. -/
theorem staleC_any {w : World} {P : Nat → Prop} {g k gb gn : Nat} {b : LB} (h : BookP w P g k b) (now : Int) (hgb : gb < w.heap.size) (hgn : gn < w.heap.size) (cb : w.cell? ⟨gb, 0, none⟩ = some (.pointer (some ⟨g, 0, none⟩))) (cn : w.cell? ⟨gn, 0, none⟩ = some (.int .i64 now)) (d q : Int) (hd : In64 d) :
    Calls Try.prog 33 #[.agg #[.int .i64 d, .int .i64 q], .pointer (some ⟨gb, 0, none⟩), .pointer (some ⟨gn, 0, none⟩)] w fun e w' => e = .returned (.bool (!b.fresh d now)) ∧ Below w.heap.size w w' := by
  have HF := hid (fun W (hW : Below w.heap.size w W) => fresh_any (h.below hW) d now hd)
  obtain ⟨w1, hw1⟩ : ∃ y, y = w.alloc (.cells #[.int .i64 d, .int .i64 q] 49) := ⟨_, rfl⟩
  have HB1 : Hid (Below w.heap.size w w1) := hid (by rw [hw1]; exact (Below.refl _ _).alloc (Nat.le_refl _) _)
  have hc1 : w1.heap[w.heap.size]? = some (.cells #[.int .i64 d, .int .i64 q] 49 (0, 0)) := by rw [hw1]; exact heap_alloc_new w _
  have e0 : w1.cell? ⟨w.heap.size, 0, none⟩ = some (.int .i64 d) := by rw [cell_of_row _ _ 0 _ _ (0, 0) hc1]; rfl
  have e1 : w1.cell? ⟨w.heap.size, 1, none⟩ = some (.int .i64 q) := by rw [cell_of_row _ _ 1 _ _ (0, 0) hc1]; rfl
  have b0 : w1.cell? ⟨gb, 0, none⟩ = some (.pointer (some ⟨g, 0, none⟩)) := (HB1.out.cell (p := ⟨gb, 0, none⟩) hgb).trans cb
  have n0 : w1.cell? ⟨gn, 0, none⟩ = some (.int .i64 now) := (HB1.out.cell (p := ⟨gn, 0, none⟩) hgn).trans cn
  have HF1 := hid (HF.out w1 HB1.out)
  obtain ⟨v, hv⟩ : ∃ v, b.fresh d now = v := ⟨_, rfl⟩
  rw [hv] at HF1 ⊢
  have HW1 := hid hw1
  clear h hd hgb hgn cb cn hc1 hw1 hv HF
  go_enter Try.func33, Try.ntmps33
  go_upto_region 1 with fail
  rw [← HW1.out]
  go_wp2_with fail
  refine HF1.out.mono ?_
  rintro er w2 ⟨rfl, hw⟩
  have hw2 : w1 = w2 := hw
  subst hw2
  go_wp2_with fail
  go_ret
  exact ⟨rfl, HB1.out⟩
set_option maxHeartbeats 4000000 in
theorem idxS_any (gb gn : Nat) (A : Option Addr) (l : List (Int × Int)) (n c : Nat) (hn : l.length = n) (hm : n ≤ 1000000000) (w : World) (h : Els encI w w.heap.size A l) (p : Nat → Bool)
    (hp : ∀ (j : Nat) (x : Int × Int), l[j]? = some x → ∀ W, Below w.heap.size w W → Calls Try.prog 33 #[.agg (encI.cells x).toArray, .pointer (some ⟨gb, 0, none⟩), .pointer (some ⟨gn, 0, none⟩)] W fun e W' => e = .returned (.bool (p j)) ∧ Below W.heap.size W W') :
    Calls Try.prog 39 #[.slice A n c, .func (.func 33) #[] #[.pointer (some ⟨gb, 0, none⟩), .pointer (some ⟨gn, 0, none⟩)]] w fun e w' => ∃ i : Int, e = .returned (.int .i64 i) ∧ FirstN p n i ∧ Below w.heap.size w w' := by
  have HN := hid hn
  have HP := hid hp
  have HY := hid (fun W (hW : Below w.heap.size w W) => h.below hW)
  clear hn h hp
  go_enter Try.func39, Try.ntmps39
  go_wp2_with fail
  go_loopw [8] (fun i wr => ∃ j : Nat, j ≤ n ∧ i = .int .i64 j ∧ Hid (∀ k, k < j → p k = false) ∧ Hid (Below w.heap.size w wr)) (fun i _ => n - (intOf i).toNat)
  case atStart => exact ⟨0, Nat.zero_le _, rfl, hid (fun k hk => absurd hk (by omega)), hid (Below.refl _ _)⟩
  case round =>
    obtain ⟨j, hj, rfl, HNI, HB⟩ := hrel
    by_cases hlt : j < n
    · obtain ⟨x, hx⟩ : ∃ x, l[j]? = some x := ⟨_, List.getElem?_eq_getElem (by rw [HN.out]; exact hlt)⟩
      obtain ⟨ad, aj, hA, -, ea, -, a0, a1s⟩ := (HY.out wr HB.out).get hx
      subst hA
      have ea : ad.add (j * 2) = aj := ea
      have c0 := a0 _ rfl
      have c1 := a1s 1 _ (by omega) rfl
      have hk0 : (0 : Int) ≤ (j : Int) := Int.natCast_nonneg _
      have hk1 : (j : Int) < (n : Int) := by omega
      have HF := hid (HP.out j x hx wr HB.out)
      obtain ⟨b, hb⟩ : ∃ b, p j = b := ⟨_, rfl⟩
      rw [hb] at HF
      have HBJ := hid hb
      obtain ⟨x0, x1⟩ := x
      simp only [encI] at c0 c1 HF
      clear hx hb a0 a1s
      go_wp2_with fail
      refine HF.out.mono ?_
      rintro er w2 ⟨rfl, q2⟩
      have HB2 := hid (HB.out.trans (q2.mono HB.out.size))
      clear q2 c0 c1
      cases b
      · have HNX : Hid (∀ k, k < j + 1 → p k = false) := hid (fun k hk => by
          rcases Nat.lt_or_ge k j with h1 | h1
          · exact HNI.out k h1
          · rw [show k = j by omega]; exact HBJ.out)
        go_wp2_with fail
        go_roundw
        case rel => exact ⟨j + 1, by omega, by go_num, HNX, HB2⟩
        case measure => simp [intOf]; omega
      · have HT : Hid (FirstN p n (j : Int)) := hid (.inr ⟨j, hlt, rfl, HBJ.out, HNI.out⟩)
        go_wp2_with fail
        go_ret
        exact ⟨_, rfl, HT.out, HB2.out⟩
    · obtain rfl : j = n := by omega
      have HT : Hid (FirstN p j (-1 : Int)) := hid (.inl ⟨rfl, HNI.out⟩)
      go_wp2_with fail
      go_ret
      exact ⟨_, rfl, HT.out, HB.out⟩
theorem conS_any (gb gn : Nat) (A : Option Addr) (l : List (Int × Int)) (n c : Nat) (hn : l.length = n) (hm : n ≤ 1000000000) (w : World) (h : Els encI w w.heap.size A l) (p : Nat → Bool)
    (hp : ∀ (j : Nat) (x : Int × Int), l[j]? = some x → ∀ W, Below w.heap.size w W → Calls Try.prog 33 #[.agg (encI.cells x).toArray, .pointer (some ⟨gb, 0, none⟩), .pointer (some ⟨gn, 0, none⟩)] W fun e W' => e = .returned (.bool (p j)) ∧ Below W.heap.size W W') :
    Calls Try.prog 32 #[.slice A n c, .func (.func 33) #[] #[.pointer (some ⟨gb, 0, none⟩), .pointer (some ⟨gn, 0, none⟩)]] w fun e w' => e = .returned (.bool (anyN p n)) ∧ Below w.heap.size w w' := by
  have HC := hid (idxS_any gb gn A l n c hn hm w h p hp)
  clear hn hm h hp
  go_enter Try.func32, Try.ntmps32
  go_wp2_with fail
  refine HC.out.mono ?_
  rintro er w2 ⟨i, rfl, hi, hb⟩
  have HI := hid hi.any
  clear hi
  go_wp2_with fail
  go_ret
  exact ⟨by rw [← HI.out]; rfl, hb⟩
def atN (l : List (Int × Int)) (f : Int × Int → Bool) (j : Nat) : Bool := match l[j]? with | some x => f x | none => false
theorem anyN_at (l : List (Int × Int)) (f : Int × Int → Bool) : anyN (atN l f) l.length = l.any f := by
  rw [Bool.eq_iff_iff, anyN_iff, List.any_eq_true]
  constructor
  · rintro ⟨j, hj, h⟩
    unfold atN at h
    rw [List.getElem?_eq_getElem hj] at h
    exact ⟨_, List.getElem_mem hj, h⟩
  · rintro ⟨x, hx, h⟩
    obtain ⟨j, hj⟩ := List.mem_iff_getElem?.1 hx
    exact ⟨j, (List.getElem?_eq_some_iff.1 hj).1, by unfold atN; rw [hj]; exact h⟩
set_option maxHeartbeats 4000000 in
theorem stale_any {w : World} {P : Nat → Prop} {g k : Nat} {b : LB} (h : BookP w P g k b) (A : Option Addr) (ids : List (Int × Int)) (n c : Nat) (hn : ids.length = n) (hnm : n ≤ 1000000) (hA : Els encI w w.heap.size A ids) (h64 : ∀ x ∈ ids, In64 x.1) (now : Int) :
    Calls Try.prog 18 #[.pointer (some ⟨g, 0, none⟩), .slice A n c, .int .i64 now] w fun e w' => e = .returned (.bool (b.stale ids now)) ∧ Below w.heap.size w w' := by
  obtain ⟨w1, hw1⟩ : ∃ y, y = (w.alloc (.cells #[.pointer (some ⟨g, 0, none⟩)] 25)).alloc (.cells #[.int .i64 now] 3) := ⟨_, rfl⟩
  have s0 : (w.alloc (.cells #[.pointer (some ⟨g, 0, none⟩)] 25)).heap.size = w.heap.size + 1 := by simp
  have s1 : w1.heap.size = w.heap.size + 2 := by rw [hw1]; simp
  have hB1 : Below w.heap.size w w1 := by rw [hw1]; exact ((Below.refl _ _).alloc (Nat.le_refl _) _).alloc (by omega) _
  have hn1 := heap_alloc_new (w.alloc (.cells #[.pointer (some ⟨g, 0, none⟩)] 25)) (.cells #[.int .i64 now] 3)
  rw [s0, ← hw1] at hn1
  have hb0 := heap_alloc_new w (.cells #[.pointer (some ⟨g, 0, none⟩)] 25)
  have hb1 : w1.heap[w.heap.size]? = some (.cells #[.pointer (some ⟨g, 0, none⟩)] 25 (0, 0)) := by
    rw [hw1]
    exact (((Below.refl (w.alloc (.cells #[.pointer (some ⟨g, 0, none⟩)] 25)).heap.size _).alloc (Nat.le_refl _) _).block _ (by omega)).trans hb0
  have HC : Hid (Calls Try.prog 32 #[.slice A n c, .func (.func 33) #[] #[.pointer (some ⟨w.heap.size, 0, none⟩), .pointer (some ⟨w.heap.size + 1, 0, none⟩)]] w1 fun e w' => e = .returned (.bool (b.stale ids now)) ∧ Below w1.heap.size w1 w') := hid (by
    have e : b.stale ids now = anyN (atN ids fun x => !b.fresh x.1 now) n := by rw [← hn, anyN_at]; rfl
    rw [e]
    refine conS_any w.heap.size (w.heap.size + 1) A ids n c hn (by omega) w1 ((hA.below hB1).more hB1.size) _ (fun j x hx W hW => ?_)
    have hx2 : atN ids (fun x => !b.fresh x.1 now) j = !b.fresh x.1 now := by unfold atN; rw [hx]
    rw [hx2]
    exact staleC_any (h.below (hB1.trans (hW.mono hB1.size))) now (by have := hW.size; omega) (by have := hW.size; omega) ((hW.cell (p := ⟨w.heap.size, 0, none⟩) (by simp only; omega)).trans (by rw [cell_of_row _ _ 0 _ _ (0, 0) hb1]; rfl)) ((hW.cell (p := ⟨w.heap.size + 1, 0, none⟩) (by simp only; omega)).trans (by rw [cell_of_row _ _ 0 _ _ (0, 0) hn1]; rfl)) x.1 x.2 (h64 x (List.mem_of_getElem? hx)))
  have HB1 := hid hB1
  have HW1 := hid hw1
  clear h hn hA h64 hw1 s0 s1 hn1 hb0 hb1 hB1
  go_enter Try.func18, Try.ntmps18
  go_upto_region 1 with fail
  rw [← HW1.out]
  go_wp2_with fail
  refine HC.out.mono ?_
  rintro er w2 ⟨rfl, b2⟩
  have HB2 := hid (HB1.out.trans (b2.mono HB1.out.size))
  go_wp2_with fail
  go_ret
  exact ⟨rfl, HB2.out⟩
end Go.Proofs.Ytkimhdcngagmaaa.Sh
/-
  The least of some ticks: the program's Least, by contract.
-/
namespace Go.Proofs.Ytkimhdcngagmaaa.Sh
open Go Go.RowKit
set_option linter.unusedVariables false
set_option linter.unusedSimpArgs false
/-- A: where the numbers l lie, below block B. Of none nothing is asked. -/
def IntAt (w : World) (B : Nat) (A : Option Addr) (l : List Int) : Prop :=
  0 < l.length → ∃ ad, A = some ad ∧ ad.block < B ∧ ∀ j x, l[j]? = some x → w.cell? (ad.add j) = some (.int .i64 x)
theorem IntAt.head {w : World} {B : Nat} {A : Option Addr} {l : List Int} (k : Nat) (h : IntAt w B A l) : IntAt w B A (l.take k) := fun hn => by
  simp only [List.length_take] at hn
  obtain ⟨ad, e, hb, hc⟩ := h (by omega)
  refine ⟨ad, e, hb, fun j x hx => hc j x ?_⟩
  rw [List.getElem?_take] at hx
  split at hx
  · exact hx
  · cases hx
theorem leastT_snoc (l : List Int) (x : Int) : leastT (l ++ [x]) = min (leastT l) (tk x) := by unfold leastT; rw [List.foldl_append]; rfl
set_option maxHeartbeats 2000000 in
theorem least_any (A : Option Addr) (l : List Int) (n c : Nat) (hn : l.length = n) (hm : n ≤ 40) (w : World) (h : IntAt w w.heap.size A l) :
    Calls Try.prog 28 #[.slice A n c] w fun e w' => e = .returned (.int .i64 (leastT l)) ∧ w = w' := by
  have HN := hid hn
  have HA := hid h
  clear hn h
  go_enter Try.func28, Try.ntmps28
  go_wp2_with fail
  go_loopw [3, 8] (fun v i wr => ∃ (j : Nat) (z : Int), v = .int .i64 z ∧ i = .int .i64 (j : Int) ∧ j ≤ n ∧ Hid (z = leastT (l.take j)) ∧ w = wr) (fun _ i _ => n - (intOf i).toNat)
  case atStart => exact ⟨0, 1099511627776, rfl, rfl, Nat.zero_le _, hid (by simp [leastT]), rfl⟩
  case round =>
    obtain ⟨j, z, rfl, rfl, hj, HZ, rfl⟩ := hrel
    by_cases hlt : j < n
    · obtain ⟨x, hx⟩ : ∃ x, l[j]? = some x := ⟨_, List.getElem?_eq_getElem (by rw [HN.out]; exact hlt)⟩
      obtain ⟨ad, rfl, hb, hc⟩ := HA.out (by rw [HN.out]; omega)
      have a0 := hc j x hx
      have HNX : Hid (leastT (l.take (j + 1)) = min z (tk x)) := hid (by rw [take_snoc_of hx, leastT_snoc, HZ.out])
      have HT := hid (tick_any x w)
      have hj0 : (0 : Int) ≤ (j : Int) := Int.natCast_nonneg _
      have hj1 : (j : Int) < (n : Int) := by omega
      generalize tk x = t at *
      clear hx hb hc
      go_wp2_with fail
      refine HT.out.mono ?_
      rintro er w1 ⟨rfl, rfl⟩
      by_cases hm : z ≤ t
      · go_wp2_with fail
        go_roundw
        case rel => exact ⟨j + 1, z, rfl, by go_num, by omega, hid (by rw [HNX.out]; omega), by first | rfl | trivial⟩
        case measure => simp [intOf]; omega
      · go_wp2_with fail
        go_roundw
        case rel => exact ⟨j + 1, t, rfl, by go_num, by omega, hid (by rw [HNX.out]; omega), by first | rfl | trivial⟩
        case measure => simp [intOf]; omega
    · obtain rfl : j = n := by omega
      have HE : Hid (z = leastT l) := hid (by rw [HZ.out, List.take_of_length_le (by rw [HN.out]; exact Nat.le_refl _)])
      go_wp2_with fail
      go_ret
      exact ⟨ret_int HE.out, rfl⟩
end Go.Proofs.Ytkimhdcngagmaaa.Sh
/-
  The program's book: end, Until, by contract.
-/
namespace Go.Proofs.Ytkimhdcngagmaaa.Sh
open Go Go.RowKit

set_option linter.unusedSimpArgs false
set_option linter.unusedVariables false
theorem find_at {α : Type} {l : List α} {p : α → Bool} {k : Nat} {x : α} (h : ∀ y ∈ l.take k, p y = false) (hx : l[k]? = some x) (hp : p x = true) : l.find? p = some x := by
  have e : l = l.take k ++ x :: l.drop (k + 1) := by
    obtain ⟨hk, hx'⟩ := List.getElem?_eq_some_iff.1 hx
    rw [← hx', List.getElem_cons_drop, List.take_append_drop]
  rw [e, List.find?_append, List.find?_eq_none.2 (fun y hy => by rw [h y hy]; simp), List.find?_cons_of_pos hp]
  rfl
theorem HlM.looks {w : World} {b k : Nat} {Q : Nat → Prop} {f : Int → List Hl} (h : HlM w b k Q f) {z : Int} (hz : In64 z) : ∃ A c, (∀ W : World, W.heap[b]? = w.heap[b]? → (Instr.lookup 60 (.map (some b)) (.int .i64 z) false).run Try.prog W = .ok (.slice A (f z).length c) W) ∧ (f z).length ≤ c ∧ c ≤ 9223372036854775807 ∧ ElsQ encL w Q A (f z) := by
  obtain ⟨D, ⟨es, clock, g1, r⟩, h2⟩ := h
  obtain ⟨A, c, a1, a2, a3, a4⟩ := h2 z hz
  refine ⟨A, c, fun W hW => ?_, a2, a3, a4⟩
  have h1 : W.ownsMap Try.prog 3 tokR b k D := ⟨es, clock, hW.trans g1, r⟩
  rcases map_cases h1 lawN Try.underlying60 (zeroLs W) (keyN hz) false with ⟨e, hrun⟩ | ⟨v, e, hrun⟩
  · rw [e] at a1
    rw [hrun, ← a1]; rfl
  · rw [e] at a1
    rw [hrun, ← a1]; rfl
set_option maxHeartbeats 8000000 in
theorem end_any {w : World} {P : Nat → Prop} {g k : Nat} {b : LB} (h : BookP w P g k b) (hle : ∀ d, (b.hl d).length ≤ 24) (d q : Int) (hd : In64 d) :
    Calls Try.prog 27 #[.pointer (some ⟨g, 0, none⟩), .agg #[.int .i64 d, .int .i64 q]] w fun e w' => e = .returned (.tuple #[.int .i64 ((b.endP (d, q)).getD 0), .bool (b.endP (d, q)).isSome]) ∧ Below w.heap.size w w' := by
  obtain ⟨h1, h2, hb⟩ := h.e
  obtain ⟨w0, hw0⟩ : ∃ y, y = w.alloc (.cells #[.int .i64 d, .int .i64 q] 49) := ⟨_, rfl⟩
  have hB0 : Below w.heap.size w w0 := by rw [hw0]; exact (Below.refl _ _).alloc (Nat.le_refl _) _
  have hc0 : w0.heap[w.heap.size]? = some (.cells #[.int .i64 d, .int .i64 q] 49 (0, 0)) := by rw [hw0]; exact heap_alloc_new w _
  have hlt0 : w.heap.size < w0.heap.size := (Array.getElem?_eq_some_iff.1 hc0).1
  have a0 : w0.cell? ⟨w.heap.size, 0, none⟩ = some (.int .i64 d) := by rw [cell_of_row _ _ 0 _ _ (0, 0) hc0]; rfl
  have a1 : w0.cell? ⟨w.heap.size, 1, none⟩ = some (.int .i64 q) := by rw [cell_of_row _ _ 1 _ _ (0, 0) hc0]; rfl
  have hb0 := hb.below hB0
  have c2 := hb0.c2
  obtain ⟨RA, rc, hlk, hr1, hr2, hre⟩ := hb0.hl.looks hd
  have hrow2 := hb0.row
  have hgl0 := (Array.getElem?_eq_some_iff.1 hrow2).1
  have hhl0 := hb0.hl.lt
  have HEP : Hid (b.endP (d, q) = ((b.hl d).find? (hlId d q)).map (·.u)) := hid rfl
  have hrl := hle d
  obtain ⟨row, hrow⟩ : ∃ r, b.hl d = r := ⟨_, rfl⟩
  rw [hrow] at hlk hr1 hre hrl HEP
  obtain ⟨rn, hrn⟩ : ∃ n, row.length = n := ⟨_, rfl⟩
  rw [hrn] at hlk hr1 hrl
  have HRN := hid hrn
  have HRE := hid (fun W (hW : Below w0.heap.size w0 W) => (hre.els.below hW).more hW.size)
  have HBB := hid hB0
  have HKD : Hid (∀ W, Below w0.heap.size w0 W → W.cell? ⟨w.heap.size, 0, none⟩ = some (.int .i64 d) ∧ W.cell? ⟨w.heap.size, 1, none⟩ = some (.int .i64 q)) := hid (fun W hW => ⟨(hW.cell (p := ⟨w.heap.size, 0, none⟩) hlt0).trans a0, (hW.cell (p := ⟨w.heap.size, 1, none⟩) hlt0).trans a1⟩)
  have HLK : Hid (∀ W, Below w0.heap.size w0 W → W.cell? ⟨g, 2, none⟩ = some (.map (some h2)) ∧ W.cell? ⟨w.heap.size, 0, none⟩ = some (.int .i64 d) ∧ (Instr.lookup 60 (.map (some h2)) (.int .i64 d) false).run Try.prog W = .ok (.slice RA rn rc) W) := hid (fun W hW => ⟨(hW.cell (p := ⟨g, 2, none⟩) hgl0).trans c2, (HKD.out W hW).1, hlk W (hW.block h2 hhl0)⟩)
  have HB00 := hid (Below.refl w0.heap.size w0)
  have HW0 := hid hw0
  clear h hb hle hd hw0 hB0 hc0 hlt0 hb0 hre hrow hrn hlk hrow2 hgl0 hhl0 c2 a0 a1
  obtain ⟨c2, a0, hlk⟩ := HLK.out _ HB00.out
  go_enter Try.func27, Try.ntmps27
  go_upto_region 1 with fail
  rw [← HW0.out]
  go_region_held3 (fun W => W.cell? ⟨g, 2, none⟩ = some (.map (some h2)) ∧ W.cell? ⟨w.heap.size, 0, none⟩ = some (.int .i64 d) ∧ (Instr.lookup 60 (.map (some h2)) (.int .i64 d) false).run Try.prog W = .ok (.slice RA rn rc) W)
    (exact HLK.out _ HB00.out.drew) (fail)
  clear c2 a0 hlk
  go_wp2_with fail
  go_loopw [16] (fun i wr => ∃ k : Nat, k ≤ rn ∧ i = .int .i64 (k : Int) ∧ Hid (∀ y ∈ row.take k, hlId d q y = false) ∧ Hid (Below w0.heap.size w0 wr)) (fun i _ => rn - (intOf i).toNat)
  case atStart => exact ⟨0, Nat.zero_le _, rfl, hid (by simp), hid HB00.out.drew⟩
  case round =>
    obtain ⟨wj, hwj⟩ : ∃ x, x = wr := ⟨_, rfl⟩
    subst hwj
    obtain ⟨k, hk, rfl, HP, HB⟩ := hrel
    have hk0 : (0 : Int) ≤ (k : Int) := Int.natCast_nonneg _
    by_cases hlt : k < rn
    · obtain ⟨⟨⟨xd, xq, nm, kd, wh, ao, an, bo, bn⟩, xu⟩, hx⟩ : ∃ x, row[k]? = some x := ⟨_, List.getElem?_eq_getElem (by rw [HRN.out]; exact hlt)⟩
      obtain ⟨ad, aj, hA, hab, ea, hbj2, f0, fs⟩ := (HRE.out wj HB.out).get hx
      subst hA
      have ea : ad.add (k * 10) = aj := ea
      have d0 := f0 _ rfl
      have d1 := fs 1 _ (by omega) rfl
      have d2 := fs 2 _ (by omega) rfl
      have d3 := fs 3 _ (by omega) rfl
      have d4 := fs 4 _ (by omega) rfl
      have d5 := fs 5 _ (by omega) rfl
      have d6 := fs 6 _ (by omega) rfl
      have d7 := fs 7 _ (by omega) rfl
      have d8 := fs 8 _ (by omega) rfl
      have d9 := fs 9 _ (by omega) rfl
      simp only at d0 d1 d2 d3 d4 d5 d6 d7 d8 d9
      have HX := hid hx
      have hk1 : (k : Int) < (rn : Int) := by omega
      obtain ⟨w1, hw1⟩ : ∃ y, y = wj.alloc (.cells #[.int .i64 xd, .int .i64 xq, .string nm, .int .i64 kd, .string wh, .string ao, .string an, .string bo, .string bn, .int .i64 xu] 55) := ⟨_, rfl⟩
      have hc1 : w1.heap[wj.heap.size]? = some (.cells #[.int .i64 xd, .int .i64 xq, .string nm, .int .i64 kd, .string wh, .string ao, .string an, .string bo, .string bn, .int .i64 xu] 55 (0, 0)) := by rw [hw1]; exact heap_alloc_new wj _
      have HB1 : Hid (Below w0.heap.size w0 w1) := hid (by rw [hw1]; exact HB.out.alloc HB.out.size _)
      have e0 : w1.cell? ⟨wj.heap.size, 0, none⟩ = some (.int .i64 xd) := by rw [cell_of_row _ _ 0 _ _ (0, 0) hc1]; rfl
      have e1 : w1.cell? ⟨wj.heap.size, 1, none⟩ = some (.int .i64 xq) := by rw [cell_of_row _ _ 1 _ _ (0, 0) hc1]; rfl
      have e2 : w1.cell? ⟨wj.heap.size, 2, none⟩ = some (.string nm) := by rw [cell_of_row _ _ 2 _ _ (0, 0) hc1]; rfl
      have e3 : w1.cell? ⟨wj.heap.size, 3, none⟩ = some (.int .i64 kd) := by rw [cell_of_row _ _ 3 _ _ (0, 0) hc1]; rfl
      have e4 : w1.cell? ⟨wj.heap.size, 4, none⟩ = some (.string wh) := by rw [cell_of_row _ _ 4 _ _ (0, 0) hc1]; rfl
      have e5 : w1.cell? ⟨wj.heap.size, 5, none⟩ = some (.string ao) := by rw [cell_of_row _ _ 5 _ _ (0, 0) hc1]; rfl
      have e6 : w1.cell? ⟨wj.heap.size, 6, none⟩ = some (.string an) := by rw [cell_of_row _ _ 6 _ _ (0, 0) hc1]; rfl
      have e7 : w1.cell? ⟨wj.heap.size, 7, none⟩ = some (.string bo) := by rw [cell_of_row _ _ 7 _ _ (0, 0) hc1]; rfl
      have e8 : w1.cell? ⟨wj.heap.size, 8, none⟩ = some (.string bn) := by rw [cell_of_row _ _ 8 _ _ (0, 0) hc1]; rfl
      have e9 : w1.cell? ⟨wj.heap.size, 9, none⟩ = some (.int .i64 xu) := by rw [cell_of_row _ _ 9 _ _ (0, 0) hc1]; rfl
      obtain ⟨g0, g1⟩ := HKD.out w1 HB1.out
      have HW1 := hid hw1
      have HID : Hid (hlId d q ⟨⟨xd, xq, nm, kd, wh, ao, an, bo, bn⟩, xu⟩ = decide (xd = d ∧ xq = q)) := hid rfl
      clear hx f0 fs hc1 hab hbj2 hw1
      by_cases e : xd = d ∧ xq = q
      · obtain ⟨rfl, rfl⟩ := e
        have HE : Hid (b.endP (xd, xq) = some xu) := hid (by rw [HEP.out, find_at HP.out HX.out (by rw [HID.out]; simp)]; rfl)
        go_upto_region 4 with fail
        rw [← HW1.out]
        go_wp2_with fail
        go_ret2
        exact ⟨by rw [HE.out]; rfl, HBB.out.trans (HB1.out.mono HBB.out.size)⟩
      · have HT : Hid (∀ y ∈ row.take (k + 1), hlId d q y = false) := hid (by
          rw [take_snoc_of HX.out]
          intro y hy
          rcases List.mem_append.1 hy with h | h
          · exact HP.out y h
          · rw [List.mem_singleton.1 h, HID.out]; exact decide_eq_false e)
        have hne : (xd == d) = false ∨ (xd == d) = true ∧ (xq == q) = false := by
          by_cases h : xd = d
          · exact .inr ⟨by simp [h], beq_eq_false_iff_ne.2 (fun h2 => e ⟨h, h2⟩)⟩
          · exact .inl (beq_eq_false_iff_ne.2 h)
        rcases hne with hne | ⟨hn1, hn2⟩
        · go_upto_region 4 with fail
          rw [← HW1.out]
          go_wp2_with fail
          go_roundw
          case rel => exact ⟨k + 1, by omega, by go_num, HT, HB1⟩
          case measure => simp [intOf]; omega
        · go_upto_region 4 with fail
          rw [← HW1.out]
          go_wp2_with fail
          go_roundw
          case rel => exact ⟨k + 1, by omega, by go_num, HT, HB1⟩
          case measure => simp [intOf]; omega
    · obtain rfl : k = rn := by omega
      have HE : Hid (b.endP (d, q) = none) := hid (by
        rw [HEP.out, List.find?_eq_none.2 (fun y hy => by
          have := HP.out y (by rw [List.take_of_length_le (by rw [HRN.out]; exact Nat.le_refl _)]; exact hy)
          rw [this]; simp)]
        rfl)
      go_wp2_with fail
      go_ret2
      exact ⟨by rw [HE.out]; rfl, HBB.out.trans (HB.out.mono HBB.out.size)⟩
end Go.Proofs.Ytkimhdcngagmaaa.Sh
