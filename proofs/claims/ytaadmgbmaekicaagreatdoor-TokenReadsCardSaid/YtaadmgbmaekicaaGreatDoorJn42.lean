/-
  The library's Grow and Concat at caveats, by contract. Written by mk_tkcat.py.
-/
import Derived.Test.YtaadmgbmaekicaaGreatDoorJn34
import Derived.Lib.AppendZerosOnto
import Derived.Test.YtaadmgbmaekicaaGreatDoorJn1
import Derived.Deep.RegionLaw
import Derived.Shelf.Abstract
set_option linter.unusedVariables false
set_option linter.unusedSimpArgs false
namespace Go.Proofs.YtaadmgbmaekicaaGreatDoor.Sh
open Go Go.RowKit

set_option linter.unusedSimpArgs false
set_option linter.unusedVariables false
/-- Slices of elements among others: where their headers lie, what they hold. -/
def LlsE {α : Type} (E : Enc α) (w : World) (B : Nat) (A : Option Addr) (ll : List (List α)) : Prop :=
  0 < ll.length → ∃ ad, A = some ad ∧ ad.block < B ∧ ∀ (j : Nat) (l : List α), ll[j]? = some l → ∃ sA sc, w.cell? (ad.add j) = some (.slice sA l.length sc) ∧ Els E w B sA l
theorem LlsE.below {α : Type} {E : Enc α} {w w' : World} {B : Nat} {A : Option Addr} {ll : List (List α)} (h : LlsE E w B A ll) (hb : Below B w w') : LlsE E w' B A ll := fun hn => by
  obtain ⟨ad, e, hlt, hc⟩ := h hn
  refine ⟨ad, e, hlt, fun j l hl => ?_⟩
  obtain ⟨sA, sc, h1, h2⟩ := hc j l hl
  exact ⟨sA, sc, (hb.cell (by rw [block_add]; exact hlt)).trans h1, h2.below hb⟩
theorem LlsE.row {α : Type} {E : Enc α} {w : World} {B : Nat} {A : Option Addr} {ll : List (List α)} (h : LlsE E w B A ll) {j : Nat} {l : List α} (hj : ll[j]? = some l) : ∃ ad sA sn sc, A = some ad ∧ ad.block < B ∧ w.cell? (ad.add j) = some (.slice sA sn sc) ∧ l.length = sn ∧ Els E w B sA l := by
  obtain ⟨ad, e, hlt, hc⟩ := h (by have := (List.getElem?_eq_some_iff.1 hj).1; omega)
  obtain ⟨sA, sc, h1, h2⟩ := hc j l hj
  exact ⟨ad, sA, _, sc, e, hlt, h1, rfl, h2⟩
set_option maxHeartbeats 2000000 in
theorem growC_nil (n : Nat) (hn : n ≤ 1000000000) (w : World) :
    Calls Tryz.prog 114 #[.slice none 0 0, .int .i64 n] w fun e w' => ∃ A c, e = .returned (.slice A 0 c) ∧ Own (E := encC) w' w.heap.size 51 (.slice A 0 c) [] ∧ Below w.heap.size w w' := by
  by_cases h0 : n = 0
  · subst h0
    go_enter Tryz.func114, Tryz.ntmps114
    go_wp2
    go_ret
    exact ⟨none, 0, rfl, Own.nil _ _ _, Below.refl _ _⟩
  · obtain ⟨i0, hi0, hz0, hz1, hz2⟩ := info_parts (P := Tryz.prog) (e := 51) (z := .agg #[.int .i64 0, .slice none 0 0, .int .i64 0, .string ⟨#[]⟩]) (size := 4) (bytes := 56) (by kernel_rfl)
    have hrz : ∀ ty, (Builtin.append_ #[25, 3] ty #[.slice none 0 0, .int .i64 (n : Int)]).run Tryz.prog w =
        .ok (.slice (some ⟨w.heap.size, 0, none⟩) n (grownCap w n 0 51)) (w.drew.alloc (.cells (#[] ++ Builtin.zeroCells (Value.agg #[.int .i64 0, .slice none 0 0, .int .i64 0, .string ⟨#[]⟩]).cells n ++ Builtin.zeroCells (Value.agg #[.int .i64 0, .slice none 0 0, .int .i64 0, .string ⟨#[]⟩]).cells (grownCap w n 0 51 - n)) 51)) := fun ty => by
      have h := Lib.run_append_grow_zeros w 25 3 ty 51 i0 (.agg #[.int .i64 0, .slice none 0 0, .int .i64 0, .string ⟨#[]⟩]) .i64 .i64 Tryz.underlying25 Tryz.underlying3 hi0 hz0 none 0 0 [] (run_firstCells_none (P := Tryz.prog) (w := w.drew) i0.size 0 0 0) n (by omega) (by omega) (by omega) (by omega) (by rw [hz2]; omega)
        (growslice_fits (by omega) (by rw [hz2]; omega))
      rw [Nat.zero_add] at h
      exact h
    have hG1 := grownCap_ge w n 0 51
    have hG2 := grownCap_le_maxLen w n 0 51 (by unfold maxLen; omega)
    have HO : Hid (∀ W : World, W = w.drew.alloc (.cells (#[] ++ Builtin.zeroCells (Value.agg #[.int .i64 0, .slice none 0 0, .int .i64 0, .string ⟨#[]⟩]).cells n ++ Builtin.zeroCells (Value.agg #[.int .i64 0, .slice none 0 0, .int .i64 0, .string ⟨#[]⟩]).cells (grownCap w n 0 51 - n)) 51) →
        Own (E := encC) W w.heap.size 51 (.slice (some ⟨w.heap.size, 0, none⟩) 0 (grownCap w n 0 51)) [] ∧ Below w.heap.size w W) := hid (by
      rintro W rfl
      refine ⟨⟨rfl, .inr ⟨w.heap.size, _, _, rfl, Nat.le_refl _, heap_alloc_new w.drew _, Nat.zero_le _, hG2, ?_, by simp [ev]⟩⟩, (Below.refl _ _).drew.alloc (Nat.le_refl _) _⟩
      rw [Array.size_append, Array.size_append, size_zeroCells, size_zeroCells]
      simp only [Value.cells]
      simp [encC]
      omega)
    obtain ⟨G, hG⟩ : ∃ G, grownCap w n 0 51 = G := ⟨_, rfl⟩
    rw [hG] at hrz hG1 hG2 HO
    unfold maxLen at hG2
    obtain ⟨w2, hw2⟩ : ∃ w2, w2 = w.drew.alloc (.cells (#[] ++ Builtin.zeroCells (Value.agg #[.int .i64 0, .slice none 0 0, .int .i64 0, .string ⟨#[]⟩]).cells n ++ Builtin.zeroCells (Value.agg #[.int .i64 0, .slice none 0 0, .int .i64 0, .string ⟨#[]⟩]).cells (G - n)) 51) := ⟨_, rfl⟩
    obtain ⟨o2, b2⟩ := HO.out w2 hw2
    rw [← hw2] at hrz
    have O2 := hid o2
    have B2 := hid b2
    have hn0 : 0 < (n : Int) := by omega
    clear HO hw2 hG o2 b2 hi0 hz0
    go_enter Tryz.func114, Tryz.ntmps114
    go_wp2_with (at_builtin; refine Lib.wpList_append_run _ rfl _ _ _ _ rfl _ _ rfl rfl _ _ (hrz _) ?_)
    go_ret
    exact ⟨_, _, rfl, O2.out, B2.out⟩
/-- Slices of numbers among others, each with its numbers. -/
def sumCH (ll : List (List CH)) : Nat := (ll.map List.length).sum
theorem sumCH_snoc (ll : List (List CH)) (l : List CH) : sumCH (ll ++ [l]) = sumCH ll + l.length := by simp [sumCH]
theorem sumCH_flat (ll : List (List CH)) : ll.flatten.length = sumCH ll := by simp [sumCH, List.length_flatten]
theorem sumCH_take (ll : List (List CH)) (k : Nat) : sumCH (ll.take k) ≤ sumCH ll := by
  have h : sumCH ll = sumCH (ll.take k) + sumCH (ll.drop k) := by
    conv => lhs; rw [← List.take_append_drop k ll]
    unfold sumCH
    rw [List.map_append, List.sum_append]
  omega
theorem flatC_snoc (ll : List (List CH)) (l : List CH) : (ll ++ [l]).flatten = ll.flatten ++ l := by simp
set_option maxHeartbeats 4000000 in
theorem concatC_any (A : Option Addr) (ll : List (List CH)) (m c : Nat) (hm : ll.length = m) (hmc : m ≤ 9223372036854775807) (hs : sumCH ll ≤ 1000000000) (w : World) (h : LlsE encC w w.heap.size A ll) :
    Calls Tryz.prog 77 #[.slice A m c] w fun e w' => ∃ A' c', e = .returned (.slice A' ll.flatten.length c') ∧ Own (E := encC) w' w.heap.size 51 (.slice A' ll.flatten.length c') ll.flatten ∧ Below w.heap.size w w' := by
  have HM := hid hm
  have HS := hid (fun W (hW : Below w.heap.size w W) => h.below hW)
  rw [sumCH_flat]
  obtain ⟨N, hN⟩ : ∃ N, sumCH ll = N := ⟨_, rfl⟩
  rw [hN] at hs ⊢
  have HN := hid hN
  have HG := hid (growC_nil N hs w)
  clear hm h hN
  go_enter Tryz.func77, Tryz.ntmps77
  go_wp2
  go_loop [3, 11] (fun z i => ∃ k K : Nat, k ≤ m ∧ K ≤ N ∧ i = .int .i64 k ∧ z = .int .i64 K ∧ Hid (K = sumCH (ll.take k))) (fun _ i => m - (intOf i).toNat)
  case atStart => exact ⟨0, 0, Nat.zero_le _, Nat.zero_le _, rfl, rfl, hid rfl⟩
  case round =>
    obtain ⟨k, K, hk, hK, rfl, rfl, HK⟩ := hrel
    by_cases hlt : k < m
    · obtain ⟨l, hx⟩ : ∃ l, ll[k]? = some l := ⟨_, List.getElem?_eq_getElem (by rw [HM.out]; exact hlt)⟩
      obtain ⟨ad, sA, sn, sc, rfl, -, hcell, hl, -⟩ := (HS.out w (Below.refl _ _)).row hx
      have hle : K + sn ≤ N := by
        have h1 := sumCH_take ll (k + 1)
        rw [take_snoc_of hx, sumCH_snoc, ← HK.out, hl, HN.out] at h1
        exact h1
      have HK2 : Hid (K + sn = sumCH (ll.take (k + 1))) := hid (by rw [take_snoc_of hx, sumCH_snoc, HK.out, hl])
      have hk0 : (0 : Int) ≤ (k : Int) := Int.natCast_nonneg _
      have hk1 : (k : Int) < (m : Int) := by omega
      have hle' : (K : Int) + (sn : Int) ≤ 1000000000 := by omega
      have hnn : ¬ (K : Int) + (sn : Int) < 0 := by omega
      obtain ⟨ak, hak⟩ : ∃ ak, ad.add k = ak := ⟨_, rfl⟩
      have hak1 : ad.add (k * 1) = ak := by rw [Nat.mul_one]; exact hak
      rw [hak] at hcell
      clear hx hl
      go_wp2
      go_round
      case rel => exact ⟨k + 1, K + sn, by omega, by omega, by go_num, by go_num, HK2⟩
      case measure => simp [intOf]; omega
    · obtain rfl : m = k := by omega
      have hKN : K = N := by rw [HK.out, ← HN.out, List.take_of_length_le (by rw [HM.out]; exact Nat.le_refl _)]
      subst hKN
      go_wp2_with fail
      refine HG.out.mono ?_
      rintro er w1 ⟨A1, c1, rfl, o1, b1⟩
      have HW1 := hid b1
      go_wp2
      go_loopw [6, 27] (fun v i wr => ∃ (k N' cr : Nat) (Ar : Option Addr), k ≤ m ∧ N' ≤ K ∧ v = .slice Ar N' cr ∧ i = .int .i64 k ∧ Hid (N' = ((ll.take k).flatten).length) ∧ Hid (Own (E := encC) wr w.heap.size 51 (.slice Ar N' cr) ((ll.take k).flatten)) ∧ Hid (Below w.heap.size w wr)) (fun _ i _ => m - (intOf i).toNat)
      case atStart => exact ⟨0, 0, c1, A1, Nat.zero_le _, Nat.zero_le _, rfl, rfl, hid rfl, hid o1, hid b1⟩
      case round =>
        clear o1 b1
        obtain ⟨wj, hwj⟩ : ∃ x, x = wr := ⟨_, rfl⟩
        subst hwj
        obtain ⟨k, N', cr, Ar, hk, hN', rfl, rfl, HN', HO, HB⟩ := hrel
        by_cases hlt : k < m
        · obtain ⟨l, hx⟩ : ∃ l, ll[k]? = some l := ⟨_, List.getElem?_eq_getElem (by rw [HM.out]; exact hlt)⟩
          obtain ⟨ad, sA, sn, sc, rfl, -, hcell, hl, hel⟩ := (HS.out wj HB.out).row hx
          have hle : N' + sn ≤ K := by
            have h1 := sumCH_take ll (k + 1)
            rw [take_snoc_of hx, sumCH_snoc, ← sumCH_flat, ← HN'.out, hl, HN.out] at h1
            exact h1
          have HC2 : Hid ((ll.take (k + 1)).flatten = (ll.take k).flatten ++ l) := hid (by rw [take_snoc_of hx, flatC_snoc])
          have HL := hid hl
          have HR := hid hel.reads
          have hk0 : (0 : Int) ≤ (k : Int) := Int.natCast_nonneg _
          have hk1 : (k : Int) < (m : Int) := by omega
          obtain ⟨ak, hak⟩ : ∃ ak, ad.add k = ak := ⟨_, rfl⟩
          have hak1 : ad.add (k * 1) = ak := by rw [Nat.mul_one]; exact hak
          rw [hak] at hcell
          obtain ⟨F, hF⟩ : ∃ F, (ll.take k).flatten = F := ⟨_, rfl⟩
          rw [hF] at HO HN' HC2
          have hfl : F.length + sn ≤ 1000000000000 := by rw [← HN'.out]; omega
          have hbs : w.heap.size ≤ wj.heap.size := HB.out.size
          clear hx hel hl hF
          go_wp2_with (at_builtin; refine wpList_appL (E := encC) rfl slkC (.tmp 31) (.tmp 32) rfl (B := w.heap.size) (v := .slice Ar N' cr) (l := F) HO.out rfl (A := sA) (m := sn) (c := sc) l rfl HL.out HR.out hfl (by omega) hbs ?_; intro A9 c9 w9 ho9 hg9 he9; rw [← HN'.out] at ho9; have HO9 := hid ho9; have HB9 := hid (HB.out.grown hg9 hbs (fun g e => (World.ownsRow.lt HO.out g e).1)); clear ho9 hg9 he9 hcell; rw [← HN'.out])
          go_roundw
          case rel => exact ⟨k + 1, N' + sn, c9, A9, by omega, by omega, rfl, by go_num, hid (by rw [HC2.out, List.length_append, ← HN'.out, HL.out]), hid (by rw [HC2.out]; exact HO9.out), HB9⟩
          case measure => simp [intOf]; omega
        · obtain rfl : m = k := by omega
          have HE : Hid (ll.take m = ll) := hid (List.take_of_length_le (by rw [HM.out]; exact Nat.le_refl _))
          rw [HE.out] at HN' HO
          go_wp2
          go_ret
          have hNK : N' = K := by rw [HN'.out, sumCH_flat, HN.out]
          subst hNK
          exact ⟨Ar, cr, rfl, HO.out, HB.out⟩
end Go.Proofs.YtaadmgbmaekicaaGreatDoor.Sh
/-
  A call of a Go function by its contract, as one step of a region that draws.
-/
namespace Go.Proofs.YtaadmgbmaekicaaGreatDoor.Sh
open Go Go.RowKit

set_option linter.unusedSimpArgs false
set_option linter.unusedVariables false
theorem step_callG {P : Program} {ops : Array Oper} {o : Oper} {a : Act} {w : World} {K : Act → World → Prop} {Q : Exit → Act → World → Prop} {E : Prop} (hg : o.guard = none) {f : FuncId} {xs : Array Operand} {ts : Array TypeId}
    (hop : o.op = .call { callee := .value (.func f), args := xs, argTypes := ts }) (args : Array Value) (hx : xs.map a.eval = args) {R : Ending → World → Prop} (hC : Calls P f args w R)
    (he : ∀ args w, (callFunc f args).run P w = .ok (.enter f args) w)
    (h : ∀ e w', R e w' → ∃ v, e = .returned v ∧ K (a.put o.dst v) w') :
    if Region.wanted o (yielded ops a.tmps) = true then Oper.wp P o a w K Q else E := by
  have hw : Region.wanted o (yielded ops a.tmps) = true := by simp [Region.wanted, hg]
  rw [if_pos hw]
  unfold Oper.wp
  simp [execOp, hop, resolve, invoke, Result.andThen, hx, Deferred.ofValue, Act.eval, he]
  refine hC.mono fun e w' hr => ?_
  obtain ⟨v, rfl, hk⟩ := h e w' hr
  exact hk
end Go.Proofs.YtaadmgbmaekicaaGreatDoor.Sh
