/-
  slices.Grow from nil and slices.Concat of bytes: however many slices, nil ones let in.
-/
import Derived.Test.YtkaakbgpkpkeeaaBaApp
import Derived.Lib.AppendZerosOnto
namespace Go.Proofs.Ytkaakbgpkpkeeaa.Sh
open Go Go.RowKit

set_option maxHeartbeats 2000000 in
theorem grow_nil (n : Nat) (hn : n ≤ 70368744177664) (w : World) :
    Calls Try.prog 48 #[.slice none 0 0, .int .i64 n] w fun e w' => ∃ A c, e = .returned (.slice A 0 c) ∧ OwnB w' w.heap.size (.slice A 0 c) 0 [] ∧ Below w.heap.size w w' := by
  by_cases h0 : n = 0
  · subst h0
    go_enter Try.func48, Try.ntmps48
    go_wp2
    go_ret
    exact ⟨none, 0, rfl, OwnB.nil _ _, Below.refl _ _⟩
  · obtain ⟨i0, hi0, hz0, hz1, hz2⟩ := info_parts info_u8
    have hrz : ∀ ty, (Builtin.append_ #[32, 3] ty #[.slice none 0 0, .int .i64 (n : Int)]).run Try.prog w =
        .ok (.slice (some ⟨w.heap.size, 0, none⟩) n (grownCap w n 0 5)) (w.drew.alloc (.cells (#[] ++ Builtin.zeroCells (Value.int .u8 0).cells n ++ Builtin.zeroCells (Value.int .u8 0).cells (grownCap w n 0 5 - n)) 5)) := fun ty => by
      have h := Lib.run_append_grow_zeros w 32 3 ty 5 i0 (.int .u8 0) .i64 .i64 Try.underlying32 Try.underlying3 hi0 hz0 none 0 0 [] (run_firstCells_none (P := Try.prog) (w := w.drew) i0.size 0 0 0) n (by omega) (by omega) (by omega) (by omega) (by rw [hz2]; omega)
        (growslice_fits (by omega) (by rw [hz2]; omega))
      rw [Nat.zero_add] at h
      exact h
    have hG1 := grownCap_ge w n 0 5
    have hG2 := grownCap_le_maxLen w n 0 5 (by unfold maxLen; omega)
    have HO : Hid (∀ W : World, W = w.drew.alloc (.cells (#[] ++ Builtin.zeroCells (Value.int .u8 0).cells n ++ Builtin.zeroCells (Value.int .u8 0).cells (grownCap w n 0 5 - n)) 5) →
        OwnB W w.heap.size (.slice (some ⟨w.heap.size, 0, none⟩) 0 (grownCap w n 0 5)) 0 [] ∧ Below w.heap.size w W) := hid (by
      rintro W rfl
      refine ⟨⟨rfl, .inr ⟨w.heap.size, _, _, rfl, Nat.le_refl _, heap_alloc_new w.drew _, Nat.zero_le _, hG2, ?_, by simp [bv]⟩⟩, (Below.refl _ _).drew.alloc (Nat.le_refl _) _⟩
      rw [Array.size_append, Array.size_append, size_zeroCells, size_zeroCells]
      simp only [Value.cells]
      simp
      omega)
    obtain ⟨G, hG⟩ : ∃ G, grownCap w n 0 5 = G := ⟨_, rfl⟩
    rw [hG] at hrz hG1 hG2 HO
    unfold maxLen at hG2
    obtain ⟨w2, hw2⟩ : ∃ w2, w2 = w.drew.alloc (.cells (#[] ++ Builtin.zeroCells (Value.int .u8 0).cells n ++ Builtin.zeroCells (Value.int .u8 0).cells (G - n)) 5) := ⟨_, rfl⟩
    obtain ⟨o2, b2⟩ := HO.out w2 hw2
    rw [← hw2] at hrz
    have O2 := hid o2
    have B2 := hid b2
    have hn0 : 0 < (n : Int) := by omega
    clear HO hw2 hG o2 b2 hi0 hz0
    go_enter Try.func48, Try.ntmps48
    go_wp2_with (at_builtin; refine Lib.wpList_append_run _ rfl _ _ _ _ rfl _ _ rfl rfl _ _ (hrz _) ?_)
    go_ret
    exact ⟨_, _, rfl, O2.out, B2.out⟩

/-- A slice of bytes among others: its address, its length, its capacity, its bytes. -/
structure Sl where
  A : Option Addr
  n : Nat
  c : Nat
  l : List UInt8
def Sl.val (s : Sl) : Value := .slice s.A s.n s.c
/-- The slices ss lie from A on, each with its bytes. -/
def Sls (w : World) (B : Nat) (A : Option Addr) (ss : List Sl) : Prop :=
  0 < ss.length → ∃ ad, A = some ad ∧ ad.block < B ∧ ∀ j s, ss[j]? = some s → w.cell? (ad.add j) = some s.val ∧ s.l.length = s.n ∧ Byt w B s.A s.l
theorem Sls.below {w w' : World} {B : Nat} {A : Option Addr} {ss : List Sl} (h : Sls w B A ss) (hb : Below B w w') : Sls w' B A ss := fun hn => by
  obtain ⟨ad, e, hlt, hc⟩ := h hn
  exact ⟨ad, e, hlt, fun j s hs => ⟨(hb.cell (by rw [block_add]; exact hlt)).trans (hc j s hs).1, (hc j s hs).2.1, (hc j s hs).2.2.below hb⟩⟩
def sumN (ss : List Sl) : Nat := (ss.map (·.n)).sum
def catL (ss : List Sl) : List UInt8 := (ss.map (·.l)).flatten
theorem sumN_snoc (l : List Sl) (s : Sl) : sumN (l ++ [s]) = sumN l + s.n := by simp [sumN]
theorem catL_snoc (l : List Sl) (s : Sl) : catL (l ++ [s]) = catL l ++ s.l := by simp [catL]
theorem sumN_take (ss : List Sl) (k : Nat) : sumN (ss.take k) ≤ sumN ss := by
  have h : sumN ss = sumN (ss.take k) + sumN (ss.drop k) := by
    conv => lhs; rw [← List.take_append_drop k ss]
    unfold sumN
    rw [List.map_append, List.sum_append]
  omega
theorem sumN_take2 (ss : List Sl) (k : Nat) (s : Sl) (h : ss[k]? = some s) : sumN (ss.take k) + s.n ≤ sumN ss := by
  rw [← sumN_snoc, ← take_snoc_of h]; exact sumN_take ss _

set_option maxHeartbeats 4000000 in
theorem concat_any (A : Option Addr) (ss : List Sl) (m c : Nat) (hm : ss.length = m) (hmc : m ≤ 9223372036854775807) (hs : sumN ss ≤ 70368744177664) (w : World) (h : Sls w w.heap.size A ss) :
    Calls Try.prog 41 #[.slice A m c] w fun e w' => ∃ A' c', e = .returned (.slice A' (sumN ss) c') ∧ OwnB w' w.heap.size (.slice A' (sumN ss) c') (sumN ss) (catL ss) ∧ Below w.heap.size w w' := by
  have HM := hid hm
  have HS := hid h
  obtain ⟨N, hN⟩ : ∃ N, sumN ss = N := ⟨_, rfl⟩
  rw [hN] at hs ⊢
  have HN := hid hN
  have HG := hid (grow_nil N hs w)
  clear hm h hN
  go_enter Try.func41, Try.ntmps41
  go_wp2
  go_loop [3, 11] (fun z i => ∃ k K : Nat, k ≤ m ∧ K ≤ N ∧ i = .int .i64 k ∧ z = .int .i64 K ∧ Hid (K = sumN (ss.take k))) (fun _ i => m - (intOf i).toNat)
  case atStart => exact ⟨0, 0, Nat.zero_le _, Nat.zero_le _, rfl, rfl, hid rfl⟩
  case round =>
    obtain ⟨k, K, hk, hK, rfl, rfl, HK⟩ := hrel
    by_cases hlt : k < m
    · obtain ⟨s, hx⟩ : ∃ s, ss[k]? = some s := ⟨_, List.getElem?_eq_getElem (by rw [HM.out]; exact hlt)⟩
      obtain ⟨ad, rfl, -, hc⟩ := HS.out (by rw [HM.out]; omega)
      obtain ⟨hcell, -, -⟩ := hc k s hx
      have hle : K + s.n ≤ N := by rw [HK.out, ← HN.out]; exact sumN_take2 ss k s hx
      have HK2 : Hid (K + s.n = sumN (ss.take (k + 1))) := hid (by rw [take_snoc_of hx, sumN_snoc, HK.out])
      obtain ⟨sA, sn, sc, sl⟩ := s
      simp only at hle HK2
      unfold Sl.val at hcell
      simp only at hcell
      have hk0 : (0 : Int) ≤ (k : Int) := Int.natCast_nonneg _
      have hk1 : (k : Int) < (m : Int) := by omega
      have hle' : (K : Int) + (sn : Int) ≤ 70368744177664 := by omega
      have hnn : ¬ (K : Int) + (sn : Int) < 0 := by omega
      obtain ⟨ak, hak⟩ : ∃ ak, ad.add k = ak := ⟨_, rfl⟩
      have hak1 : ad.add (k * 1) = ak := by rw [Nat.mul_one]; exact hak
      rw [hak] at hcell
      clear hx hc
      go_wp2
      go_round
      case rel => exact ⟨k + 1, K + sn, by omega, by omega, by go_num, by go_num, HK2⟩
      case measure => simp [intOf]; omega
    · obtain rfl : m = k := by omega
      have hKN : K = N := by rw [HK.out, ← HN.out, List.take_of_length_le (by rw [HM.out]; exact Nat.le_refl _)]
      subst hKN
      go_wp2_with fail
      refine HG.out.mono ?_
      rintro er w1 ⟨A1, c1, rfl, o1, b1⟩
      have HW1 := hid b1
      go_wp2
      go_loopw [6, 27] (fun v i wr => ∃ (k N' cr : Nat) (Ar : Option Addr), k ≤ m ∧ N' ≤ K ∧ v = .slice Ar N' cr ∧ i = .int .i64 k ∧ Hid (N' = sumN (ss.take k)) ∧ OwnB wr w.heap.size (.slice Ar N' cr) N' (catL (ss.take k)) ∧ Below w.heap.size w wr) (fun _ i _ => m - (intOf i).toNat)
      case atStart => exact ⟨0, 0, c1, A1, Nat.zero_le _, Nat.zero_le _, rfl, rfl, hid rfl, o1, b1⟩
      case round =>
        clear o1 b1
        obtain ⟨k, N', cr, Ar, hk, hN', rfl, rfl, HN', own, bel⟩ := hrel
        by_cases hlt : k < m
        · obtain ⟨s, hx⟩ : ∃ s, ss[k]? = some s := ⟨_, List.getElem?_eq_getElem (by rw [HM.out]; exact hlt)⟩
          obtain ⟨ad, rfl, -, hc⟩ := (HS.out.below bel) (by rw [HM.out]; omega)
          obtain ⟨hcell, hsl, hby⟩ := hc k s hx
          have hle : N' + s.n ≤ K := by rw [HN'.out, ← HN.out]; exact sumN_take2 ss k s hx
          have HK2 : Hid (N' + s.n = sumN (ss.take (k + 1))) := hid (by rw [take_snoc_of hx, sumN_snoc, HN'.out])
          have HC2 : Hid (catL (ss.take (k + 1)) = catL (ss.take k) ++ s.l) := hid (by rw [take_snoc_of hx, catL_snoc])
          obtain ⟨sA, sn, sc, sl⟩ := s
          simp only at hle HK2 HC2 hsl hby
          unfold Sl.val at hcell
          simp only at hcell
          have hsl' := hid hsl
          have hby' := hby.reads
          have hk0 : (0 : Int) ≤ (k : Int) := Int.natCast_nonneg _
          have hk1 : (k : Int) < (m : Int) := by omega
          obtain ⟨ak, hak⟩ : ∃ ak, ad.add k = ak := ⟨_, rfl⟩
          have hak1 : ad.add (k * 1) = ak := by rw [Nat.mul_one]; exact hak
          rw [hak] at hcell
          obtain ⟨M, hM⟩ : ∃ M, N' + sn = M := ⟨_, rfl⟩
          have HMM := hid hM
          clear hx hc hsl hby hM
          go_wp2_with (at_builtin; refine wpList_appB rfl (.tmp 31) (.tmp 32) rfl w.heap.size (.slice Ar N' cr) N' _ own rfl sA sn sc sl rfl hsl'.out hby' (by omega) bel.size w bel M HMM.out ?_; intro A4 c4 w4 o4 _ b4; clear own bel hby' hcell)
          have o5 : Hid (OwnB w4 w.heap.size (.slice A4 M c4) M (catL (ss.take (k + 1)))) := hid (by rw [HC2.out]; exact o4)
          clear o4
          go_roundw
          case rel => exact ⟨k + 1, M, c4, A4, by omega, by have := HMM.out; omega, rfl, by go_num, hid (by rw [← HMM.out, HK2.out]), o5.out, b4⟩
          case measure => simp [intOf]; omega
        · obtain rfl : m = k := by omega
          have HE : Hid (ss.take m = ss) := hid (List.take_of_length_le (by rw [HM.out]; exact Nat.le_refl _))
          have O5 := hid own
          clear own
          go_wp2
          go_ret
          have hNK : N' = K := by rw [HN'.out, HE.out, HN.out]
          subst hNK
          exact ⟨Ar, cr, rfl, by rw [← HE.out]; exact O5.out, bel⟩
end Go.Proofs.Ytkaakbgpkpkeeaa.Sh
