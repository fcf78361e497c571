/-
  slices.Grow from nil and slices.Concat of bytes: however many slices, nil ones let in.
-/
import Derived.Test.YtaadmgbmaekicaaGreatDoorJn2
import Derived.Lib.AppendZerosOnto
import Derived.Test.YtaadmgbmaekicaaGreatDoorJn46
import Derived.Test.YtaadmgbmaekicaaGreatDoorJn39
import Derived.Test.YtaadmgbmaekicaaGreatDoorJn26
import Derived.Test.YtaadmgbmaekicaaGreatDoorJn42
set_option linter.unusedVariables false
set_option linter.unusedSimpArgs false
namespace Go.Proofs.YtaadmgbmaekicaaGreatDoor.Sh
open Go Go.RowKit

set_option maxHeartbeats 2000000 in
theorem grow_nil (n : Nat) (hn : n ≤ 70368744177664) (w : World) :
    Calls Tryz.prog 98 #[.slice none 0 0, .int .i64 n] w fun e w' => ∃ A c, e = .returned (.slice A 0 c) ∧ OwnB w' w.heap.size (.slice A 0 c) 0 [] ∧ Below w.heap.size w w' := by
  by_cases h0 : n = 0
  · subst h0
    go_enter Tryz.func98, Tryz.ntmps98
    go_wp2
    go_ret
    exact ⟨none, 0, rfl, OwnB.nil _ _, Below.refl _ _⟩
  · obtain ⟨i0, hi0, hz0, hz1, hz2⟩ := info_parts info_u8
    have hrz : ∀ ty, (Builtin.append_ #[22, 3] ty #[.slice none 0 0, .int .i64 (n : Int)]).run Tryz.prog w =
        .ok (.slice (some ⟨w.heap.size, 0, none⟩) n (grownCap w n 0 5)) (w.drew.alloc (.cells (#[] ++ Builtin.zeroCells (Value.int .u8 0).cells n ++ Builtin.zeroCells (Value.int .u8 0).cells (grownCap w n 0 5 - n)) 5)) := fun ty => by
      have h := Lib.run_append_grow_zeros w 22 3 ty 5 i0 (.int .u8 0) .i64 .i64 Tryz.underlying22 Tryz.underlying3 hi0 hz0 none 0 0 [] (run_firstCells_none (P := Tryz.prog) (w := w.drew) i0.size 0 0 0) n (by omega) (by omega) (by omega) (by omega) (by rw [hz2]; omega)
        (growslice_fits (by omega) (by rw [hz2]; omega))
      rw [Nat.zero_add] at h
      exact h
    have hG1 := grownCap_ge w n 0 5
    have hG2 := grownCap_le_maxLen w n 0 5 (by unfold maxLen; omega)
    have HO : Hid (∀ W : World, W = w.drew.alloc (.cells (#[] ++ Builtin.zeroCells (Value.int .u8 0).cells n ++ Builtin.zeroCells (Value.int .u8 0).cells (grownCap w n 0 5 - n)) 5) →
        OwnB W w.heap.size (.slice (some ⟨w.heap.size, 0, none⟩) 0 (grownCap w n 0 5)) 0 [] ∧ Below w.heap.size w W) := hid (by
      rintro W rfl
      refine ⟨⟨rfl, .inr ⟨w.heap.size, _, _, rfl, Nat.le_refl _, heap_alloc_new w.drew _, Nat.zero_le _, hG2, ?_, by simp [bv]⟩⟩, (Below.refl _ _).drew.alloc (Nat.le_refl _) _⟩
      rw [Array.size_append, Array.size_append, size_zeroCells, size_zeroCells]
      simp only [Value.cells]
      simp
      omega)
    obtain ⟨G, hG⟩ : ∃ G, grownCap w n 0 5 = G := ⟨_, rfl⟩
    rw [hG] at hrz hG1 hG2 HO
    unfold maxLen at hG2
    obtain ⟨w2, hw2⟩ : ∃ w2, w2 = w.drew.alloc (.cells (#[] ++ Builtin.zeroCells (Value.int .u8 0).cells n ++ Builtin.zeroCells (Value.int .u8 0).cells (G - n)) 5) := ⟨_, rfl⟩
    obtain ⟨o2, b2⟩ := HO.out w2 hw2
    rw [← hw2] at hrz
    have O2 := hid o2
    have B2 := hid b2
    have hn0 : 0 < (n : Int) := by omega
    clear HO hw2 hG o2 b2 hi0 hz0
    go_enter Tryz.func98, Tryz.ntmps98
    go_wp2_with (at_builtin; refine Lib.wpList_append_run _ rfl _ _ _ _ rfl _ _ rfl rfl _ _ (hrz _) ?_)
    go_ret
    exact ⟨_, _, rfl, O2.out, B2.out⟩

/-- A slice of bytes among others: its address, its length, its capacity, its bytes. -/
structure Sl where
  A : Option Addr
  n : Nat
  c : Nat
  l : List UInt8
def Sl.val (s : Sl) : Value := .slice s.A s.n s.c
/-- The slices ss lie from A on, each with its bytes. -/
def Sls (w : World) (B : Nat) (A : Option Addr) (ss : List Sl) : Prop :=
  0 < ss.length → ∃ ad, A = some ad ∧ ad.block < B ∧ ∀ j s, ss[j]? = some s → w.cell? (ad.add j) = some s.val ∧ s.l.length = s.n ∧ Byt w B s.A s.l
theorem Sls.below {w w' : World} {B : Nat} {A : Option Addr} {ss : List Sl} (h : Sls w B A ss) (hb : Below B w w') : Sls w' B A ss := fun hn => by
  obtain ⟨ad, e, hlt, hc⟩ := h hn
  exact ⟨ad, e, hlt, fun j s hs => ⟨(hb.cell (by rw [block_add]; exact hlt)).trans (hc j s hs).1, (hc j s hs).2.1, (hc j s hs).2.2.below hb⟩⟩
def sumN (ss : List Sl) : Nat := (ss.map (·.n)).sum
def catL (ss : List Sl) : List UInt8 := (ss.map (·.l)).flatten
theorem sumN_snoc (l : List Sl) (s : Sl) : sumN (l ++ [s]) = sumN l + s.n := by simp [sumN]
theorem catL_snoc (l : List Sl) (s : Sl) : catL (l ++ [s]) = catL l ++ s.l := by simp [catL]
theorem sumN_take (ss : List Sl) (k : Nat) : sumN (ss.take k) ≤ sumN ss := by
  have h : sumN ss = sumN (ss.take k) + sumN (ss.drop k) := by
    conv => lhs; rw [← List.take_append_drop k ss]
    unfold sumN
    rw [List.map_append, List.sum_append]
  omega
theorem sumN_take2 (ss : List Sl) (k : Nat) (s : Sl) (h : ss[k]? = some s) : sumN (ss.take k) + s.n ≤ sumN ss := by
  rw [← sumN_snoc, ← take_snoc_of h]; exact sumN_take ss _

set_option maxHeartbeats 4000000 in
theorem concat_any (A : Option Addr) (ss : List Sl) (m c : Nat) (hm : ss.length = m) (hmc : m ≤ 9223372036854775807) (hs : sumN ss ≤ 70368744177664) (w : World) (h : Sls w w.heap.size A ss) :
    Calls Tryz.prog 50 #[.slice A m c] w fun e w' => ∃ A' c', e = .returned (.slice A' (sumN ss) c') ∧ OwnB w' w.heap.size (.slice A' (sumN ss) c') (sumN ss) (catL ss) ∧ Below w.heap.size w w' := by
  have HM := hid hm
  have HS := hid h
  obtain ⟨N, hN⟩ : ∃ N, sumN ss = N := ⟨_, rfl⟩
  rw [hN] at hs ⊢
  have HN := hid hN
  have HG := hid (grow_nil N hs w)
  clear hm h hN
  go_enter Tryz.func50, Tryz.ntmps50
  go_wp2
  go_loop [3, 11] (fun z i => ∃ k K : Nat, k ≤ m ∧ K ≤ N ∧ i = .int .i64 k ∧ z = .int .i64 K ∧ Hid (K = sumN (ss.take k))) (fun _ i => m - (intOf i).toNat)
  case atStart => exact ⟨0, 0, Nat.zero_le _, Nat.zero_le _, rfl, rfl, hid rfl⟩
  case round =>
    obtain ⟨k, K, hk, hK, rfl, rfl, HK⟩ := hrel
    by_cases hlt : k < m
    · obtain ⟨s, hx⟩ : ∃ s, ss[k]? = some s := ⟨_, List.getElem?_eq_getElem (by rw [HM.out]; exact hlt)⟩
      obtain ⟨ad, rfl, -, hc⟩ := HS.out (by rw [HM.out]; omega)
      obtain ⟨hcell, -, -⟩ := hc k s hx
      have hle : K + s.n ≤ N := by rw [HK.out, ← HN.out]; exact sumN_take2 ss k s hx
      have HK2 : Hid (K + s.n = sumN (ss.take (k + 1))) := hid (by rw [take_snoc_of hx, sumN_snoc, HK.out])
      obtain ⟨sA, sn, sc, sl⟩ := s
      simp only at hle HK2
      unfold Sl.val at hcell
      simp only at hcell
      have hk0 : (0 : Int) ≤ (k : Int) := Int.natCast_nonneg _
      have hk1 : (k : Int) < (m : Int) := by omega
      have hle' : (K : Int) + (sn : Int) ≤ 70368744177664 := by omega
      have hnn : ¬ (K : Int) + (sn : Int) < 0 := by omega
      obtain ⟨ak, hak⟩ : ∃ ak, ad.add k = ak := ⟨_, rfl⟩
      have hak1 : ad.add (k * 1) = ak := by rw [Nat.mul_one]; exact hak
      rw [hak] at hcell
      clear hx hc
      go_wp2
      go_round
      case rel => exact ⟨k + 1, K + sn, by omega, by omega, by go_num, by go_num, HK2⟩
      case measure => simp [intOf]; omega
    · obtain rfl : m = k := by omega
      have hKN : K = N := by rw [HK.out, ← HN.out, List.take_of_length_le (by rw [HM.out]; exact Nat.le_refl _)]
      subst hKN
      go_wp2_with fail
      refine HG.out.mono ?_
      rintro er w1 ⟨A1, c1, rfl, o1, b1⟩
      have HW1 := hid b1
      go_wp2
      go_loopw [6, 27] (fun v i wr => ∃ (k N' cr : Nat) (Ar : Option Addr), k ≤ m ∧ N' ≤ K ∧ v = .slice Ar N' cr ∧ i = .int .i64 k ∧ Hid (N' = sumN (ss.take k)) ∧ OwnB wr w.heap.size (.slice Ar N' cr) N' (catL (ss.take k)) ∧ Below w.heap.size w wr) (fun _ i _ => m - (intOf i).toNat)
      case atStart => exact ⟨0, 0, c1, A1, Nat.zero_le _, Nat.zero_le _, rfl, rfl, hid rfl, o1, b1⟩
      case round =>
        clear o1 b1
        obtain ⟨k, N', cr, Ar, hk, hN', rfl, rfl, HN', own, bel⟩ := hrel
        by_cases hlt : k < m
        · obtain ⟨s, hx⟩ : ∃ s, ss[k]? = some s := ⟨_, List.getElem?_eq_getElem (by rw [HM.out]; exact hlt)⟩
          obtain ⟨ad, rfl, -, hc⟩ := (HS.out.below bel) (by rw [HM.out]; omega)
          obtain ⟨hcell, hsl, hby⟩ := hc k s hx
          have hle : N' + s.n ≤ K := by rw [HN'.out, ← HN.out]; exact sumN_take2 ss k s hx
          have HK2 : Hid (N' + s.n = sumN (ss.take (k + 1))) := hid (by rw [take_snoc_of hx, sumN_snoc, HN'.out])
          have HC2 : Hid (catL (ss.take (k + 1)) = catL (ss.take k) ++ s.l) := hid (by rw [take_snoc_of hx, catL_snoc])
          obtain ⟨sA, sn, sc, sl⟩ := s
          simp only at hle HK2 HC2 hsl hby
          unfold Sl.val at hcell
          simp only at hcell
          have hsl' := hid hsl
          have hby' := hby.reads
          have hk0 : (0 : Int) ≤ (k : Int) := Int.natCast_nonneg _
          have hk1 : (k : Int) < (m : Int) := by omega
          obtain ⟨ak, hak⟩ : ∃ ak, ad.add k = ak := ⟨_, rfl⟩
          have hak1 : ad.add (k * 1) = ak := by rw [Nat.mul_one]; exact hak
          rw [hak] at hcell
          obtain ⟨M, hM⟩ : ∃ M, N' + sn = M := ⟨_, rfl⟩
          have HMM := hid hM
          clear hx hc hsl hby hM
          go_wp2_with (at_builtin; refine wpList_appB rfl (.tmp 31) (.tmp 32) rfl w.heap.size (.slice Ar N' cr) N' _ own rfl sA sn sc sl rfl hsl'.out hby' (by omega) bel.size w bel M HMM.out ?_; intro A4 c4 w4 o4 _ b4; clear own bel hby' hcell)
          have o5 : Hid (OwnB w4 w.heap.size (.slice A4 M c4) M (catL (ss.take (k + 1)))) := hid (by rw [HC2.out]; exact o4)
          clear o4
          go_roundw
          case rel => exact ⟨k + 1, M, c4, A4, by omega, by have := HMM.out; omega, rfl, by go_num, hid (by rw [← HMM.out, HK2.out]), o5.out, b4⟩
          case measure => simp [intOf]; omega
        · obtain rfl : m = k := by omega
          have HE : Hid (ss.take m = ss) := hid (List.take_of_length_le (by rw [HM.out]; exact Nat.le_refl _))
          have O5 := hid own
          clear own
          go_wp2
          go_ret
          have hNK : N' = K := by rw [HN'.out, HE.out, HN.out]
          subst hNK
          exact ⟨Ar, cr, rfl, by rw [← HE.out]; exact O5.out, bel⟩
end Go.Proofs.YtaadmgbmaekicaaGreatDoor.Sh
/-
  The program's own Put of a token that may be, behind nothing, by contract. Written by mk_tkrdf.py.
-/
namespace Go.Proofs.YtaadmgbmaekicaaGreatDoor.Sh
open Go Go.RowKit

set_option linter.unusedSimpArgs false
set_option linter.unusedVariables false
theorem slsT_two {w : World} {A1 A2 : Option Addr} {n1 n2 c1 c2 : Nat} {l1 l2 : List UInt8} (t : TypeId) (h1 : Byt w w.heap.size A1 l1) (e1 : l1.length = n1) (h2 : Byt w w.heap.size A2 l2) (e2 : l2.length = n2) :
    Sls (w.alloc (.cells #[.slice A1 n1 c1, .slice A2 n2 c2] t)) (w.alloc (.cells #[.slice A1 n1 c1, .slice A2 n2 c2] t)).heap.size (some ⟨w.heap.size, 0, none⟩) [⟨A1, n1, c1, l1⟩, ⟨A2, n2, c2, l2⟩] := fun _ => by
  have b := (Below.refl w.heap.size w).alloc (Nat.le_refl _) (.cells #[.slice A1 n1 c1, .slice A2 n2 c2] t)
  refine ⟨_, rfl, by rw [World.size_alloc]; exact Nat.lt_succ_self _, fun j s hj => ?_⟩
  have hc : ∀ k v, #[Value.slice A1 n1 c1, .slice A2 n2 c2].toList[k]? = some v → (w.alloc (.cells #[.slice A1 n1 c1, .slice A2 n2 c2] t)).cell? (Addr.add ⟨w.heap.size, 0, none⟩ k) = some v := World.news_of_block (heap_alloc_new w _)
  match j, hj with
  | 0, hj => injection hj with hj; subst hj; exact ⟨hc 0 _ rfl, e1, (h1.below b).more b.size⟩
  | 1, hj => injection hj with hj; subst hj; exact ⟨hc 1 _ rfl, e2, (h2.below b).more b.size⟩
theorem catT_two (a b : Sl) : sumN [a, b] = a.n + b.n ∧ catL [a, b] = a.l ++ b.l := by simp [sumN, catL]
theorem ThAt.ownB {w w' : World} {X n : Nat} {v : Value} {l : List UInt8} {h : TH} (a : ThAt w X h) (ho : OwnB w (X + 1) v n l) (hg : w.grownBy w' v.ownBlock) : ThAt w' X h :=
  (hg.block X a.lt (fun e => by have := (World.ownsRow.lt ho X e.symm).1; omega)).trans a
/-- The token's bytes up to its k-th caveat. -/
def putTo (t : Tok) (k : Nat) : List UInt8 := headB t ++ enc t.cavs.length ++ (t.cavs.take k).flatMap cavB
theorem putTo_succ {t : Tok} {k : Nat} {c : Cav} (h : t.cavs[k]? = some c) : putTo t (k + 1) = putTo t k ++ cavB c := by
  unfold putTo
  rw [take_snoc_of h, List.flatMap_append]
  simp
theorem putTo_le {t : Tok} (ok : OkTok t) (k : Nat) : (putTo t k).length ≤ 4000 + 200 * k := by
  induction k with
  | zero =>
    have := headB_le ok
    have := enc_len_le (n := t.cavs.length) (by have := ok.cl; omega)
    unfold putTo
    simp
    omega
  | succ k ih =>
    by_cases hk : k < t.cavs.length
    · have hx : t.cavs[k]? = some t.cavs[k] := List.getElem?_eq_getElem hk
      rw [putTo_succ hx, List.length_append]
      have := cavB_le (ok.cavs _ (List.mem_of_getElem? hx))
      omega
    · have e : putTo t (k + 1) = putTo t k := by unfold putTo; rw [List.take_of_length_le (by omega), List.take_of_length_le (by omega)]
      rw [e]; omega
theorem putT_to {t : Tok} {k : Nat} (h : t.cavs.length ≤ k) : putT t = putTo t k ++ encText (bL t.tag) := by
  unfold putTo putT
  rw [List.take_of_length_le h]
  simp [List.append_assoc]
open Classical in
set_option maxHeartbeats 16000000 in
set_option maxRecDepth 100000 in
theorem pPut12_any {w : World} {Q : Nat → Prop} {th : TH} {t : Tok} (a : TokAt w Q th t) (ok : OkTok t) :
    Calls Tryz.prog 18 #[.slice none 0 0, .agg th.cells.toArray] w fun er w' => ∃ (A' : Option Addr) (N c' : Nat), er = .returned (.tuple #[.slice A' N c', .int .i64 0]) ∧ (putT t).length = N ∧ Byt w' w'.heap.size A' (putT t) ∧ Below w.heap.size w w' := by
  have HA := hid (fun W (hW : Below w.heap.size w W) => a.below hW)
  have HOK := hid ok
  have HF := hid (FewTok.ok ok)
  obtain ⟨d, e, m, who, rA, rn, rc, til, sA, sn, sc, cA, cn, cc, tA, tn, tc⟩ := th
  unfold TH.cells
  simp only at HA ⊢
  have HCL : Hid (t.cavs.length = cn) := hid a.cl
  have HC6 : Hid (cn ≤ 6) := hid (by have := ok.cl; have := a.cl; simp only at this; omega)
  have HTL : Hid (t.tag.length = tn) := hid a.tl
  have HT32 : Hid (tn = 32) := hid (by have := ok.tl; have := a.tl; simp only at this; omega)
  obtain ⟨w1, hw1⟩ : ∃ y, y = w.alloc (.cells #[.int .i64 d, .int .i64 e, .int .i64 m, .string who, .slice rA rn rc, .int .i64 til, .slice sA sn sc, .slice cA cn cc, .slice tA tn tc] 27) := ⟨_, rfl⟩
  have HB1 : Hid (Below w.heap.size w w1) := hid (by rw [hw1]; exact (Below.refl _ _).alloc (Nat.le_refl _) _)
  have HX1 : Hid (ThAt w1 w.heap.size ⟨d, e, m, who, rA, rn, rc, til, sA, sn, sc, cA, cn, cc, tA, tn, tc⟩) := hid (by rw [hw1]; exact ThAt.new w ⟨d, e, m, who, rA, rn, rc, til, sA, sn, sc, cA, cn, cc, tA, tn, tc⟩)
  have HM := hid (pMay12_any (HA.out w1 HB1.out) HF.out)
  simp only at HM
  rw [decide_eq_true ok] at HM
  have HW := hid hw1
  obtain ⟨c0, c1, c2, c3, c4, c5, c6, c7, c8⟩ := HX1.out.all
  simp only at c0 c1 c2 c3 c4 c5 c6 c7 c8
  clear a ok hw1
  go_enter Tryz.func18, Tryz.ntmps18
  go_upto_region 1 with fail
  rw [← HW.out]
  clear HW
  go_wp2_with fail
  refine HM.out.mono ?_
  rintro er w4 ⟨rfl, b4⟩
  have HX4 := hid (HX1.out.below b4)
  have HB4 := hid (HB1.out.trans (b4.mono HB1.out.size))
  clear b4 c0 c1 c2 c3 c4 c5 c6 c7 c8 HM HX1 HB1
  obtain ⟨c0, c1, c2, c3, c4, c5, c6, c7, c8⟩ := HX4.out.all
  simp only at c0 c1 c2 c3 c4 c5 c6 c7 c8
  go_upto_region 3 with fail
  have HD := hid (HB4.out.trans (((Below.refl w4.heap.size w4).drew).mono HB4.out.size))
  have HXD := hid (HX4.out.below (Below.refl _ _).drew)
  have HP := hid (phead_any (HA.out w4.drew HD.out) HOK.out)
  simp only at HP
  have HNB := hid (fun (A5 : Option Addr) (N5 c5 : Nat) (W : World) (hl : (headB t).length = N5) (hb : Byt W W.heap.size A5 (headB t)) => number_any A5 (headB t) (cn : Int) N5 c5 hl (by have := headB_le HOK.out; omega) (by have := HC6.out; omega) (by have := HC6.out; omega) W hb)
  go_region_law
    ((first
    | (refine step_callG (by rfl) (f := 21) (by rfl) _ (by simp [Act.eval, Act.put]) HP.out (enters_of Tryz.func21 (by kernel_rfl) rfl) ?_; rintro er w5 ⟨A5, k5, N5, rfl, hN5, hk5, hm5, o5, b5⟩; have HN5 : Hid ((headB t).length = N5) := hid (by rw [hN5]; simp); have HY5 : Hid (Byt w5 w5.heap.size A5 (headB t)) := hid o5.byt; have HB5 := hid (HD.out.trans (b5.mono HD.out.size)); have HX5 := hid (HXD.out.below b5); clear hN5 hk5 hm5 o5 b5; have j7 := HX5.out.all.2.2.2.2.2.2.2.1; simp only at j7; refine ⟨_, rfl, ?_⟩)
    | (refine step_callG (by rfl) (f := 48) (by rfl) _ (by simp [Act.eval, Act.put]) (HNB.out A5 N5 k5 w5 HN5.out HY5.out) (enters_of Tryz.func48 (by kernel_rfl) rfl) ?_; rintro er w6 ⟨A6, k6, N6, rfl, hN6, hk6, hm6, o6, b6⟩; have HN6 := hid hN6; have HO6 := hid o6; have HB6 := hid (HB5.out.trans (b6.mono HB5.out.size)); have HX6 := hid (HX5.out.below b6); have HS5 : Hid (w.heap.size + 1 ≤ w5.heap.size) := hid HX5.out.lt; clear hN6 hk6 hm6 o6 b6; refine ⟨_, rfl, ?_⟩)))
  all_goals
    have HO : Hid (OwnB w6 (w.heap.size + 1) (.slice A6 N6 k6) N6 (putTo t 0)) := hid (OwnB.mono (by
      have e : putTo t 0 = headB t ++ enc ((cn : Int)).toNat := by unfold putTo; rw [HCL.out]; simp
      rw [e]; exact HO6.out) HS5.out)
    have HN0 : Hid ((putTo t 0).length = N6) := hid (by rw [HN6.out]; unfold putTo; rw [HCL.out]; simp)
    clear HN6 HO6 HS5 HB5 HX5 HN5 HY5 j7 c0 c1 c2 c3 c4 c5 c6 c7 c8
    obtain ⟨c0, c1, c2, c3, c4, c5, c6, c7, c8⟩ := HX6.out.all
    simp only at c0 c1 c2 c3 c4 c5 c6 c7 c8
    go_wp2_with fail
    go_loopw [6, 21] (fun v i wr => ∃ (A1 : Option Addr) (k1 N1 j : Nat), v = .slice A1 N1 k1 ∧ i = .int .i64 (j : Int) ∧ j ≤ cn ∧ Hid ((putTo t j).length = N1) ∧ Hid (OwnB wr (w.heap.size + 1) (.slice A1 N1 k1) N1 (putTo t j)) ∧ Hid (Below w.heap.size w wr) ∧ Hid (ThAt wr w.heap.size ⟨d, e, m, who, rA, rn, rc, til, sA, sn, sc, cA, cn, cc, tA, tn, tc⟩)) (fun _ i _ => cn - (intOf i).toNat)
    case atStart => exact ⟨A6, k6, N6, 0, rfl, rfl, Nat.zero_le _, HN0, HO, HB6, HX6⟩
    case round =>
      clear c0 c1 c2 c3 c4 c5 c6 c7 c8 HN0 HO HB6 HX6
      obtain ⟨wj, hwj⟩ : ∃ x, x = wr := ⟨_, rfl⟩
      subst hwj
      obtain ⟨A1, k1, N1, j, rfl, rfl, hj, HN, HO, HB, HX⟩ := hrel
      have hj0 : (0 : Int) ≤ (j : Int) := Int.natCast_nonneg _
      have hcn6 := HC6.out
      by_cases hlt : j < cn
      · have hj1 : (j : Int) < (cn : Int) := by omega
        obtain ⟨cv, hcv⟩ : ∃ r, t.cavs[j]? = some r := ⟨_, List.getElem?_eq_getElem (by rw [HCL.out]; exact hlt)⟩
        have HPS : Hid (putTo t (j + 1) = putTo t j ++ cavB cv) := hid (putTo_succ hcv)
        have HCO := hid (HOK.out.cavs cv (List.mem_of_getElem? hcv))
        have HLE : Hid (N1 ≤ 4000 + 200 * j) := hid (by rw [← HN.out]; exact putTo_le HOK.out j)
        obtain ⟨ad, aj, x, hA, hab, haj, hbj, hca, x0, x1, x2, x3⟩ := (HA.out wj HB.out).ce.at hcv
        simp only at hA
        subst hA
        obtain ⟨xk, xA, xn, xc, xt, xa⟩ := x
        simp only at x0 x1 x2 x3
        have haj2 : ad.add (j * 4) = aj := haj
        obtain ⟨u1, hu1⟩ : ∃ y, y = wj.alloc (.cells #[.int .i64 xk, .slice xA xn xc, .int .i64 xt, .string xa] 51) := ⟨_, rfl⟩
        have hbu1 : Below wj.heap.size wj u1 := by rw [hu1]; exact (Below.refl _ _).alloc (Nat.le_refl _) _
        have HC1 : Hid (ChAt u1 wj.heap.size ⟨xk, xA, xn, xc, xt, xa⟩) := hid (by rw [hu1]; exact ChAt.new wj ⟨xk, xA, xn, xc, xt, xa⟩)
        have HO1 : Hid (OwnB u1 (w.heap.size + 1) (.slice A1 N1 k1) N1 (putTo t j)) := hid (by rw [hu1]; exact World.ownsRow.alloc HO.out _)
        have HB1 := hid (HB.out.trans (hbu1.mono HB.out.size))
        have HX1 := hid (HX.out.below hbu1)
        have HPC := hid (pcaveat_any (hca.kept (fun b _ hl => hbu1.block b hl) hbu1.size) HCO.out)
        simp only at HPC
        have HU1 := hid hu1
        clear hcv hab haj hbj hca hu1 hbu1 HO HB HX
        go_upto_region 7 with fail
        rw [← HU1.out]
        clear HU1 x0 x1 x2 x3
        obtain ⟨v0, v1, v2, v3⟩ := HC1.out.all
        simp only at v0 v1 v2 v3
        go_wp2_with fail
        refine HPC.out.mono ?_
        rintro er w8 hP
        obtain ⟨A8, k8, N8, rfl, hN8, hk8, hm8, o8, b8⟩ := hP
        have HO8 : Hid (OwnB w8 (w.heap.size + 1) (.slice A1 N1 k1) N1 (putTo t j)) := hid (OwnB.below HO1.out b8)
        have HB8 := hid (HB1.out.trans (b8.mono HB1.out.size))
        have HX8 := hid (HX1.out.below b8)
        have hl8 : (cavB cv).length = N8 := by rw [hN8]; simp
        have HR8 := hid (Byt.reads (show Byt w8 w8.heap.size A8 (cavB cv) from o8.byt))
        have hcb := cavB_le HCO.out
        have HL8 := hid hl8
        have HBD : Hid (N1 + N8 ≤ 70368744177664) := hid (by have := HLE.out; have := HC6.out; omega)
        clear hN8 hk8 hm8 o8 b8 hl8 hcb HO1 HB1 HX1 HC1 v0 v1 v2 v3
        go_wp2_with (first | (at_builtin; refine wpList_appB rfl (.tmp 25) (.tmp 27) rfl (w.heap.size + 1) (.slice A1 N1 k1) N1 (putTo t j) HO8.out rfl A8 N8 k8 (cavB cv) rfl HL8.out HR8.out HBD.out HX8.out.lt w8 (Below.refl _ _) (N1 + N8) rfl ?_; intro A9 k9 w9 o9 g9 b9; have HO9 := hid o9; have HB9 : Hid (Below w.heap.size w w9) := hid (HB8.out.grown g9 HB8.out.size (fun g e => Nat.le_of_succ_le (World.ownsRow.lt HO8.out g e).1)); have HX9 := hid (HX8.out.ownB HO8.out g9); clear o9 g9 b9) | go_in)
        go_roundw
        case rel => exact ⟨A9, k9, N1 + N8, j + 1, rfl, by go_num, by omega, hid (by rw [HPS.out, List.length_append, HN.out, HL8.out]), hid (by rw [HPS.out]; exact HO9.out), HB9, HX9⟩
        case measure => simp [intOf]; omega
      · obtain rfl : j = cn := by omega
        have hk1 : ¬ (j : Int) < (j : Int) := by omega
        obtain ⟨c0, c1, c2, c3, c4, c5, c6, c7, c8⟩ := HX.out.all
        simp only at c0 c1 c2 c3 c4 c5 c6 c7 c8
        have HLE : Hid (N1 ≤ 4000 + 200 * j) := hid (by rw [← HN.out]; exact putTo_le HOK.out j)
        have HPT : Hid (putT t = putTo t j ++ encText (bL t.tag)) := hid (putT_to (by rw [HCL.out]; exact Nat.le_refl _))
        have hcvt := conv_byt (c := tc) ((HA.out wj HB.out).te.byt) HTL.out
        simp only at hcvt
        have hts : (⟨t.tag.toArray⟩ : ByteArray).size ≤ 1099511627776 := by show t.tag.toArray.size ≤ _; rw [List.size_toArray, HTL.out, HT32.out]; omega
        have HTX := hid (text_any A1 (putTo t j) ⟨t.tag.toArray⟩ N1 k1 HN.out (by have := HLE.out; have := HC6.out; omega) hts wj (show Byt wj wj.heap.size A1 (putTo t j) from HO.out.byt))
        clear hts
        go_wp2_with fail
        refine HTX.out.mono ?_
        rintro er w7 ⟨A7, k7, N7, rfl, hN7, hk7, hm7, o7, b7⟩
        have hl7 : (putT t).length = N7 := by rw [HPT.out, hN7, List.length_append]; rfl
        have y7 : Byt w7 w7.heap.size A7 (putT t) := by rw [HPT.out]; exact o7.byt
        have HB7 := hid (HB.out.trans (b7.mono HB.out.size))
        have hle7 : N7 ≤ 70368744177664 := by
          rw [← hl7, HPT.out, List.length_append, HN.out]
          have h1 : (encText (bL t.tag)).length ≤ 50 := by
            rw [encText_length]
            have e : (bL t.tag).size = 32 := by show t.tag.toArray.size = _; rw [List.size_toArray, HTL.out, HT32.out]
            rw [e]
            have := enc_len_le (n := 32) (by omega)
            omega
          have := HLE.out
          have := HC6.out
          omega
        have HSL := hid (slsT_two (A1 := none) (n1 := 0) (c1 := 0) (l1 := []) (c2 := k7) 22 (fun h => absurd h (by simp)) rfl y7 hl7)
        have HS := hid (catT_two ⟨none, 0, 0, []⟩ ⟨A7, N7, k7, putT t⟩)
        simp only at HS
        have HCC := hid (concat_any (some ⟨w7.heap.size, 0, none⟩) [⟨none, 0, 0, []⟩, ⟨A7, N7, k7, putT t⟩] 2 2 rfl (by omega) (by rw [HS.out.1]; omega) _ HSL.out)
        rw [HS.out.1, HS.out.2, List.nil_append, Nat.zero_add] at HCC
        have HL7 := hid hl7
        clear hN7 hk7 hm7 o7 b7 hl7 y7 hle7 c0 c1 c2 c3 c4 c5 c6 c7 c8 hcvt
        go_wp2_with fail
        refine HCC.out.mono ?_
        rintro er w9 ⟨A9, k9, rfl, o9, b9⟩
        have HY9 : Hid (Byt w9 w9.heap.size A9 (putT t)) := hid o9.byt
        have HB9 := hid ((HB7.out.alloc HB7.out.size _).trans (b9.mono (by rw [World.size_alloc]; exact Nat.le_succ_of_le HB7.out.size)))
        clear o9 b9
        go_wp2
        go_ret2
        exact ⟨A9, N7, k9, rfl, HL7.out, HY9.out, HB9.out⟩
end Go.Proofs.YtaadmgbmaekicaaGreatDoor.Sh
