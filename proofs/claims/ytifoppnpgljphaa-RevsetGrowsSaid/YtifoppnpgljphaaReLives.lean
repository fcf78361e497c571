/-
  The document's examples of layer 11.
-/
import Derived.Test.YtifoppnpgljphaaReLawD
namespace Go.Proofs.Ytifoppnpgljphaa.Sh
open Go Go.RowKit

set_option linter.unusedSimpArgs false
set_option linter.unusedVariables false
theorem okr_of {l : List Int} (h1 : l.length ≤ 32) (h2 : l.all (fun z => decide (1 ≤ z ∧ z ≤ 4000)) = true) (h3 : l.Nodup) : OkR l :=
  ⟨h1, fun z hz => by have := List.all_eq_true.1 h2 z hz; simpa using this, h3⟩
def T1 : Nat → List Int := up S0 1 [5]
def T2 : Nat → List Int := up T1 1 [5, 3]
def T3 : Nat → List Int := up T2 1 [5, 3, 9]
theorem T1_1 : T1 1 = [5] := rfl
theorem T2_1 : T2 1 = [5, 3] := rfl
theorem T3_1 : T3 1 = [5, 3, 9] := rfl
theorem lv1 : addE S0 2 5 = 0 ∧ addS S0 2 5 = T1 := addE_ok (S := S0) (k := 1) (q := 5) (by omega) (by omega) (by omega) (by simp [S0]) (by simp [S0])
theorem lv2 : addE T1 2 3 = 0 ∧ addS T1 2 3 = T2 := addE_ok (S := T1) (k := 1) (q := 3) (by omega) (by omega) (by omega) (by rw [T1_1]; decide) (by rw [T1_1]; decide)
theorem lv3 : rowS T2 2 = [5, 3] := rfl
theorem lv4 : vecS T2 = [0, 2] := by decide +kernel
theorem lv5 : deltaS T2 [0, 1] = [[], [3]] := by decide +kernel
theorem T2_0 : T2 0 = [] := rfl
theorem mr1 : mrow (T2 1) 2 [9] = [5, 3, 9] := mrow_yes (row := [5, 3]) (k := 2) (l := [9]) ⟨by decide, okr_of (by decide) (by decide) (by decide), by decide, by decide⟩
theorem mr2 : mrow (T3 1) 7 [8] = [5, 3, 9] := mrow_no (row := [5, 3, 9]) (k := 7) (l := [8]) (fun h => by have := h.1; simp at this)
theorem va2 : vat [0, 2] 1 = 2 := by decide +kernel
theorem va7 : vat [0, 7] 1 = 7 := by decide +kernel
theorem lv6 : mergeN T2 [0, 2] [[], [9]] 16 = 1 ∧ mergeS T2 [0, 2] [[], [9]] 16 = T3 := by
  have h0 : mrow (T2 0) (vat [0, 2] 0).toNat (([[], [9]] : List (List Int)).getD 0 []) = T2 0 := mrow_nil _ _
  have h1 : mrow (T2 1) (vat [0, 2] 1).toNat (([[], [9]] : List (List Int)).getD 1 []) = [5, 3, 9] := by rw [va2]; exact mr1
  obtain ⟨a0, b0⟩ := merge_skip (S := T2) (known := [0, 2]) (more := [[], [9]]) (j := 0) h0
  constructor
  · rw [← mergeN_stop16 T2 [0, 2] [[], [9]] (j := 2) (by decide) (by omega)]
    show mergeN T2 [0, 2] [[], [9]] 1 + _ = 1
    rw [b0, h1]; rfl
  · rw [← mergeS_stop T2 [0, 2] [[], [9]] (j := 2) (by decide) (by omega), mergeS_succ, h1, a0, mergeS_zero]
    rfl
theorem lv7 : mergeN T3 [0, 7] [[], [8]] 16 = 0 ∧ mergeS T3 [0, 7] [[], [8]] 16 = T3 := by
  have h0 : mrow (T3 0) (vat [0, 7] 0).toNat (([[], [8]] : List (List Int)).getD 0 []) = T3 0 := mrow_nil _ _
  have h1 : mrow (T3 1) (vat [0, 7] 1).toNat (([[], [8]] : List (List Int)).getD 1 []) = T3 1 := by rw [va7]; exact mr2
  obtain ⟨a0, b0⟩ := merge_skip (S := T3) (known := [0, 7]) (more := [[], [8]]) (j := 0) h0
  obtain ⟨a1, b1⟩ := merge_skip (S := T3) (known := [0, 7]) (more := [[], [8]]) (j := 1) h1
  constructor
  · rw [← mergeN_stop16 T3 [0, 7] [[], [8]] (j := 2) (by decide) (by omega), b1, b0]; rfl
  · rw [← mergeS_stop T3 [0, 7] [[], [8]] (j := 2) (by decide) (by omega), a1, a0, mergeS_zero]
theorem lv8 : hasS T3 2 9 := (hasS_at (S := T3) (k := 1) (q := 9) (by omega)).2 (by rw [T3_1]; decide)
theorem lv9 : addE T3 2 9 = 14 := addE_in (S := T3) (k := 1) (q := 9) (by omega) (by omega) (by omega) (by rw [T3_1]; decide)
theorem els_litN (w : World) (cs : Array Value) (l : List Int) (h : cs.toList = ev encN l) (B : Nat) (hB : w.heap.size < B) : Els encN (w.alloc (.cells cs 3)) B (some ⟨w.heap.size, 0, none⟩) l := fun hn => by
  refine ⟨_, rfl, hB, fun i u hu => ?_⟩
  rw [← h] at hu
  rw [addr_rowN, cell_of_row _ _ i _ _ (0, 0) (heap_alloc_new w _)]
  simpa using hu
/-- [[], [z]] as a literal: its row, then its list. -/
theorem lls_lit (w : World) (z : Int) : LlsQ ((w.alloc (.cells #[.int .i64 z] 3)).alloc (.cells #[.slice none 0 0, .slice (some ⟨w.heap.size, 0, none⟩) 1 1] 30)) (fun b => w.heap.size ≤ b) (some ⟨w.heap.size + 1, 0, none⟩) [[], [z]] := by
  have hb : Below (w.alloc (.cells #[.int .i64 z] 3)).heap.size (w.alloc (.cells #[.int .i64 z] 3)) ((w.alloc (.cells #[.int .i64 z] 3)).alloc (.cells #[.slice none 0 0, .slice (some ⟨w.heap.size, 0, none⟩) 1 1] 30)) := (Below.refl _ _).alloc (Nat.le_refl _) _
  have h1 : ElsQ encN (w.alloc (.cells #[.int .i64 z] 3)) (fun b => w.heap.size ≤ b) (some ⟨w.heap.size, 0, none⟩) [z] := fun hn => by
    obtain ⟨ad, e, _, hc⟩ := els_litN w #[.int .i64 z] [z] rfl (w.heap.size + 1) (by omega) hn
    injection e with e
    subst e
    exact ⟨_, rfl, Nat.le_refl _, by simp, hc⟩
  have hh := heap_alloc_new (w.alloc (.cells #[.int .i64 z] 3)) (.cells #[.slice none 0 0, .slice (some ⟨w.heap.size, 0, none⟩) 1 1] 30)
  rw [World.size_alloc] at hh
  refine ⟨[⟨none, 0, 0⟩, ⟨some ⟨w.heap.size, 0, none⟩, 1, 1⟩], rfl, fun _ => ⟨_, rfl, by simp, by simp, fun i u hu => ?_⟩, fun i x l hx hl => ?_⟩
  · rw [addr_rowN, cell_of_row _ _ i _ _ (0, 0) hh]
    rw [ev_hd] at hu
    simpa [Hd.val] using hu
  · match i, hx, hl with
    | 0, hx, hl =>
      simp at hx hl; subst hx; subst hl
      exact ⟨rfl, Nat.le_refl _, by show (0 : Nat) ≤ _; omega, ElsQ.nil⟩
    | 1, hx, hl =>
      simp at hx hl; subst hx; subst hl
      exact ⟨rfl, Nat.le_refl _, by show (1 : Nat) ≤ _; omega, h1.below hb⟩
theorem LlsQ.lls {w : World} {Q : Nat → Prop} {A : Option Addr} {ll : List (List Int)} (h : LlsQ w Q A ll) : Lls w w.heap.size A ll := by
  obtain ⟨hs, h1, h2, h3⟩ := h
  exact ⟨hs, h1, h2.els, fun i x l hx hl => by obtain ⟨a, b, c, d⟩ := h3 i x l hx hl; exact ⟨a, b, c, d.els⟩⟩
/-- The arguments of a Merge, as literals: the numbers, then the row, then its list. -/
theorem merge_lit (w : World) (x y z : Int) : ∃ W, W = ((w.alloc (.cells #[.int .i64 x, .int .i64 y] 3)).alloc (.cells #[.int .i64 z] 3)).alloc (.cells #[.slice none 0 0, .slice (some ⟨w.heap.size + 1, 0, none⟩) 1 1] 30) ∧
    ElsQ encN W (fun b => w.heap.size ≤ b) (some ⟨w.heap.size, 0, none⟩) [x, y] ∧ LlsQ W (fun b => w.heap.size ≤ b) (some ⟨w.heap.size + 1 + 1, 0, none⟩) [[], [z]] ∧ Below w.heap.size w W := by
  refine ⟨_, rfl, ?_, ?_, (((Below.refl w.heap.size w).alloc (Nat.le_refl _) _).alloc (by simp) _).alloc (by simp; omega) _⟩
  · have h1 : ElsQ encN (w.alloc (.cells #[.int .i64 x, .int .i64 y] 3)) (fun b => w.heap.size ≤ b) (some ⟨w.heap.size, 0, none⟩) [x, y] := fun hn => by
      obtain ⟨ad, e, _, hc⟩ := els_litN w #[.int .i64 x, .int .i64 y] [x, y] rfl (w.heap.size + 1) (by omega) hn
      injection e with e
      subst e
      exact ⟨_, rfl, Nat.le_refl _, by simp, hc⟩
    exact h1.below (((Below.refl _ _).alloc (Nat.le_refl _) _).alloc (by simp) _)
  · have h := lls_lit (w.alloc (.cells #[.int .i64 x, .int .i64 y] 3)) z
    rw [World.size_alloc] at h
    exact h.imp (fun b hb _ => by omega)
def PL (gs n : Nat) : Nat → Prop := fun b => b ≠ gs ∧ n ≤ b
set_option maxHeartbeats 16000000 in
set_option maxRecDepth 100000 in
theorem lives11_any : Lives11 := by
  intro w
  go_enter Try.func14, Try.ntmps14
  go_wp2_with fail
  refine (new11_any w).mono ?_
  rintro er w1 ⟨gs, rfl, s1, s2, b1, p1⟩
  have HS := hid (p1 (PL gs w.heap.size) (fun h => h.1 rfl))
  have HB := hid b1
  have hgs : w.heap.size ≤ gs := s1
  have HGL : Hid (gs < w1.heap.size) := hid s2
  clear b1 p1 s1 s2
  go_wp2_with fail
  refine (add11_any HS.out (fun b hb => by have := HGL.out; have := HB.out.size; exact ⟨by omega, by omega⟩) 2 5).mono ?_
  rintro er w2 ⟨rfl, s, gg⟩
  rw [lv1.2] at s
  rw [lv1.1]
  have HS2 := hid s
  have HB2 : Hid (Below w.heap.size w w2) := hid (Grew.then_below HB.out gg HB.out.size (fun b hb => hb.elim (fun e => by omega) (fun e => e.2)))
  have HGL2 : Hid (gs < w2.heap.size) := hid s.lt
  clear s gg HS HB HGL
  go_wp2_with fail
  refine (add11_any HS2.out (fun b hb => by have := HGL2.out; have := HB2.out.size; exact ⟨by omega, by omega⟩) 2 3).mono ?_
  rintro er w3 ⟨rfl, s, gg⟩
  rw [lv2.2] at s
  rw [lv2.1]
  have HS3 := hid s
  have HB3 : Hid (Below w.heap.size w w3) := hid (Grew.then_below HB2.out gg HB2.out.size (fun b hb => hb.elim (fun e => by omega) (fun e => e.2)))
  clear s gg HS2 HB2 HGL2
  go_wp2_with fail
  refine (row11_any HS3.out 2).mono ?_
  rintro er w4 ⟨A4, n4, c4, rfl, _, _, f4, b4⟩
  rw [lv3] at f4
  have hn4 : n4 = 2 := f4.len.symm
  subst hn4
  have HE4 := hid f4.els1
  have HS4 := hid (HS3.out.below b4)
  have HB4 := hid (HB3.out.trans (b4.mono HB3.out.size))
  clear f4 b4 HS3 HB3
  go_wp2_with fail
  refine (sameD_any A4 _ [5, 3] 2 2 c4 2 rfl rfl (by omega) _ ((HE4.out.below ((Below.refl _ _).alloc (Nat.le_refl _) _)).more (by simp)) (els_litN w4 #[.int .i64 5, .int .i64 3] [5, 3] rfl _ (by simp))).mono ?_
  rintro er w5 ⟨rfl, b5⟩
  have HQ5 : Hid (Below w4.heap.size w4 w5) := hid (((Below.refl w4.heap.size w4).alloc (Nat.le_refl _) _).trans (b5.mono (by simp)))
  have HS5 := hid (HS4.out.below HQ5.out)
  have HB5 := hid (HB4.out.trans (HQ5.out.mono HB4.out.size))
  clear b5 HQ5 HS4 HB4 HE4
  go_wp2_with fail
  have hvv := vector11_any HS5.out
  rw [lv4] at hvv
  refine hvv.mono ?_
  rintro er w6 ⟨A6, c6, rfl, f6, b6⟩
  have HE6 := hid f6.els1
  have HS6 := hid (HS5.out.below b6)
  have HB6 := hid (HB5.out.trans (b6.mono HB5.out.size))
  clear hvv f6 b6 HS5 HB5
  go_wp2_with fail
  refine (sameD_any A6 _ [0, 2] 2 2 c6 2 rfl rfl (by omega) _ ((HE6.out.below ((Below.refl _ _).alloc (Nat.le_refl _) _)).more (by simp)) (els_litN w6 #[.int .i64 0, .int .i64 2] [0, 2] rfl _ (by simp))).mono ?_
  rintro er w7 ⟨rfl, b7⟩
  have HQ7 : Hid (Below w6.heap.size w6 w7) := hid (((Below.refl w6.heap.size w6).alloc (Nat.le_refl _) _).trans (b7.mono (by simp)))
  have HS7 := hid (HS6.out.below HQ7.out)
  have HB7 := hid (HB6.out.trans (HQ7.out.mono HB6.out.size))
  clear b7 HQ7 HS6 HB6 HE6
  go_wp2_with fail
  have hdd := delta11_any (HS7.out.below ((Below.refl w7.heap.size w7).alloc (Nat.le_refl _) (.cells #[.int .i64 0, .int .i64 1] 3))) (some ⟨w7.heap.size, 0, none⟩) [0, 1] 2 2 rfl (by omega) (els_litN w7 #[.int .i64 0, .int .i64 1] [0, 1] rfl _ (by simp))
  rw [lv5] at hdd
  refine hdd.mono ?_
  rintro er w8 ⟨A8, n8, c8, rfl, _, _, f8, b8⟩
  have hn8 : n8 = 2 := f8.len.symm
  subst hn8
  have HE8 := hid (f8.lls b8.size)
  have HQ8 : Hid (Below w7.heap.size w7 w8) := hid (((Below.refl w7.heap.size w7).alloc (Nat.le_refl _) _).trans (b8.mono (by simp)))
  have HS8 := hid (HS7.out.below HQ8.out)
  have HB8 := hid (HB7.out.trans (HQ8.out.mono HB7.out.size))
  clear hdd f8 b8 HQ8 HS7 HB7
  go_wp2_with fail
  have hl8 := lls_lit w8 3
  have HQA : Hid (Below w8.heap.size w8 ((w8.alloc (.cells #[.int .i64 3] 3)).alloc (.cells #[.slice none 0 0, .slice (some ⟨w8.heap.size, 0, none⟩) 1 1] 30))) := hid (((Below.refl w8.heap.size w8).alloc (Nat.le_refl _) _).alloc (by simp) _)
  refine (sameRows_any A8 _ [[], [3]] [[], [3]] 2 2 c8 2 rfl rfl (by omega) (by simp) (by simp) _ ((HE8.out.below HQA.out).more HQA.out.size) hl8.lls).mono ?_
  rintro er w9 ⟨rfl, q9, hw9⟩
  rw [show decide (([[], [3]] : List (List Int)) = [[], [3]]) = true from decide_eq_true rfl]
  have HQ9 : Hid (Below w8.heap.size w8 w9) := hid (by rw [hw9]; exact below_drewN HQA.out q9)
  have HS9 := hid (HS8.out.below HQ9.out)
  have HB9 := hid (HB8.out.trans (HQ9.out.mono HB8.out.size))
  have HGL9 : Hid (gs < w9.heap.size) := hid HS9.out.lt
  clear hw9 hl8 HQA HQ9 HS8 HB8 HE8
  go_wp2_with fail
  obtain ⟨wa, hwa, ka, la, ba⟩ := merge_lit w9 0 2 9
  rw [← hwa]
  have hm := merge11_any (HS9.out.below ba) (fun b hb => by have := HGL9.out; have := ba.size; have := HB9.out.size; exact ⟨by omega, by omega⟩) (Q := fun b => w9.heap.size ≤ b) (by have := HGL9.out; omega) (some ⟨w9.heap.size, 0, none⟩) [0, 2] 2 2 rfl (by omega) ka (some ⟨w9.heap.size + 1 + 1, 0, none⟩) [[], [9]] 2 2 rfl (by omega) (by simp) (by simp [In64]) la
  rw [lv6.1, lv6.2] at hm
  refine hm.mono ?_
  rintro er w10 ⟨rfl, s, gg⟩
  have HSA := hid s
  have HBA : Hid (Below w.heap.size w w10) := hid (Grew.then_below (HB9.out.trans (ba.mono HB9.out.size)) (Grew.of_gro (X := fun b => b = gs) gg rfl) (by have := HB9.out.size; have := ba.size; omega) (fun b hb => by omega))
  have HGLA : Hid (gs < w10.heap.size) := hid s.lt
  clear hwa ka la ba hm s gg HS9 HB9 HGL9
  go_wp2_with fail
  obtain ⟨wb, hwb, ka, la, ba⟩ := merge_lit w10 0 7 8
  rw [← hwb]
  have hm := merge11_any (HSA.out.below ba) (fun b hb => by have := HGLA.out; have := ba.size; have := HBA.out.size; exact ⟨by omega, by omega⟩) (Q := fun b => w10.heap.size ≤ b) (by have := HGLA.out; omega) (some ⟨w10.heap.size, 0, none⟩) [0, 7] 2 2 rfl (by omega) ka (some ⟨w10.heap.size + 1 + 1, 0, none⟩) [[], [8]] 2 2 rfl (by omega) (by simp) (by simp [In64]) la
  rw [lv7.1, lv7.2] at hm
  refine hm.mono ?_
  rintro er w11 ⟨rfl, s, gg⟩
  have HSB := hid s
  have HBB : Hid (Below w.heap.size w w11) := hid (Grew.then_below (HBA.out.trans (ba.mono HBA.out.size)) (Grew.of_gro (X := fun b => b = gs) gg rfl) (by have := HBA.out.size; have := ba.size; omega) (fun b hb => by omega))
  clear hwb ka la ba hm s gg HSA HBA HGLA
  go_wp2_with fail
  have hh := has11_any HSB.out 2 9
  rw [show @decide (hasS T3 2 9) (Classical.propDecidable _) = true from @decide_eq_true _ (Classical.propDecidable _) lv8] at hh
  refine hh.mono ?_
  rintro er w12 ⟨rfl, b12⟩
  have HSC := hid (HSB.out.below b12)
  have HBC := hid (HBB.out.trans (b12.mono HBB.out.size))
  have HGLC : Hid (gs < w12.heap.size) := hid HSC.out.lt
  clear hh b12 HSB HBB
  go_wp2_with fail
  refine (add11_any HSC.out (fun b hb => by have := HGLC.out; have := HBC.out.size; exact ⟨by omega, by omega⟩) 2 9).mono ?_
  rintro er w13 ⟨rfl, s, gg⟩
  rw [lv9]
  have HBD : Hid (Below w.heap.size w w13) := hid (Grew.then_below HBC.out gg HBC.out.size (fun b hb => hb.elim (fun e => by omega) (fun e => e.2)))
  clear s gg
  go_wp2_with fail
  go_ret
  exact ⟨rfl, HBD.out⟩
end Go.Proofs.Ytifoppnpgljphaa.Sh
