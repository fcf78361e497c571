/-
  The program's tape: add, side 1. Written by mk_tppgd.py.
-/
import Derived.Test.YtdigfbgjefffiaaTpPgD
namespace Go.Proofs.Ytdigfbgjefffiaa.Sh
open Go Go.RowKit

set_option linter.unusedSimpArgs false
set_option linter.unusedVariables false
set_option maxHeartbeats 8000000 in
theorem add1_any {w : World} {P : Nat → Prop} {κ : Nat → Nat} {q un uc : Nat} {V0 V1 U0 U1 : Hd} {UA : Option Addr} {a0 a1 b0 b1 : List UInt8} {L : List Ru} {ct lf : Int} {bn : Bool} (e : TapF w P κ q V0 V1 U0 U1 UA un uc a0 a1 b0 b1 L ct bn lf)
    (kp : Nat) (X : Option Addr) (m d : Nat) (k : List UInt8) (hl : k.length = m) (hmd : m ≤ d) (hdx : d ≤ 9223372036854775807) (hX : BytQ w (fun g => P g ∧ κ g = 2) X k) (hkm : kp ≤ 1000000) (hvm : a1.length ≤ 1000000) (hmm : m ≤ 1000000) (hun : un ≤ 10000000) (hct : 0 ≤ ct ∧ ct ≤ 10000000) :
    Calls Try.prog 33 #[.pointer (some ⟨q, 0, none⟩), .agg #[.int .i64 1, .int .i64 (kp : Int), .slice X m d]] w fun er w' => er = .returned (.tuple #[]) ∧ ∃ V' κ' UA' uc', TapF w' (plusQ P w.heap.size w'.heap.size) κ' q V0 V' U0 U1 UA' (un + 1) uc' a0 (a1.take kp ++ k) b0 b1 (L ++ [(⟨1, kp, k⟩, X, d)]) (ct + ((max 1 m : Nat) : Int)) bn lf ∧ Grew w w' P := by
  obtain ⟨w1, hw1⟩ : ∃ x, x = w.alloc (.cells #[.int .i64 1, .int .i64 (kp : Int), .slice X m d] 61) := ⟨_, rfl⟩
  have hb1 : Below w.heap.size w w1 := by rw [hw1]; exact (Below.refl _ _).alloc (Nat.le_refl _) _
  have hrow1 : w1.heap[w.heap.size]? = some (.cells #[.int .i64 1, .int .i64 (kp : Int), .slice X m d] 61 (0, 0)) := by rw [hw1]; exact heap_alloc_new w _
  have hs1 : w1.heap.size = w.heap.size + 1 := by rw [hw1]; simp
  have e1 := e.below hb1
  have hX1 := hX.kept (w' := w1) (fun b hb hlt => hb1.block b hlt) hb1.size
  have c0 : w1.cell? ⟨w.heap.size, 0, none⟩ = some (.int .i64 1) := by rw [cell_of_row w1 _ 0 _ _ (0, 0) hrow1]; rfl
  have c1 : w1.cell? ⟨w.heap.size, 1, none⟩ = some (.int .i64 (kp : Int)) := by rw [cell_of_row w1 _ 1 _ _ (0, 0) hrow1]; rfl
  have c2 : w1.cell? ⟨w.heap.size, 2, none⟩ = some (.slice X m d) := by rw [cell_of_row w1 _ 2 _ _ (0, 0) hrow1]; rfl
  have HAP := hid (apply1_any e1 kp X m d k hl (fun hn => by obtain ⟨ad, ea, _, hb, hc⟩ := hX1 hn; exact ⟨ad, ea, hb, hc⟩) hkm hvm hmm)
  have HROW := hid hrow1
  have HNP : Hid (¬ P w.heap.size) := hid (fun h => by have := e.dom _ h; omega)
  have HX1 := hid hX1
  have HK := hid hl
  have HE1 := hid e1
  have HB1 := hid hb1
  have HSZ := hid (fun W => size_any W 1 (kp : Int) X m d (by omega))
  obtain ⟨z, hz⟩ : ∃ z, max 1 m = z := ⟨_, rfl⟩
  have hz1 : z ≤ 1000001 := by omega
  rw [hz] at HSZ ⊢
  clear hz
  obtain ⟨ct0, ct1⟩ := hct
  clear e e1 hX hX1 hl hrow1 hvm
  go_enter Try.func33, Try.ntmps33
  go_upto_region 1 with fail
  rw [← hw1]
  clear hw1
  go_wp2_with fail
  refine HAP.out.mono ?_
  rintro er w2 ⟨rfl, V', e2, g2⟩
  have hs2 := g2.size
  have hrow2 : w2.heap[w.heap.size]? = _ := (g2.block w.heap.size (by omega) (fun h => HNP.out h.1)).trans HROW.out
  have d0 : w2.cell? ⟨w.heap.size, 0, none⟩ = some (.int .i64 1) := by rw [cell_of_row w2 _ 0 _ _ (0, 0) hrow2]; rfl
  have d1 : w2.cell? ⟨w.heap.size, 1, none⟩ = some (.int .i64 (kp : Int)) := by rw [cell_of_row w2 _ 1 _ _ (0, 0) hrow2]; rfl
  have d2 : w2.cell? ⟨w.heap.size, 2, none⟩ = some (.slice X m d) := by rw [cell_of_row w2 _ 2 _ _ (0, 0) hrow2]; rfl
  obtain ⟨wC, hwC⟩ : ∃ x, x = w2.drew.alloc (.cells #[.int .i64 1, .int .i64 (kp : Int), .slice X m d] 61) := ⟨_, rfl⟩
  have hbC : Below w2.heap.size w2 wC := by rw [hwC]; exact ((Below.refl w2.heap.size w2).drew).alloc (Nat.le_refl _) _
  have hsC : wC.heap.size = w2.heap.size + 1 := by rw [hwC]; simp
  have eC := e2.below hbC
  have hRd : Reads wC (some ⟨w2.heap.size, 0, none⟩) (encR.cells ((⟨1, kp, k⟩, X, d) : Ru)) := by
    show Reads wC _ [.int .i64 1, .int .i64 (kp : Int), .slice X k.length d]
    rw [HK.out, hwC]
    exact reads_new w2.drew #[.int .i64 1, .int .i64 (kp : Int), .slice X m d] 61 (0, 0)
  have hk4 : wC.cell? ⟨q, 4, none⟩ = some (.slice UA un uc) := (eC.cells _ (Below.refl _ _)).2.1.1
  have hk4d : w2.cell? ⟨q, 4, none⟩ = some (.slice UA un uc) := (e2.cells _ (Below.refl _ _)).2.1.1
  have hX2 : BytQ wC (fun g => plusQ P w1.heap.size w2.heap.size g ∧ kapQ κ w1.heap.size 1 g = 2) X k := by
    have h3 := HX1.out.kept (w' := wC) (fun b hb hlt => (hbC.block b (by omega)).trans (g2.block b hlt (fun h => h.2.1 hb.2))) (by omega)
    exact h3.imp fun b hb hlt => ⟨.inl hb.1, (kapQ_old (HE1.out.dom b hb.1)).trans hb.2⟩
  have g2' : Grew w1 wC P := (g2.mono fun b _ h => h.1).trans (Grew.of_below hbC)
  have HC := hid (And.intro eC (And.intro hX2 (And.intro hRd g2')))
  have HQ4 := hid (fun (w4 : World) (hg : wC.grownBy w4 (Value.slice UA un uc).ownBlock) => (show (w4.cell? ⟨q, 4, none⟩ = some (.slice UA un uc) ∧ w4.frozen? ⟨q, 4, none⟩ = false) from by
    have hq : w4.heap[q]? = some (rowT V0 V' U0 U1 UA un uc ct bn lf) := (hg.block q (eC.dom q eC.pq.1) (fun h => by have h2 := (eC.ob q h.symm).2; rw [eC.pq.2] at h2; cases h2)).trans eC.row
    exact ⟨by rw [cell_of_row w4 q 4 _ _ (0, 0) hq]; rfl, frozen_of_row w4 q 4 _ _ hq⟩))
  have hLl : L.length = un := eC.ul
  have HLL := hid hLl
  have HOW := hid eC.own
  have hLb : L.length ≤ 1000000000000 := by omega
  have HRC := hid ((hbC.block w.heap.size (by omega)).trans hrow2)
  clear e2 g2 hRd hX2 eC g2' hrow2 hLl hbC
  have HAPP := hid (fun (A' : Option Addr) (c' : Nat) (w4 : World) ho hg hl => HC.out.1.app (w4 := w4) (A' := A') (c' := c') (y := ((⟨1, kp, k⟩, X, d) : Ru)) ho hg hl ⟨by rw [HK.out]; exact hmd, hdx, HC.out.2.1⟩)
  have HRDD := hid HC.out.2.2.1
  have HBX := hid (fun (w5 : World) (g5 : Grew wC w5 (plusQ P w1.heap.size w2.heap.size)) => (show w5.heap[w.heap.size]? = some (.cells #[.int .i64 1, .int .i64 (kp : Int), .slice X m d] 61 (0, 0)) from
    (g5.block w.heap.size (by omega) (fun h => h.elim HNP.out (fun h2 => by omega))).trans HRC.out))
  have HGC := hid HC.out.2.2.2
  have HSS := hid (And.intro hs1 (And.intro hs2 hsC))
  subst hwC
  have hk4' : (w2.alloc (.cells #[.int .i64 1, .int .i64 (kp : Int), .slice X m d] 61)).cell? ⟨q, 4, none⟩ = some (.slice UA un uc) := hk4
  clear hk4
  go_wp2_with fail
  go_region_law ((first | (refine step_app1 (E := encR) (by rfl) slRu (.tmp 11) (.tmp 13) (by rfl) (B := 0) (v := .slice UA un uc) (l := L) HOW.out (by rfl) (ad := ⟨w2.heap.size, 0, none⟩) (c := 1) ((⟨1, kp, k⟩, X, d) : Ru) (by rfl) HRDD.out hLb (by omega) (Nat.zero_le _) ?_; intro A' c' w4 ho4 hg4 hl4; rw [HLL.out] at ho4 hl4; obtain ⟨k44, f44⟩ := HQ4.out w4 hg4; have HF := hid (HAPP.out A' c' w4 ho4 hg4 hl4); have HS4 := hid hg4.size; clear ho4 hg4 hl4)))
  all_goals
    rw [HLL.out]
    obtain ⟨w5, hw5⟩ : ∃ x, x = w4.setCell ⟨q, 4, none⟩ (.slice A' (un + 1) c') := ⟨_, rfl⟩
    rw [← hw5] at HF ⊢
    have hs5 : w5.heap.size = w4.heap.size := by rw [hw5, size_setQ]
    clear hw5
    have hr5 := HBX.out w5 HF.out.2
    have x0 : w5.cell? ⟨w.heap.size, 0, none⟩ = some (.int .i64 1) := by rw [cell_of_row w5 _ 0 _ _ (0, 0) hr5]; rfl
    have x1 : w5.cell? ⟨w.heap.size, 1, none⟩ = some (.int .i64 (kp : Int)) := by rw [cell_of_row w5 _ 1 _ _ (0, 0) hr5]; rfl
    have x2 : w5.cell? ⟨w.heap.size, 2, none⟩ = some (.slice X m d) := by rw [cell_of_row w5 _ 2 _ _ (0, 0) hr5]; rfl
    have k55 := (HF.out.1.cells _ (Below.refl _ _)).2.1.2.1
    have H6 := hid (fun w6 b6 => (HF.out.1.below (below_drew1 w5)).below (w' := w6) b6)
    clear hr5
    go_wp2_with fail
    go_region_with (go_at_call 38; (refine (HSZ.out _).mono ?_); rintro er w6 ⟨rfl, b6⟩; have e6 := H6.out w6 b6; have k65 := (e6.cells _ (Below.refl _ _)).2.1.2.1; have f65 := (e6.cells _ (Below.refl _ _)).2.2 5; have HE6 := hid (And.intro e6 b6); clear e6 b6)
    all_goals
      go_end0
      rw [wrap_in (ct + (z : Int)) (by omega)]
      have q1 : w.heap.size ≤ w1.heap.size := HB1.out.size
      have q2 : w1.heap.size ≤ w2.heap.size := HSS.out.2.1
      have q3 : w2.heap.size ≤ w4.heap.size := Nat.le_trans (Nat.le_of_lt (Nat.lt_of_lt_of_eq (Nat.lt_succ_self _) HSS.out.2.2.symm)) HS4.out
      have q4 : w4.heap.size ≤ w6.heap.size := Nat.le_trans (Nat.le_of_eq hs5.symm) HE6.out.2.size
      have hz6 := size_setQ w6 ⟨q, 5, none⟩ (.int .i64 (ct + (z : Int)))
      have hin : ∀ x, plusQ (plusQ P w1.heap.size w2.heap.size) (w2.drew.alloc (.cells #[.int .i64 1, .int .i64 (kp : Int), .slice X m d] 61)).heap.size w4.heap.size x → plusQ P w.heap.size w6.heap.size x := fun x hx => by
        rcases hx with (hx | ⟨h1, h2⟩) | ⟨h1, h2⟩
        · exact .inl hx
        · exact .inr ⟨Nat.le_trans q1 h1, Nat.lt_of_lt_of_le h2 (Nat.le_trans q3 q4)⟩
        · exact .inr ⟨Nat.le_trans (Nat.le_trans q1 q2) (Nat.le_trans (Nat.le_of_lt (Nat.lt_of_lt_of_eq (Nat.lt_succ_self _) HSS.out.2.2.symm)) h1), Nat.lt_of_lt_of_le h2 q4⟩
      have hdm : ∀ x, plusQ P w.heap.size w6.heap.size x → x < w6.heap.size := fun x hx => hx.elim (fun hp => Nat.lt_of_lt_of_le (HE1.out.dom x hp) (Nat.le_trans q2 (Nat.le_trans q3 q4))) (·.2)
      refine ⟨rfl, V', _, A', c', (HE6.out.1.setCt (ct + (z : Int))).imp (κ' := kapQ (kapQ κ w1.heap.size 1) _ 3) (fun x hx => ⟨by rw [hz6]; exact hin x hx, rfl⟩) (fun x hx => by rw [hz6] at hx ⊢; exact hdm x hx), ?_⟩
      · exact ((Grew.of_below HB1.out).trans (((HGC.out.thenQ HF.out.2).trans (Grew.of_below (below_drew1 w5))).trans (Grew.of_below HE6.out.2))).trans (Grew.of_gro (gro_set1 w6 q 5 _) HE1.out.pq.1)
end Go.Proofs.Ytdigfbgjefffiaa.Sh
