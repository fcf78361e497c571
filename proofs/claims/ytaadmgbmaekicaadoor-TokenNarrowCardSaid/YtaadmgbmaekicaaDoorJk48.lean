/-
  The walk of TokenNarrow (the contract of lives is its premise). Written by mk_tklawn.py.
-/
import Derived.Test.YtaadmgbmaekicaaDoorJk47
set_option linter.unusedVariables false
set_option linter.unusedSimpArgs false
namespace Go.Proofs.YtaadmgbmaekicaaDoor.Sh
open Go Go.RowKit

set_option linter.unusedSimpArgs false
set_option linter.unusedVariables false
def RoAt (w : World) (g : Nat) (r : Ro) : Prop := w.heap[g]? = some (.cells #[.string r.1, .string r.2] 42 (0, 0))
theorem RoAt.new (w : World) (r : Ro) : RoAt (w.alloc (.cells #[.string r.1, .string r.2] 42)) w.heap.size r := heap_alloc_new w _
theorem RoAt.lt {w : World} {g : Nat} {r : Ro} (a : RoAt w g r) : g < w.heap.size := (Array.getElem?_eq_some_iff.1 a).1
theorem RoAt.below {w w' : World} {g : Nat} {r : Ro} (a : RoAt w g r) (hb : Below w.heap.size w w') : RoAt w' g r := (hb.block g a.lt).trans a
theorem RoAt.all {w : World} {g : Nat} {r : Ro} (a : RoAt w g r) : w.cell? ⟨g, 0, none⟩ = some (.string r.1) ∧ w.cell? ⟨g, 1, none⟩ = some (.string r.2) :=
  ⟨by rw [cell_of_row _ _ 0 _ _ (0, 0) a]; rfl, by rw [cell_of_row _ _ 1 _ _ (0, 0) a]; rfl⟩
theorem RoAt.other {w w' : World} {g x : Nat} {r : Ro} (a : RoAt w g r) (hg : w.grownBy w' (some x)) (hx : x ≠ g) : RoAt w' g r := (hg.block g a.lt (fun e => hx (by injection e with e; exact e.symm))).trans a
theorem ChAt.other {w w' : World} {g x : Nat} {h : CH} (a : ChAt w g h) (hg : w.grownBy w' (some x)) (hx : x ≠ g) : ChAt w' g h := (hg.block g a.lt (fun e => hx (by injection e with e; exact e.symm))).trans a
theorem tl_ne {a b : ByteArray} (h : a ≠ b) : (a.toList == b.toList) = false := by
  rw [ByteArray.toList_eq, ByteArray.toList_eq]
  refine beq_false_of_ne (fun e => h ?_)
  obtain ⟨⟨x⟩⟩ := a
  obtain ⟨⟨y⟩⟩ := b
  simp at e
  rw [e]
theorem drop_at {l : List Ro} {j : Nat} {r : Ro} (h : l[j]? = some r) : l.drop j = r :: l.drop (j + 1) := by
  obtain ⟨hj, e⟩ := List.getElem?_eq_some_iff.1 h
  rw [List.drop_eq_getElem_cons hj, e]
theorem role_kept {wj : World} {bd bj : Addr} {l : List Ro} {j : Nat} {r : Ro} (hE : ∀ W, Below wj.heap.size wj W → Els encR W W.heap.size (some bd) l) (hr : l[j]? = some r) (eb : bd.add (j * 2) = bj) : ∀ W, Below wj.heap.size wj W → W.cell? bj = some (.string r.1) ∧ W.cell? ⟨bj.block, bj.off + 1, none⟩ = some (.string r.2) := fun W hW => by
  obtain ⟨bd', bj', hA', -, eb', -, b0', b1'⟩ := role_at2 (hE W hW) hr
  injection hA' with hA'
  subst hA'
  have e : bj = bj' := eb.symm.trans eb'
  subst e
  exact ⟨b0', b1'⟩
theorem named {P : Nat → Prop} {g : Nat} (h : P g) : ∃ x, x = g ∧ P x := ⟨g, rfl, h⟩
set_option maxHeartbeats 32000000 in
set_option maxRecDepth 100000 in
theorem tokenNarrow_walk (hlv : Lives12) {w : World} (hT : Tab w) {th : TH} {t : Tok} (a : TokAt w (fun b => b < w.heap.size) th t) {ch : CH} {cv : Cav} (b : CavAt w (fun b => b < w.heap.size) ch cv) (o nm aud : ByteArray) (now : Int) :
    Calls Tryd.prog 5 #[.agg #[.int .i64 th.d, .int .i64 th.e, .int .i64 th.n, .string th.who, .slice th.rA th.rn th.rc, .int .i64 th.til, .slice th.sA th.sn th.sc, .slice th.cA th.cn th.cc, .slice th.tA th.tn th.tc], .agg #[.int .i64 ch.kind, .slice ch.rA ch.rn ch.rc, .int .i64 ch.til, .string ch.aud], .agg #[.string o, .string nm], .string aud, .int .i64 now] w fun e w' => e = .returned (.bool true) ∧ Below w.heap.size w w' := by
  have HTT := hid (fun W (hW : Below w.heap.size w W) => hT.below hT.pos hW)
  have HLV := hid (fun W (hW : Below w.heap.size w W) => hlv W (hT.below hT.pos hW))
  have HFT := hid (FewTok.few t)
  have HCV := hid (fun W (hW : Below w.heap.size w W) => b.kept (fun k _ hl => hW.block k hl) hW.size)
  obtain ⟨kd, qA, qn, qc, tl, au⟩ := ch
  have HCU := hid (fun W => cut12_any ⟨kd, qA, qn, qc, tl, au⟩ b.rc b.rm W)
  obtain ⟨d, e, m, who, rA, rn, rc, til, sA, sn, sc, cA, cn, cc, tA, tn, tc⟩ := th
  simp only at HCU ⊢
  obtain ⟨w1, hw1⟩ : ∃ y, y = ((w.alloc (.cells #[.int .i64 d, .int .i64 e, .int .i64 m, .string who, .slice rA rn rc, .int .i64 til, .slice sA sn sc, .slice cA cn cc, .slice tA tn tc] 27)).alloc (.cells #[.int .i64 kd, .slice qA qn qc, .int .i64 tl, .string au] 38)).alloc (.cells #[.string o, .string nm] 42) := ⟨_, rfl⟩
  have HB1 : Hid (Below w.heap.size w w1) := hid (by rw [hw1]; exact (((Below.refl _ _).alloc (Nat.le_refl _) _).alloc (by simp) _).alloc (by simp; omega) _)
  have HX1 : Hid (ThAt w1 w.heap.size ⟨d, e, m, who, rA, rn, rc, til, sA, sn, sc, cA, cn, cc, tA, tn, tc⟩) := hid (by rw [hw1]; exact (ThAt.new w ⟨d, e, m, who, rA, rn, rc, til, sA, sn, sc, cA, cn, cc, tA, tn, tc⟩).below (((Below.refl _ _).alloc (Nat.le_refl _) _).alloc (by simp) _))
  have HK1 : Hid (ChAt w1 (w.heap.size + 1) ⟨kd, qA, qn, qc, tl, au⟩) := hid (by
    rw [hw1]
    have q := (ChAt.new (w.alloc (.cells #[.int .i64 d, .int .i64 e, .int .i64 m, .string who, .slice rA rn rc, .int .i64 til, .slice sA sn sc, .slice cA cn cc, .slice tA tn tc] 27)) ⟨kd, qA, qn, qc, tl, au⟩)
    rw [World.size_alloc] at q
    exact q.below ((Below.refl _ _).alloc (Nat.le_refl _) _))
  have HR1 : Hid (RoAt w1 (w.heap.size + 2) (o, nm)) := hid (by
    rw [hw1]
    have q := (RoAt.new ((w.alloc (.cells #[.int .i64 d, .int .i64 e, .int .i64 m, .string who, .slice rA rn rc, .int .i64 til, .slice sA sn sc, .slice cA cn cc, .slice tA tn tc] 27)).alloc (.cells #[.int .i64 kd, .slice qA qn qc, .int .i64 tl, .string au] 38)) (o, nm))
    rw [World.size_alloc, World.size_alloc] at q
    exact q)
  have hs1 : w1.heap.size = w.heap.size + 3 := by rw [hw1]; simp
  have HW1 := hid hw1
  have HF1 := hid (refFew12_any (a.below HB1.out))
  simp only at HF1
  obtain ⟨c0, c1, c2, c3, c4, c5, c6, c7, c8⟩ := HX1.out.all
  simp only at c0 c1 c2 c3 c4 c5 c6 c7 c8
  clear a b hw1 hlv
  go_enter Tryd.func5, Tryd.ntmps5
  go_upto_region 1 with fail
  rw [← HW1.out]
  go_wp2_with fail
  refine HF1.out.mono ?_
  rintro er w2 ⟨⟨d2, e2, m2, who2, rA2, rn2, rc2, til2, sA2, sn2, sc2, cA2, cn2, cc2, tA2, tn2, tc2⟩, rfl, a2, b2⟩
  unfold TH.cells
  simp only
  have HX2 := hid (HX1.out.below b2)
  have HK2 := hid (HK1.out.below b2)
  have HR2 := hid (HR1.out.below b2)
  have HB2 := hid (HB1.out.trans (b2.mono HB1.out.size))
  clear c0 c1 c2 c3 c4 c5 c6 c7 c8
  obtain ⟨c0, c1, c2, c3, c4, c5, c6, c7, c8⟩ := HX2.out.all
  have g0 := HX2.out.f 0
  have g1 := HX2.out.f 1
  have g2 := HX2.out.f 2
  have g3 := HX2.out.f 3
  have g4 := HX2.out.f 4
  have g5 := HX2.out.f 5
  have g6 := HX2.out.f 6
  have g7 := HX2.out.f 7
  have g8 := HX2.out.f 8
  simp only at c0 c1 c2 c3 c4 c5 c6 c7 c8
  obtain ⟨hput, hgro⟩ := HX2.out.put ⟨d2, e2, m2, who2, rA2, rn2, rc2, til2, sA2, sn2, sc2, cA2, cn2, cc2, tA2, tn2, tc2⟩
  simp only at hput hgro
  obtain ⟨w3, hw3⟩ : ∃ y, y = (((((((((w2.setCell ⟨w.heap.size, 0, none⟩ (.int .i64 d2)).setCell ⟨w.heap.size, 1, none⟩ (.int .i64 e2)).setCell ⟨w.heap.size, 2, none⟩ (.int .i64 m2)).setCell ⟨w.heap.size, 3, none⟩ (.string who2)).setCell ⟨w.heap.size, 4, none⟩ (.slice rA2 rn2 rc2)).setCell ⟨w.heap.size, 5, none⟩ (.int .i64 til2)).setCell ⟨w.heap.size, 6, none⟩ (.slice sA2 sn2 sc2)).setCell ⟨w.heap.size, 7, none⟩ (.slice cA2 cn2 cc2)).setCell ⟨w.heap.size, 8, none⟩ (.slice tA2 tn2 tc2)) := ⟨_, rfl⟩
  rw [← hw3] at hput hgro
  have HX3 := hid hput
  have HK3 := hid (HK2.out.other hgro (by omega))
  have HR3 := hid (HR2.out.other hgro (by omega))
  have HB3 : Hid (Below w.heap.size w w3) := hid (below_x HB2.out w3 hgro HB2.out.size (Nat.le_refl _))
  have HA3 := hid ((a2.grew (X := fun b => b = w.heap.size) (Grew.of_gro hgro rfl) (fun b hb he => by omega)))
  have HW3 := hid hw3
  clear hw3 hput hgro a2 b2
  go_upto_region 2 with fail
  rw [← HW3.out]
  clear c0 c1 c2 c3 c4 c5 c6 c7 c8 g0 g1 g2 g3 g4 g5 g6 g7 g8 HX1 HX2 HB1 HB2 HF1 HW1 HW3 HK1 HK2 HR1 HR2
  have HCV3 := hid (HCV.out w3 HB3.out)
  have HFC := hid (cavFew_at HCV3.out)
  obtain ⟨F, hF⟩ : ∃ F, narE (fewT t) (fewC cv) = F := ⟨_, rfl⟩
  have HF := hid hF
  have HNW := hid (fun W (hW : Below w3.heap.size w3 W) => pNarrow12_any (HTT.out W (HB3.out.trans (hW.mono HB3.out.size))) (HA3.out.below hW) HFT.out (HFC.out.kept (fun k _ hl => hW.block k hl) hW.size) (by show (cv.roles.take 6).length ≤ 6; rw [List.length_take]; omega))
  simp only [fewH] at HNW
  rw [hF] at HNW
  have HS13 : Hid (∀ W, Below w3.heap.size w3 W → W.cell? ⟨w.heap.size, 0, none⟩ = some (.int .i64 d2) ∧ W.cell? ⟨w.heap.size, 1, none⟩ = some (.int .i64 e2) ∧ W.cell? ⟨w.heap.size, 2, none⟩ = some (.int .i64 m2) ∧ W.cell? ⟨w.heap.size, 3, none⟩ = some (.string who2) ∧ W.cell? ⟨w.heap.size, 4, none⟩ = some (.slice rA2 rn2 rc2) ∧ W.cell? ⟨w.heap.size, 5, none⟩ = some (.int .i64 til2) ∧ W.cell? ⟨w.heap.size, 6, none⟩ = some (.slice sA2 sn2 sc2) ∧ W.cell? ⟨w.heap.size, 7, none⟩ = some (.slice cA2 cn2 cc2) ∧ W.cell? ⟨w.heap.size, 8, none⟩ = some (.slice tA2 tn2 tc2) ∧ W.cell? ⟨(w.heap.size + 1), 0, none⟩ = some (.int .i64 kd) ∧ W.cell? ⟨(w.heap.size + 1), 1, none⟩ = some (.slice qA qn qc) ∧ W.cell? ⟨(w.heap.size + 1), 2, none⟩ = some (.int .i64 tl) ∧ W.cell? ⟨(w.heap.size + 1), 3, none⟩ = some (.string au)) := hid (fun W hW => by
    obtain ⟨y0, y1, y2, y3, y4, y5, y6, y7, y8⟩ := (HX3.out.below hW).all
    obtain ⟨x0, x1, x2, x3⟩ := (HK3.out.below hW).all
    exact ⟨y0, y1, y2, y3, y4, y5, y6, y7, y8, x0, x1, x2, x3⟩)
  clear hF
  go_region_held3 (fun W => W.cell? ⟨w.heap.size, 0, none⟩ = some (.int .i64 d2) ∧ W.cell? ⟨w.heap.size, 1, none⟩ = some (.int .i64 e2) ∧ W.cell? ⟨w.heap.size, 2, none⟩ = some (.int .i64 m2) ∧ W.cell? ⟨w.heap.size, 3, none⟩ = some (.string who2) ∧ W.cell? ⟨w.heap.size, 4, none⟩ = some (.slice rA2 rn2 rc2) ∧ W.cell? ⟨w.heap.size, 5, none⟩ = some (.int .i64 til2) ∧ W.cell? ⟨w.heap.size, 6, none⟩ = some (.slice sA2 sn2 sc2) ∧ W.cell? ⟨w.heap.size, 7, none⟩ = some (.slice cA2 cn2 cc2) ∧ W.cell? ⟨w.heap.size, 8, none⟩ = some (.slice tA2 tn2 tc2) ∧ W.cell? ⟨(w.heap.size + 1), 0, none⟩ = some (.int .i64 kd) ∧ W.cell? ⟨(w.heap.size + 1), 1, none⟩ = some (.slice qA qn qc) ∧ W.cell? ⟨(w.heap.size + 1), 2, none⟩ = some (.int .i64 tl) ∧ W.cell? ⟨(w.heap.size + 1), 3, none⟩ = some (.string au))
    ((refine HS13.out _ ?_; repeat (first | (rw [← HW9.out]; exact BY8.out) | with_reducible exact BQ8.out | with_reducible exact BQ7.out | with_reducible exact Below.refl _ _ | with_reducible refine Below.drew ?_ | with_reducible refine Below.alloc ?_ (by first | exact Nat.le_refl _ | exact BQ8.out.size | exact BQ7.out.size) _)))
    ((first
      | (go_at_call 14; ((refine (HCU.out _).mono ?_); rintro er w7 ⟨rfl, b7⟩; have BQ7 : Hid (Below w3.heap.size w3 w7) := hid ((Below.refl w3.heap.size w3).drew.trans b7); clear b7))
      | (go_at_call 14; ((refine (HCU.out _).mono ?_); rintro er w7 ⟨rfl, b7⟩; have BQ7 : Hid (Below w3.heap.size w3 w7) := hid (((Below.refl w3.heap.size w3).alloc (Nat.le_refl _) _).drew.trans (b7.mono ((Below.refl w3.heap.size w3).alloc (Nat.le_refl _) _).size)); have HY7 : Hid (ThAt w7 w3.heap.size TH.zero) := hid ((b7.block w3.heap.size (ThAt.new w3 TH.zero).lt).trans (ThAt.new w3 TH.zero)); clear b7))
      | (go_at_call 13; ((refine (HNW.out _ (by with_reducible exact BQ7.out)).mono ?_); rintro er w8 ⟨⟨d5, e5, m5, who5, rA5, rn5, rc5, til5, sA5, sn5, sc5, cA5, cn5, cc5, tA5, tn5, tc5⟩, rfl, nt8⟩; unfold TH.cells; have HY7L := HY7.out.lt; have YA := HY7.out.below nt8.below; clear HY7; have NT8 := hid nt8; have BQ8 : Hid (Below w3.heap.size w3 w8) := hid (BQ7.out.trans (nt8.below.mono BQ7.out.size)); have PUT := YA.put ⟨d5, e5, m5, who5, rA5, rn5, rc5, til5, sA5, sn5, sc5, cA5, cn5, cc5, tA5, tn5, tc5⟩; simp only at PUT; obtain ⟨W9, hW9⟩ : ∃ x, x = (((((((((w8.setCell ⟨w3.heap.size, 0, none⟩ (.int .i64 d5)).setCell ⟨w3.heap.size, 1, none⟩ (.int .i64 e5)).setCell ⟨w3.heap.size, 2, none⟩ (.int .i64 m5)).setCell ⟨w3.heap.size, 3, none⟩ (.string who5)).setCell ⟨w3.heap.size, 4, none⟩ (.slice rA5 rn5 rc5)).setCell ⟨w3.heap.size, 5, none⟩ (.int .i64 til5)).setCell ⟨w3.heap.size, 6, none⟩ (.slice sA5 sn5 sc5)).setCell ⟨w3.heap.size, 7, none⟩ (.slice cA5 cn5 cc5)).setCell ⟨w3.heap.size, 8, none⟩ (.slice tA5 tn5 tc5)) := ⟨_, rfl⟩; rw [← hW9] at PUT; have HW9 := hid hW9; have HY9 := hid PUT.1; have BY8 := hid (below_x (BQ8.out) _ PUT.2 (BQ8.out).size (Nat.le_refl _)); have HAY := hid (hay_p nt8.at_ PUT.2 HY7L (Nat.lt_of_lt_of_le HX3.out.lt BQ7.out.size)); clear PUT hW9 nt8 HY7L; obtain ⟨y0, y1, y2, y3, y4, y5, y6, y7, y8⟩ := YA.all; have z0 := YA.f 0; have z1 := YA.f 1; have z2 := YA.f 2; have z3 := YA.f 3; have z4 := YA.f 4; have z5 := YA.f 5; have z6 := YA.f 6; have z7 := YA.f 7; have z8 := YA.f 8; clear YA))
      | (go_at_call 13; ((refine (HNW.out _ (by with_reducible exact BQ7.out)).mono ?_); rintro er w8 ⟨⟨d5, e5, m5, who5, rA5, rn5, rc5, til5, sA5, sn5, sc5, cA5, cn5, cc5, tA5, tn5, tc5⟩, rfl, nt8⟩; unfold TH.cells; have NT8 := hid nt8; have BQ8 : Hid (Below w3.heap.size w3 w8) := hid (BQ7.out.trans (nt8.below.mono BQ7.out.size)); obtain ⟨W9, hW9⟩ : ∃ x, x = w8.alloc (.cells #[.int .i64 d5, .int .i64 e5, .int .i64 m5, .string who5, .slice rA5 rn5 rc5, .int .i64 til5, .slice sA5 sn5 sc5, .slice cA5 cn5 cc5, .slice tA5 tn5 tc5] 27) := ⟨_, rfl⟩; have HW9 := hid hW9; have HY9 : Hid (ThAt W9 w8.heap.size ⟨d5, e5, m5, who5, rA5, rn5, rc5, til5, sA5, sn5, sc5, cA5, cn5, cc5, tA5, tn5, tc5⟩) := hid (by rw [hW9]; exact ThAt.new w8 ⟨d5, e5, m5, who5, rA5, rn5, rc5, til5, sA5, sn5, sc5, cA5, cn5, cc5, tA5, tn5, tc5⟩); have hb89 : Below w8.heap.size w8 W9 := (by rw [hW9]; exact (Below.refl _ _).alloc (Nat.le_refl _) _); have HAY := hid (hay_b nt8.at_ hb89 (Nat.lt_of_lt_of_le HX3.out.lt BQ7.out.size)); have BY8 := hid (BQ8.out.trans (hb89.mono BQ8.out.size)); clear hb89 hW9 nt8))
      | (go_at_call 13; ((refine (HNW.out _ (by with_reducible exact BQ7.out.alloc BQ7.out.size _)).mono ?_); rintro er w8 ⟨⟨d5, e5, m5, who5, rA5, rn5, rc5, til5, sA5, sn5, sc5, cA5, cn5, cc5, tA5, tn5, tc5⟩, rfl, nt8⟩; unfold TH.cells; have NT8 := hid nt8; have YA := (ThAt.new w7 TH.zero).below nt8.below; have BQ8 : Hid (Below w3.heap.size w3 w8) := hid ((BQ7.out.alloc BQ7.out.size _).trans (nt8.below.mono (BQ7.out.alloc BQ7.out.size _).size)); have PUT := YA.put ⟨d5, e5, m5, who5, rA5, rn5, rc5, til5, sA5, sn5, sc5, cA5, cn5, cc5, tA5, tn5, tc5⟩; simp only at PUT; obtain ⟨W9, hW9⟩ : ∃ x, x = (((((((((w8.setCell ⟨w7.heap.size, 0, none⟩ (.int .i64 d5)).setCell ⟨w7.heap.size, 1, none⟩ (.int .i64 e5)).setCell ⟨w7.heap.size, 2, none⟩ (.int .i64 m5)).setCell ⟨w7.heap.size, 3, none⟩ (.string who5)).setCell ⟨w7.heap.size, 4, none⟩ (.slice rA5 rn5 rc5)).setCell ⟨w7.heap.size, 5, none⟩ (.int .i64 til5)).setCell ⟨w7.heap.size, 6, none⟩ (.slice sA5 sn5 sc5)).setCell ⟨w7.heap.size, 7, none⟩ (.slice cA5 cn5 cc5)).setCell ⟨w7.heap.size, 8, none⟩ (.slice tA5 tn5 tc5)) := ⟨_, rfl⟩; rw [← hW9] at PUT; have HW9 := hid hW9; have HY9 := hid PUT.1; have BY8 := hid (below_x (BQ8.out) _ PUT.2 (BQ8.out).size BQ7.out.size); have HAY := hid (hay_p nt8.at_ PUT.2 (ThAt.new w7 TH.zero).lt (Nat.lt_of_lt_of_le HX3.out.lt (Nat.le_trans BQ7.out.size (Nat.le_of_lt (ThAt.new w7 TH.zero).lt)))); clear PUT hW9 nt8; obtain ⟨y0, y1, y2, y3, y4, y5, y6, y7, y8⟩ := YA.all; have z0 := YA.f 0; have z1 := YA.f 1; have z2 := YA.f 2; have z3 := YA.f 3; have z4 := YA.f 4; have z5 := YA.f 5; have z6 := YA.f 6; have z7 := YA.f 7; have z8 := YA.f 8; clear YA))))
  all_goals
    try clear y0 y1 y2 y3 y4 y5 y6 y7 y8 z0 z1 z2 z3 z4 z5 z6 z7 z8
    try clear HY7
    clear HS13 HNW HCU HFC HCV HCV3 HK3 NT8 BQ7 BQ8
    have HX9 := hid (HX3.out.below BY8.out)
    have HA9 := hid (HA3.out.below BY8.out)
    have HR9 := hid (HR3.out.below BY8.out)
    have HB9 := hid (HB3.out.trans (BY8.out.mono HB3.out.size))
    rw [← HW9.out]
    obtain ⟨GY, hGY, HY9⟩ := named (P := fun g => Hid (ThAt W9 g ⟨d5, e5, m5, who5, rA5, rn5, rc5, til5, sA5, sn5, sc5, cA5, cn5, cc5, tA5, tn5, tc5⟩)) HY9
    rw [← hGY]
    clear hGY
    clear HX3 HA3 HR3 BY8 HW9 HB3
    by_cases hF0 : F = 0
    rotate_left 1
    · go_wp2_with fail
      refine (HLV.out _ HB9.out).mono ?_
      rintro er w10 ⟨rfl, b10⟩
      have HB10 := hid (HB9.out.trans (b10.mono HB9.out.size))
      clear b10
      go_wp2_with fail
      go_ret
      exact ⟨rfl, HB10.out⟩
    have hF9 : narE (fewT t) (fewC cv) = 0 := HF.out.trans hF0
    subst hF0
    obtain ⟨T, hT⟩ : ∃ T, fewT t = T := ⟨_, rfl⟩
    obtain ⟨C, hC⟩ : ∃ C, fewC cv = C := ⟨_, rfl⟩
    rw [hT] at HFT HA9
    rw [hT, hC] at HAY hF9
    have HFY := hid (FewTok.narrow (t := T) (c := C))
    rw [show narR T C = narrowT T C from if_pos hF9] at HAY HFY
    have HSU := hid (rolesT_narrow T C)
    have HUT := hid (untilT_narrow T C)
    have HAL := hid (allowE_narrow (t := T) (c := C) (r := (o, nm)) (aud := aud) (now := now))
    obtain ⟨Y, hY⟩ : ∃ Y, narrowT T C = Y := ⟨_, rfl⟩
    rw [hY] at HAY HFY HSU HUT HAL
    clear HF hF9 hT hC hY
    obtain ⟨x0, x1, x2, x3, x4, x5, x6, x7, x8⟩ := HX9.out.all
    simp only at x0 x1 x2 x3 x4 x5 x6 x7 x8
    have HP9 := hid (pRoles12_any HA9.out HFT.out)
    simp only at HP9
    go_wp2_with fail
    refine HP9.out.mono ?_
    rintro er w10 ⟨A1, n1, c1, rfl, hn1, hc1, hl1, e1, -, b10⟩
    have HX10 := hid (HX9.out.below b10)
    have HA10 := hid (HA9.out.below b10)
    have HY10 := hid (HY9.out.below b10)
    have HAY10 := hid (HAY.out.below b10)
    have HR10 := hid (HR9.out.below b10)
    have HB10 := hid (HB9.out.trans (b10.mono HB9.out.size))
    obtain ⟨old, hold⟩ : ∃ l, rolesT T = l := ⟨_, rfl⟩
    rw [hold] at e1 hl1 HSU
    have HE10 := hid e1
    have HL1 := hid hl1
    clear b10 HX9 HA9 HY9 HAY HR9 HB9 HP9 hl1 e1 hold x0 x1 x2 x3 x4 x5 x6 x7 x8
    obtain ⟨y0, y1, y2, y3, y4, y5, y6, y7, y8⟩ := HY10.out.all
    simp only at y0 y1 y2 y3 y4 y5 y6 y7 y8
    have HP10 := hid (pRoles12_any HAY10.out HFY.out)
    simp only at HP10
    go_wp2_with fail
    refine HP10.out.mono ?_
    rintro er w11 ⟨A2, n2, c2, rfl, hn2, hc2, hl2, e2, -, b11⟩
    have HX11 := hid (HX10.out.below b11)
    have HA11 := hid (HA10.out.below b11)
    have HY11 := hid (HY10.out.below b11)
    have HAY11 := hid (HAY10.out.below b11)
    have HR11 := hid (HR10.out.below b11)
    have HB11 := hid (HB10.out.trans (b11.mono HB10.out.size))
    obtain ⟨new, hnew⟩ : ∃ l, rolesT Y = l := ⟨_, rfl⟩
    rw [hnew] at e2 hl2 HSU
    have HE1 := hid (fun W (hW : Below w11.heap.size w11 W) => ((HE10.out.below b11).below hW).els)
    have HE2 := hid (fun W (hW : Below w11.heap.size w11 W) => (e2.below hW).els)
    have HL2 := hid hl2
    clear b11 HX10 HA10 HY10 HAY10 HR10 HB10 HP10 HE10 hl2 e2 hnew y0 y1 y2 y3 y4 y5 y6 y7 y8
    go_wp2_with fail
    go_loopw [15, 16] (fun z i wr => ∃ (k j : Nat), z = .int .i64 (k : Int) ∧ i = .int .i64 (j : Int) ∧ j ≤ n2 ∧ Hid ((new.drop j).Sublist (old.drop k)) ∧ Hid (Below w11.heap.size w11 wr)) (fun _ i _ => n2 - (intOf i).toNat)
    case atStart => exact ⟨0, 0, rfl, rfl, Nat.zero_le _, HSU, hid (Below.refl _ _)⟩
    case round =>
      obtain ⟨wj, hwj⟩ : ∃ x, x = wr := ⟨_, rfl⟩
      subst hwj
      obtain ⟨k, j, rfl, rfl, hj, HS, HB⟩ := hrel
      have hj0 : (0 : Int) ≤ (j : Int) := Int.natCast_nonneg _
      have hk0 : (0 : Int) ≤ (k : Int) := Int.natCast_nonneg _
      by_cases hlt : j < n2
      · have hj1 : (j : Int) < (n2 : Int) := by omega
        obtain ⟨r, hr⟩ : ∃ x, new[j]? = some x := ⟨_, List.getElem?_eq_getElem (by rw [HL2.out]; exact hlt)⟩
        have HNR := hid (drop_at hr)
        obtain ⟨bd, bj, hA, -, eb, hbb, b0, b1⟩ := role_at2 (HE2.out wj HB.out) hr
        subst hA
        have HBJ := hid (role_kept (fun W hW => HE2.out W (HB.out.trans (hW.mono HB.out.size))) hr eb)
        clear hr
        have HS2 : Hid ((r :: new.drop (j + 1)).Sublist (old.drop k)) := hid (by rw [← HNR.out]; exact HS.out)
        clear HS HNR b0 b1 hbb
        go_wp2
        go_loopw [15] (fun z wr => ∃ k : Nat, z = .int .i64 (k : Int) ∧ Hid ((r :: new.drop (j + 1)).Sublist (old.drop k)) ∧ Hid (Below wj.heap.size wj wr)) (fun z _ => n1 - (intOf z).toNat)
        case atStart => exact ⟨k, rfl, HS2, hid (Below.refl _ _)⟩
        case round =>
          clear HS2
          obtain ⟨wk, hwk⟩ : ∃ x, x = wr := ⟨_, rfl⟩
          subst hwk
          obtain ⟨x, rfl, HS, HK⟩ := hrel
          have hx0 : (0 : Int) ≤ (x : Int) := Int.natCast_nonneg _
          have hkn : x < n1 := by have := sub_lt HS.out; rw [HL1.out] at this; exact this
          have hk1 : (x : Int) < (n1 : Int) := by omega
          have hk2 : ¬ (x : Int) = (n1 : Int) := by omega
          have HBK := hid (HB.out.trans (HK.out.mono HB.out.size))
          obtain ⟨r2, hr2⟩ : ∃ y, old[x]? = some y := ⟨_, List.getElem?_eq_getElem (by rw [HL1.out]; exact hkn)⟩
          obtain ⟨ad, aj, hA, -, ea, -, a0, a1⟩ := role_at2 (HE1.out wk HBK.out) hr2
          subst hA
          obtain ⟨b0, b1⟩ := HBJ.out wk HK.out
          have HR2 := hid hr2
          clear hr2
          obtain ⟨q1, q2⟩ := r
          obtain ⟨p1, p2⟩ := r2
          simp only at a0 a1 b0 b1
          by_cases hq : ((p1, p2) : Ro) = (q1, q2)
          · obtain ⟨rfl, rfl⟩ := Prod.mk.inj hq
            go_wp2_with fail
            go_quiet (fail)
            go_wp2_with fail
            go_roundw
            case rel => exact ⟨x, j + 1, rfl, by go_num, by omega, hid ((List.sublist_cons_self _ _).trans HS.out), hid (below_drewN (HB.out.trans (HK.out.mono HB.out.size)) _)⟩
            case measure => simp [intOf]; omega
          · have HS3 := hid (sub_drop HS.out (by rw [HR2.out]; exact fun e => hq (Option.some.inj e)))
            by_cases hp1 : p1 = q1
            · subst hp1
              have hp2 : (p2.toList == q2.toList) = false := tl_ne (fun e => hq (by rw [e]))
              clear hq
              go_wp2_with fail
              go_quiet (fail)
              go_wp2_with fail
              go_roundw
              case rel => exact ⟨x + 1, by go_num, hid HS3.out.2, hid (below_drewN HK.out _)⟩
              case measure => simp [intOf]; omega
            · have hp2 : (p1.toList == q1.toList) = false := tl_ne hp1
              clear hq hp1
              go_wp2_with fail
              go_quiet (fail)
              go_wp2_with fail
              go_roundw
              case rel => exact ⟨x + 1, by go_num, hid HS3.out.2, hid (below_drewN HK.out _)⟩
              case measure => simp [intOf]; omega
      · have hj1 : ¬ (j : Int) < (n2 : Int) := by omega
        have HBJ := hid (HB11.out.trans (HB.out.mono HB11.out.size))
        have HXS : Hid (∀ W, Below wj.heap.size wj W → W.cell? ⟨w.heap.size, 0, none⟩ = some (.int .i64 d2) ∧ W.cell? ⟨w.heap.size, 1, none⟩ = some (.int .i64 e2) ∧ W.cell? ⟨w.heap.size, 2, none⟩ = some (.int .i64 m2) ∧ W.cell? ⟨w.heap.size, 3, none⟩ = some (.string who2) ∧ W.cell? ⟨w.heap.size, 4, none⟩ = some (.slice rA2 rn2 rc2) ∧ W.cell? ⟨w.heap.size, 5, none⟩ = some (.int .i64 til2) ∧ W.cell? ⟨w.heap.size, 6, none⟩ = some (.slice sA2 sn2 sc2) ∧ W.cell? ⟨w.heap.size, 7, none⟩ = some (.slice cA2 cn2 cc2) ∧ W.cell? ⟨w.heap.size, 8, none⟩ = some (.slice tA2 tn2 tc2) ∧ W.cell? ⟨GY, 0, none⟩ = some (.int .i64 d5) ∧ W.cell? ⟨GY, 1, none⟩ = some (.int .i64 e5) ∧ W.cell? ⟨GY, 2, none⟩ = some (.int .i64 m5) ∧ W.cell? ⟨GY, 3, none⟩ = some (.string who5) ∧ W.cell? ⟨GY, 4, none⟩ = some (.slice rA5 rn5 rc5) ∧ W.cell? ⟨GY, 5, none⟩ = some (.int .i64 til5) ∧ W.cell? ⟨GY, 6, none⟩ = some (.slice sA5 sn5 sc5) ∧ W.cell? ⟨GY, 7, none⟩ = some (.slice cA5 cn5 cc5) ∧ W.cell? ⟨GY, 8, none⟩ = some (.slice tA5 tn5 tc5) ∧ W.cell? ⟨w.heap.size + 1 + 1, 0, none⟩ = some (.string o) ∧ W.cell? ⟨w.heap.size + 1 + 1, 1, none⟩ = some (.string nm)) := hid (fun W hW => by
          have hW2 := HB.out.trans (hW.mono HB.out.size)
          obtain ⟨y0, y1, y2, y3, y4, y5, y6, y7, y8⟩ := (HX11.out.below hW2).all
          obtain ⟨z0, z1, z2, z3, z4, z5, z6, z7, z8⟩ := (HY11.out.below hW2).all
          obtain ⟨x0, x1⟩ := (HR11.out.below hW2).all
          exact ⟨y0, y1, y2, y3, y4, y5, y6, y7, y8, z0, z1, z2, z3, z4, z5, z6, z7, z8, x0, x1⟩)
        have HUY := hid (fun W (hW : Below wj.heap.size wj W) => pUntil12_any (HAY11.out.below (HB.out.trans (hW.mono HB.out.size))) HFY.out)
        have HUX := hid (fun W (hW : Below wj.heap.size wj W) => pUntil12_any (HA11.out.below (HB.out.trans (hW.mono HB.out.size))) HFT.out)
        have HLY := hid (fun W (hW : Below wj.heap.size wj W) => pAllows12_any (HAY11.out.below (HB.out.trans (hW.mono HB.out.size))) HFY.out o nm aud now)
        have HLX := hid (fun W (hW : Below wj.heap.size wj W) => pAllows12_any (HA11.out.below (HB.out.trans (hW.mono HB.out.size))) HFT.out o nm aud now)
        have HTI := hid (fun W => refTickT_any (untilT Y) W)
        rw [tickT_id (untilT_b Y).1 (untilT_b Y).2] at HTI
        obtain ⟨uy, huy⟩ : ∃ u, untilT Y = u := ⟨_, rfl⟩
        obtain ⟨ux, hux⟩ : ∃ u, untilT T = u := ⟨_, rfl⟩
        obtain ⟨ay, hay⟩ : ∃ u, allowE Y (o, nm) aud now = u := ⟨_, rfl⟩
        obtain ⟨ax, hax⟩ : ∃ u, allowE T (o, nm) aud now = u := ⟨_, rfl⟩
        simp only at HUY HUX HLY HLX
        rw [huy] at HUY HTI HUT
        rw [hux] at HUX HUT
        rw [hay] at HLY HAL
        rw [hax] at HLX HAL
        have hu : ¬ ux < uy := Int.not_lt.2 HUT.out
        have hu2 : decide (ux < uy) = false := decide_eq_false hu
        clear huy hux hay hax HS HE1 HE2 HX11 HA11 HY11 HAY11 HR11 hk0
        go_wp2_with fail
        by_cases hy0 : ay = 0
        · obtain rfl : ax = 0 := HAL.out hy0
          subst hy0
          go_region_held3 (fun W => W.cell? ⟨w.heap.size, 0, none⟩ = some (.int .i64 d2) ∧ W.cell? ⟨w.heap.size, 1, none⟩ = some (.int .i64 e2) ∧ W.cell? ⟨w.heap.size, 2, none⟩ = some (.int .i64 m2) ∧ W.cell? ⟨w.heap.size, 3, none⟩ = some (.string who2) ∧ W.cell? ⟨w.heap.size, 4, none⟩ = some (.slice rA2 rn2 rc2) ∧ W.cell? ⟨w.heap.size, 5, none⟩ = some (.int .i64 til2) ∧ W.cell? ⟨w.heap.size, 6, none⟩ = some (.slice sA2 sn2 sc2) ∧ W.cell? ⟨w.heap.size, 7, none⟩ = some (.slice cA2 cn2 cc2) ∧ W.cell? ⟨w.heap.size, 8, none⟩ = some (.slice tA2 tn2 tc2) ∧ W.cell? ⟨GY, 0, none⟩ = some (.int .i64 d5) ∧ W.cell? ⟨GY, 1, none⟩ = some (.int .i64 e5) ∧ W.cell? ⟨GY, 2, none⟩ = some (.int .i64 m5) ∧ W.cell? ⟨GY, 3, none⟩ = some (.string who5) ∧ W.cell? ⟨GY, 4, none⟩ = some (.slice rA5 rn5 rc5) ∧ W.cell? ⟨GY, 5, none⟩ = some (.int .i64 til5) ∧ W.cell? ⟨GY, 6, none⟩ = some (.slice sA5 sn5 sc5) ∧ W.cell? ⟨GY, 7, none⟩ = some (.slice cA5 cn5 cc5) ∧ W.cell? ⟨GY, 8, none⟩ = some (.slice tA5 tn5 tc5) ∧ W.cell? ⟨w.heap.size + 1 + 1, 0, none⟩ = some (.string o) ∧ W.cell? ⟨w.heap.size + 1 + 1, 1, none⟩ = some (.string nm))
            ((refine HXS.out _ ?_; repeat (first | with_reducible exact BQ10.out | with_reducible exact BQ9.out | with_reducible exact BQ8.out | with_reducible exact BQ7.out | with_reducible exact Below.refl _ _ | with_reducible refine Below.drew ?_)))
            ((first
              | (go_at_call 16; ((with_reducible refine (HUY.out _ ?_).mono ?_); (with_reducible exact (Below.refl _ _).drew); rintro er w7 ⟨rfl, b7⟩; have BQ7 := hid ((Below.refl wj.heap.size wj).drew.trans b7); clear b7))
              | (go_at_call 16; ((with_reducible refine (HUX.out _ ?_).mono ?_); (with_reducible exact BQ7.out); rintro er w8 ⟨rfl, b8⟩; have BQ8 := hid (BQ7.out.trans (b8.mono BQ7.out.size)); clear b8))
              | (go_at_call 17; ((with_reducible refine (HLY.out _ ?_).mono ?_); (with_reducible exact BQ8.out); rintro er w9 ⟨rfl, b9⟩; have BQ9 := hid (BQ8.out.trans (b9.mono BQ8.out.size)); clear b9))
              | (go_at_call 17; ((with_reducible refine (HLX.out _ ?_).mono ?_); (with_reducible exact BQ9.out); rintro er w10 ⟨rfl, b10⟩; have BQ10 := hid (BQ9.out.trans (b10.mono BQ9.out.size)); clear b10))))
          all_goals
            go_wp2_with fail
            go_region_held3 (fun W => W.cell? ⟨w.heap.size, 0, none⟩ = some (.int .i64 d2) ∧ W.cell? ⟨w.heap.size, 1, none⟩ = some (.int .i64 e2) ∧ W.cell? ⟨w.heap.size, 2, none⟩ = some (.int .i64 m2) ∧ W.cell? ⟨w.heap.size, 3, none⟩ = some (.string who2) ∧ W.cell? ⟨w.heap.size, 4, none⟩ = some (.slice rA2 rn2 rc2) ∧ W.cell? ⟨w.heap.size, 5, none⟩ = some (.int .i64 til2) ∧ W.cell? ⟨w.heap.size, 6, none⟩ = some (.slice sA2 sn2 sc2) ∧ W.cell? ⟨w.heap.size, 7, none⟩ = some (.slice cA2 cn2 cc2) ∧ W.cell? ⟨w.heap.size, 8, none⟩ = some (.slice tA2 tn2 tc2) ∧ W.cell? ⟨GY, 0, none⟩ = some (.int .i64 d5) ∧ W.cell? ⟨GY, 1, none⟩ = some (.int .i64 e5) ∧ W.cell? ⟨GY, 2, none⟩ = some (.int .i64 m5) ∧ W.cell? ⟨GY, 3, none⟩ = some (.string who5) ∧ W.cell? ⟨GY, 4, none⟩ = some (.slice rA5 rn5 rc5) ∧ W.cell? ⟨GY, 5, none⟩ = some (.int .i64 til5) ∧ W.cell? ⟨GY, 6, none⟩ = some (.slice sA5 sn5 sc5) ∧ W.cell? ⟨GY, 7, none⟩ = some (.slice cA5 cn5 cc5) ∧ W.cell? ⟨GY, 8, none⟩ = some (.slice tA5 tn5 tc5) ∧ W.cell? ⟨w.heap.size + 1 + 1, 0, none⟩ = some (.string o) ∧ W.cell? ⟨w.heap.size + 1 + 1, 1, none⟩ = some (.string nm))
              ((refine HXS.out _ ?_; repeat (first | with_reducible exact BR9.out | with_reducible exact BR8.out | with_reducible exact BR7.out | with_reducible exact BQ10.out | with_reducible refine Below.drew ?_)))
              ((first
                | (go_at_call 16; ((with_reducible refine (HUY.out _ ?_).mono ?_); (with_reducible exact BR7.out); rintro er w12 ⟨rfl, b12⟩; have BR8 := hid (BR7.out.trans (b12.mono BR7.out.size)); clear b12))
                | (go_at_call 16; ((with_reducible refine (HUY.out _ ?_).mono ?_); (with_reducible exact BQ10.out.drew); rintro er w11 ⟨rfl, b11⟩; have BR7 := hid (BQ10.out.drew.trans (b11.mono BQ10.out.size)); clear b11))
                | (go_at_call 18; ((with_reducible refine (HTI.out _).mono ?_); rintro er wz ⟨rfl, hz⟩; subst hz))
                | (go_at_call 11; ((refine (HLV.out _ (HBJ.out.trans (BR8.out.mono HBJ.out.size))).mono ?_); rintro er w13 ⟨rfl, b13⟩; have BR9 := hid (BR8.out.trans (b13.mono BR8.out.size)); clear b13))))
            all_goals
              go_wp2_with fail
              go_ret
              exact ⟨rfl, HBJ.out.trans (BR9.out.mono HBJ.out.size)⟩
        · have hy1 : decide (ay = 0) = false := decide_eq_false hy0
          have hy2 : (ay == 0) = false := beq_false_of_ne hy0
          refine wp_region_held_drew (S := (fun W => W.cell? ⟨w.heap.size, 0, none⟩ = some (.int .i64 d2) ∧ W.cell? ⟨w.heap.size, 1, none⟩ = some (.int .i64 e2) ∧ W.cell? ⟨w.heap.size, 2, none⟩ = some (.int .i64 m2) ∧ W.cell? ⟨w.heap.size, 3, none⟩ = some (.string who2) ∧ W.cell? ⟨w.heap.size, 4, none⟩ = some (.slice rA2 rn2 rc2) ∧ W.cell? ⟨w.heap.size, 5, none⟩ = some (.int .i64 til2) ∧ W.cell? ⟨w.heap.size, 6, none⟩ = some (.slice sA2 sn2 sc2) ∧ W.cell? ⟨w.heap.size, 7, none⟩ = some (.slice cA2 cn2 cc2) ∧ W.cell? ⟨w.heap.size, 8, none⟩ = some (.slice tA2 tn2 tc2) ∧ W.cell? ⟨GY, 0, none⟩ = some (.int .i64 d5) ∧ W.cell? ⟨GY, 1, none⟩ = some (.int .i64 e5) ∧ W.cell? ⟨GY, 2, none⟩ = some (.int .i64 m5) ∧ W.cell? ⟨GY, 3, none⟩ = some (.string who5) ∧ W.cell? ⟨GY, 4, none⟩ = some (.slice rA5 rn5 rc5) ∧ W.cell? ⟨GY, 5, none⟩ = some (.int .i64 til5) ∧ W.cell? ⟨GY, 6, none⟩ = some (.slice sA5 sn5 sc5) ∧ W.cell? ⟨GY, 7, none⟩ = some (.slice cA5 cn5 cc5) ∧ W.cell? ⟨GY, 8, none⟩ = some (.slice tA5 tn5 tc5) ∧ W.cell? ⟨w.heap.size + 1 + 1, 0, none⟩ = some (.string o) ∧ W.cell? ⟨w.heap.size + 1 + 1, 1, none⟩ = some (.string nm))) (by kernel_rfl) (HXS.out _ (Below.refl wj.heap.size wj).drew) (fun hH0 => ?_)
          refine wpAnyH_take (i := 0) (oi := ({ dst := some 60, op := Op.load 27 (Operand.tmp 11), type := 27, pos := "law.go:117", after := #[], guard := none } : Oper)) (v := (.agg #[.int .i64 d5, .int .i64 e5, .int .i64 m5, .string who5, .slice rA5 rn5 rc5, .int .i64 til5, .slice sA5 sn5 sc5, .slice cA5 cn5 cc5, .slice tA5 tn5 tc5])) rfl (by kernel_rfl) (by kernel_rfl) (by kernel_rfl) (fun _ _ _ h => h) (Or.inl ⟨by rfl, by intro w hSw; (try dsimp only at hSw); go_simp⟩) hH0 ?_
          simp only [Act.put, List.setIfInBounds_toArray, List.set_cons_zero, List.set_cons_succ]
          refine wpAnyH_take (i := 2) (oi := ({ dst := some 62, op := Op.load 27 (Operand.tmp 5), type := 27, pos := "law.go:117", after := #[], guard := none } : Oper)) (v := (.agg #[.int .i64 d2, .int .i64 e2, .int .i64 m2, .string who2, .slice rA2 rn2 rc2, .int .i64 til2, .slice sA2 sn2 sc2, .slice cA2 cn2 cc2, .slice tA2 tn2 tc2])) rfl (by kernel_rfl) (by kernel_rfl) (by kernel_rfl) (fun _ _ _ h => h) (Or.inl ⟨by rfl, by intro w hSw; (try dsimp only at hSw); go_simp⟩) hH0 ?_
          simp only [Act.put, List.setIfInBounds_toArray, List.set_cons_zero, List.set_cons_succ]
          refine wpAnyH_ready (rs := [1]) (by kernel_rfl) (by simp) ?_
          refine AllReadyH.cons (o := ({ dst := some 61, op := Op.call { callee := Callee.value (Operand.func 16), args := #[Operand.tmp 60], argTypes := #[27] }, type := 3, pos := "law.go:117", after := #[{ on := 0, ground := Ground.data }], guard := none } : Oper)) rfl (fun K hK => ?_) AllReadyH.nil
          rw [if_pos (by rfl)]
          go_simp
          refine (HUY.out _ (Below.refl wj.heap.size wj).drew).mono ?_
          rintro er w7 ⟨rfl, b7⟩
          have BQ7 := hid ((Below.refl wj.heap.size wj).drew.trans (b7.mono (Below.refl wj.heap.size wj).drew.size))
          refine hK.out _ _ (HXS.out _ BQ7.out) (fun hH1 => ?_)
          clear hK K hH0 b7
          try simp only [Act.put, List.setIfInBounds_toArray, List.set_cons_zero, List.set_cons_succ]
          refine wpAnyH_ready (rs := [3]) (by kernel_rfl) (by simp) ?_
          refine AllReadyH.cons (o := ({ dst := some 63, op := Op.call { callee := Callee.value (Operand.func 16), args := #[Operand.tmp 62], argTypes := #[27] }, type := 3, pos := "law.go:117", after := #[{ on := 2, ground := Ground.data }, { on := 1, ground := Ground.chain }], guard := none } : Oper)) rfl (fun K hK => ?_) AllReadyH.nil
          rw [if_pos (by rfl)]
          go_simp
          refine (HUX.out _ BQ7.out).mono ?_
          rintro er w8 ⟨rfl, b8⟩
          have BQ8 := hid (BQ7.out.trans (b8.mono BQ7.out.size))
          refine hK.out _ _ (HXS.out _ BQ8.out) (fun hH2 => ?_)
          clear hK K hH1 b8
          try simp only [Act.put, List.setIfInBounds_toArray, List.set_cons_zero, List.set_cons_succ]
          refine wpAnyH_take (i := 4) (oi := ({ dst := some 64, op := Op.binOp BinOp.gtr 3 (Operand.tmp 61) (Operand.tmp 63) 3, type := 4, pos := "law.go:117", after := #[{ on := 1, ground := Ground.data }, { on := 3, ground := Ground.data }], guard := none } : Oper)) (v := (.bool false)) rfl (by kernel_rfl) (by kernel_rfl) (by kernel_rfl) (fun _ _ _ h => h) (Or.inl ⟨by rfl, by intro w hSw; (try dsimp only at hSw); go_simp⟩) hH2 ?_
          simp only [Act.put, List.setIfInBounds_toArray, List.set_cons_zero, List.set_cons_succ]
          refine wpAnyH_take (i := 5) (oi := ({ dst := some 65, op := Op.move (Operand.tmp 64), type := 4, pos := "law.go:117", after := #[{ on := 4, ground := Ground.data }, { on := 3, ground := Ground.chain }], guard := none } : Oper)) (v := (.bool false)) rfl (by kernel_rfl) (by kernel_rfl) (by kernel_rfl) (fun _ _ _ h => h) (Or.inl ⟨by rfl, by intro w hSw; (try dsimp only at hSw); go_simp⟩) hH2 ?_
          simp only [Act.put, List.setIfInBounds_toArray, List.set_cons_zero, List.set_cons_succ]
          refine wpAnyH_take (i := 6) (oi := ({ dst := some 66, op := Op.load 27 (Operand.tmp 11), type := 27, pos := "law.go:117", after := #[{ on := 5, ground := Ground.guard }], guard := some (5, false) } : Oper)) (v := (.agg #[.int .i64 d5, .int .i64 e5, .int .i64 m5, .string who5, .slice rA5 rn5 rc5, .int .i64 til5, .slice sA5 sn5 sc5, .slice cA5 cn5 cc5, .slice tA5 tn5 tc5])) rfl (by kernel_rfl) (by kernel_rfl) (by kernel_rfl) (fun _ _ _ h => h) (Or.inl ⟨by rfl, by intro w hSw; (try dsimp only at hSw); go_simp⟩) hH2 ?_
          simp only [Act.put, List.setIfInBounds_toArray, List.set_cons_zero, List.set_cons_succ]
          refine wpAnyH_take (i := 7) (oi := ({ dst := some 67, op := Op.load 42 (Operand.tmp 7), type := 42, pos := "law.go:117", after := #[{ on := 5, ground := Ground.guard }], guard := some (5, false) } : Oper)) (v := (.agg #[.string o, .string nm])) rfl (by kernel_rfl) (by kernel_rfl) (by kernel_rfl) (fun _ _ _ h => h) (Or.inl ⟨by rfl, by intro w hSw; (try dsimp only at hSw); go_simp⟩) hH2 ?_
          simp only [Act.put, List.setIfInBounds_toArray, List.set_cons_zero, List.set_cons_succ]
          refine wpAnyH_take (i := 8) (oi := ({ dst := some 68, op := Op.move (Operand.tmp 3), type := 9, pos := "law.go:117", after := #[{ on := 5, ground := Ground.guard }], guard := some (5, false) } : Oper)) (v := (.string aud)) rfl (by kernel_rfl) (by kernel_rfl) (by kernel_rfl) (fun _ _ _ h => h) (Or.inl ⟨by rfl, by intro w hSw; (try dsimp only at hSw); go_simp⟩) hH2 ?_
          simp only [Act.put, List.setIfInBounds_toArray, List.set_cons_zero, List.set_cons_succ]
          refine wpAnyH_take (i := 9) (oi := ({ dst := some 69, op := Op.move (Operand.tmp 4), type := 3, pos := "law.go:117", after := #[{ on := 5, ground := Ground.guard }], guard := some (5, false) } : Oper)) (v := (.int .i64 now)) rfl (by kernel_rfl) (by kernel_rfl) (by kernel_rfl) (fun _ _ _ h => h) (Or.inl ⟨by rfl, by intro w hSw; (try dsimp only at hSw); go_simp⟩) hH2 ?_
          simp only [Act.put, List.setIfInBounds_toArray, List.set_cons_zero, List.set_cons_succ]
          refine wpAnyH_ready (rs := [10]) (by kernel_rfl) (by simp) ?_
          refine AllReadyH.cons (o := ({ dst := some 70, op := Op.call { callee := Callee.value (Operand.func 17), args := #[Operand.tmp 66, Operand.tmp 67, Operand.tmp 68, Operand.tmp 69], argTypes := #[27, 42, 9, 3] }, type := 30, pos := "law.go:117", after := #[{ on := 6, ground := Ground.data }, { on := 7, ground := Ground.data }, { on := 8, ground := Ground.data }, { on := 9, ground := Ground.data }, { on := 5, ground := Ground.chain }, { on := 5, ground := Ground.guard }], guard := some (5, false) } : Oper)) rfl (fun K hK => ?_) AllReadyH.nil
          rw [if_pos (by rfl)]
          go_simp
          refine (HLY.out _ BQ8.out).mono ?_
          rintro er w9 ⟨rfl, b9⟩
          have BQ9 := hid (BQ8.out.trans (b9.mono BQ8.out.size))
          refine hK.out _ _ (HXS.out _ BQ9.out) (fun hH3 => ?_)
          clear hK K hH2 b9
          try simp only [Act.put, List.setIfInBounds_toArray, List.set_cons_zero, List.set_cons_succ]
          refine wpAnyH_take (i := 11) (oi := ({ dst := some 71, op := Op.binOp BinOp.eql 30 (Operand.tmp 70) (Operand.const (Value.int IntKind.i64 0)) 30, type := 4, pos := "law.go:117", after := #[{ on := 10, ground := Ground.data }, { on := 5, ground := Ground.guard }], guard := some (5, false) } : Oper)) (v := (.bool false)) rfl (by kernel_rfl) (by kernel_rfl) (by kernel_rfl) (fun _ _ _ h => h) (Or.inl ⟨by rfl, by intro w hSw; (try dsimp only at hSw); go_simp⟩) hH3 ?_
          simp only [Act.put, List.setIfInBounds_toArray, List.set_cons_zero, List.set_cons_succ]
          refine wpAnyH_take (i := 12) (oi := ({ dst := some 72, op := Op.move (Operand.tmp 71), type := 4, pos := "law.go:117", after := #[{ on := 11, ground := Ground.data }, { on := 10, ground := Ground.chain }, { on := 5, ground := Ground.guard }], guard := some (5, false) } : Oper)) (v := (.bool false)) rfl (by kernel_rfl) (by kernel_rfl) (by kernel_rfl) (fun _ _ _ h => h) (Or.inl ⟨by rfl, by intro w hSw; (try dsimp only at hSw); go_simp⟩) hH3 ?_
          simp only [Act.put, List.setIfInBounds_toArray, List.set_cons_zero, List.set_cons_succ]
          refine wpAnyH_take (i := 13) (oi := ({ dst := some 73, op := Op.load 27 (Operand.tmp 5), type := 27, pos := "law.go:117", after := #[{ on := 12, ground := Ground.guard }], guard := some (12, true) } : Oper)) (v := undef) rfl (by kernel_rfl) (by kernel_rfl) (by kernel_rfl) (fun _ _ _ h => h) (Or.inr ⟨by rfl, rfl⟩) hH3 ?_
          simp only [Act.put, List.setIfInBounds_toArray, List.set_cons_zero, List.set_cons_succ]
          refine wpAnyH_take (i := 14) (oi := ({ dst := some 74, op := Op.load 42 (Operand.tmp 7), type := 42, pos := "law.go:117", after := #[{ on := 12, ground := Ground.guard }], guard := some (12, true) } : Oper)) (v := undef) rfl (by kernel_rfl) (by kernel_rfl) (by kernel_rfl) (fun _ _ _ h => h) (Or.inr ⟨by rfl, rfl⟩) hH3 ?_
          simp only [Act.put, List.setIfInBounds_toArray, List.set_cons_zero, List.set_cons_succ]
          refine wpAnyH_take (i := 15) (oi := ({ dst := some 75, op := Op.move (Operand.tmp 3), type := 9, pos := "law.go:117", after := #[{ on := 12, ground := Ground.guard }], guard := some (12, true) } : Oper)) (v := undef) rfl (by kernel_rfl) (by kernel_rfl) (by kernel_rfl) (fun _ _ _ h => h) (Or.inr ⟨by rfl, rfl⟩) hH3 ?_
          simp only [Act.put, List.setIfInBounds_toArray, List.set_cons_zero, List.set_cons_succ]
          refine wpAnyH_take (i := 16) (oi := ({ dst := some 76, op := Op.move (Operand.tmp 4), type := 3, pos := "law.go:117", after := #[{ on := 12, ground := Ground.guard }], guard := some (12, true) } : Oper)) (v := undef) rfl (by kernel_rfl) (by kernel_rfl) (by kernel_rfl) (fun _ _ _ h => h) (Or.inr ⟨by rfl, rfl⟩) hH3 ?_
          simp only [Act.put, List.setIfInBounds_toArray, List.set_cons_zero, List.set_cons_succ]
          refine wpAnyH_take (i := 17) (oi := ({ dst := some 77, op := Op.call { callee := Callee.value (Operand.func 17), args := #[Operand.tmp 73, Operand.tmp 74, Operand.tmp 75, Operand.tmp 76], argTypes := #[27, 42, 9, 3] }, type := 30, pos := "law.go:117", after := #[{ on := 13, ground := Ground.data }, { on := 14, ground := Ground.data }, { on := 15, ground := Ground.data }, { on := 16, ground := Ground.data }, { on := 12, ground := Ground.chain }, { on := 12, ground := Ground.guard }], guard := some (12, true) } : Oper)) (v := undef) rfl (by kernel_rfl) (by kernel_rfl) (by kernel_rfl) (fun _ _ _ h => h) (Or.inr ⟨by rfl, rfl⟩) hH3 ?_
          simp only [Act.put, List.setIfInBounds_toArray, List.set_cons_zero, List.set_cons_succ]
          refine wpAnyH_take (i := 18) (oi := ({ dst := some 78, op := Op.binOp BinOp.neq 30 (Operand.tmp 77) (Operand.const (Value.int IntKind.i64 0)) 30, type := 4, pos := "law.go:117", after := #[{ on := 17, ground := Ground.data }, { on := 12, ground := Ground.guard }], guard := some (12, true) } : Oper)) (v := undef) rfl (by kernel_rfl) (by kernel_rfl) (by kernel_rfl) (fun _ _ _ h => h) (Or.inr ⟨by rfl, rfl⟩) hH3 ?_
          simp only [Act.put, List.setIfInBounds_toArray, List.set_cons_zero, List.set_cons_succ]
          refine wpAnyH_take (i := 19) (oi := ({ dst := some 79, op := Op.pick (Operand.tmp 72) (Operand.tmp 78) (Operand.const (Value.bool false)), type := 4, pos := "law.go:117", after := #[{ on := 12, ground := Ground.data }, { on := 18, ground := Ground.data }, { on := 5, ground := Ground.guard }], guard := some (5, false) } : Oper)) (v := (.bool false)) rfl (by kernel_rfl) (by kernel_rfl) (by kernel_rfl) (fun _ _ _ h => h) (Or.inl ⟨by rfl, by intro w hSw; (try dsimp only at hSw); go_simp⟩) hH3 ?_
          simp only [Act.put, List.setIfInBounds_toArray, List.set_cons_zero, List.set_cons_succ]
          refine wpAnyH_take (i := 20) (oi := ({ dst := some 80, op := Op.pick (Operand.tmp 65) (Operand.const (Value.bool true)) (Operand.tmp 79), type := 4, pos := "law.go:117", after := #[{ on := 5, ground := Ground.data }, { on := 19, ground := Ground.data }], guard := none } : Oper)) (v := (.bool false)) rfl (by kernel_rfl) (by kernel_rfl) (by kernel_rfl) (fun _ _ _ h => h) (Or.inl ⟨by rfl, by intro w hSw; (try dsimp only at hSw); go_simp⟩) hH3 ?_
          simp only [Act.put, List.setIfInBounds_toArray, List.set_cons_zero, List.set_cons_succ]
          refine wpAnyH_done (by kernel_rfl) ?_ _
          clear hH3
          all_goals
            go_wp2_with fail
            go_region_held3 (fun W => W.cell? ⟨w.heap.size, 0, none⟩ = some (.int .i64 d2) ∧ W.cell? ⟨w.heap.size, 1, none⟩ = some (.int .i64 e2) ∧ W.cell? ⟨w.heap.size, 2, none⟩ = some (.int .i64 m2) ∧ W.cell? ⟨w.heap.size, 3, none⟩ = some (.string who2) ∧ W.cell? ⟨w.heap.size, 4, none⟩ = some (.slice rA2 rn2 rc2) ∧ W.cell? ⟨w.heap.size, 5, none⟩ = some (.int .i64 til2) ∧ W.cell? ⟨w.heap.size, 6, none⟩ = some (.slice sA2 sn2 sc2) ∧ W.cell? ⟨w.heap.size, 7, none⟩ = some (.slice cA2 cn2 cc2) ∧ W.cell? ⟨w.heap.size, 8, none⟩ = some (.slice tA2 tn2 tc2) ∧ W.cell? ⟨GY, 0, none⟩ = some (.int .i64 d5) ∧ W.cell? ⟨GY, 1, none⟩ = some (.int .i64 e5) ∧ W.cell? ⟨GY, 2, none⟩ = some (.int .i64 m5) ∧ W.cell? ⟨GY, 3, none⟩ = some (.string who5) ∧ W.cell? ⟨GY, 4, none⟩ = some (.slice rA5 rn5 rc5) ∧ W.cell? ⟨GY, 5, none⟩ = some (.int .i64 til5) ∧ W.cell? ⟨GY, 6, none⟩ = some (.slice sA5 sn5 sc5) ∧ W.cell? ⟨GY, 7, none⟩ = some (.slice cA5 cn5 cc5) ∧ W.cell? ⟨GY, 8, none⟩ = some (.slice tA5 tn5 tc5) ∧ W.cell? ⟨w.heap.size + 1 + 1, 0, none⟩ = some (.string o) ∧ W.cell? ⟨w.heap.size + 1 + 1, 1, none⟩ = some (.string nm))
              ((refine HXS.out _ ?_; repeat (first | with_reducible exact BR9.out | with_reducible exact BR8.out | with_reducible exact BR7.out | with_reducible exact BQ9.out | with_reducible refine Below.drew ?_)))
              ((first
                | (go_at_call 16; ((with_reducible refine (HUY.out _ ?_).mono ?_); (with_reducible exact BR7.out); rintro er w12 ⟨rfl, b12⟩; have BR8 := hid (BR7.out.trans (b12.mono BR7.out.size)); clear b12))
                | (go_at_call 16; ((with_reducible refine (HUY.out _ ?_).mono ?_); (with_reducible exact BQ9.out.drew); rintro er w11 ⟨rfl, b11⟩; have BR7 := hid (BQ9.out.drew.trans (b11.mono BQ9.out.size)); clear b11))
                | (go_at_call 18; ((with_reducible refine (HTI.out _).mono ?_); rintro er wz ⟨rfl, hz⟩; subst hz))
                | (go_at_call 11; ((refine (HLV.out _ (HBJ.out.trans (BR8.out.mono HBJ.out.size))).mono ?_); rintro er w13 ⟨rfl, b13⟩; have BR9 := hid (BR8.out.trans (b13.mono BR8.out.size)); clear b13))))
            all_goals
              go_wp2_with fail
              go_ret
              exact ⟨rfl, HBJ.out.trans (BR9.out.mono HBJ.out.size)⟩
end Go.Proofs.YtaadmgbmaekicaaDoor.Sh
