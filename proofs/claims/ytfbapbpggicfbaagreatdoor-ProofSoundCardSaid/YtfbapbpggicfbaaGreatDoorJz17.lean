/-
  The program's visit with what only adds, by contract; its Size.
-/
import Derived.Test.YtfbapbpggicfbaaGreatDoorJz13
import Derived.Test.YtfbapbpggicfbaaGreatDoorJz16
set_option linter.unusedVariables false
set_option linter.unusedSimpArgs false
namespace Go.Proofs.YtfbapbpggicfbaaGreatDoor.Sh
open Go Go.RowKit

set_option linter.unusedVariables false
set_option linter.unusedSimpArgs false

theorem grown_same (w : World) (g : Option Nat) : w.grownBy w g := ⟨rfl, rfl, rfl, Nat.le_refl _, fun _ _ _ => rfl⟩
set_option maxHeartbeats 4000000 in
set_option maxRecDepth 100000 in
theorem visitN_any (rc : Value) (g B : Nat) (Inv : World → List (Int × Int) → Prop)
    (hf : ∀ (p : PT) (w : World) (L : List (Int × Int)), Inv w L → PIn w B p → B ≤ w.heap.size → L.length ≤ 100000 → Calls Tryz.prog 34 #[rc, .agg p.cells.toArray] w fun e w' => e = .returned (.bool true) ∧ Inv w' (L ++ [(p.d, p.q)]) ∧ w.grownBy w' (some g))
    (hk : ∀ w w' L, Inv w L → Below w.heap.size w w' → Inv w' L) (hl : ∀ w L, Inv w L → g < w.heap.size) (hgB : B ≤ g) (p : PT) : ∀ (w : World) (L : List (Int × Int)), Inv w L → PIn w B p → L.length + p.size ≤ 100000 →
    Calls Tryz.prog 12 #[.agg p.cells.toArray, .func (.func 34) #[rc] #[]] w fun e w' => e = .returned (.bool true) ∧ Inv w' (L ++ p.ids) ∧ w.grownBy w' (some g) := by
  induction p using PT.ind
  rename_i o n x d q A c ps ih
  intro w L hi hp hsz
  have HIH := hid ih
  have HBW : Hid (B ≤ w.heap.size) := hid (by have := hl w L hi; omega)
  have HGW : Hid (g < w.heap.size) := hid (hl w L hi)
  obtain ⟨h1, h2, h3, h4⟩ := hp.open'
  obtain ⟨w1, hw1⟩ : ∃ w1, w1 = w.alloc (.cells (PT.mk o n x d q A c ps).cells.toArray 29) := ⟨_, rfl⟩
  have HQ1 : Hid (Below w.heap.size w w1) := hid (by rw [hw1]; exact below_pr w _)
  have HZ1 : Hid (w1.heap.size = w.heap.size + 1) := hid (by rw [hw1]; simp)
  have HGQ : Hid (w.grownBy w1 (some g)) := hid (by rw [hw1]; exact World.grownBy_alloc w _ _)
  have HPA : Hid (PrAt w1 w.heap.size (.mk o n x d q A c ps)) := hid (by rw [hw1]; exact PrAt.new w _)
  have HPB := hid (fun W (hW : w1.grownBy W (some g)) => (((Below.refl B w).grown HGQ.out HBW.out (fun k e => by injection e with e; omega)).grown hW (by have := HZ1.out; have := HBW.out; omega) (fun k e => by injection e with e; omega) : Below B w W))
  have HPI := hid (fun a (ha : a ∈ ps) W (hW : Below B w W) => (h4 a ha).into hW)
  have HEL := hid (fun W (hW : Below B w W) => h3.below hW)
  obtain ⟨np, hnp⟩ : ∃ np, ps.length = np := ⟨_, rfl⟩
  have HNP := hid hnp
  have hnp63 : np ≤ 9223372036854775807 := by omega
  have HPA5 := hid (fun W (hW : w1.grownBy W (some g)) => (PrAt.all (w := W) ((hW.block w.heap.size HPA.out.lt (fun e => by injection e with e; have := HGW.out; omega)).trans HPA.out)))
  rw [hnp] at HPA5
  have HSE : Hid (L.length + (1 + (ps.map PT.size).sum) ≤ 100000) := hid (by rw [PT.size_eq] at hsz; exact hsz)
  have HCF := hid (hf (.mk o n x d q A c ps) w1 L (hk _ _ _ hi HQ1.out) (hp.into (HPB.out _ (grown_same _ _))) (by have := HZ1.out; have := HBW.out; omega) (by omega))
  have HK := hid hk
  unfold PT.cells PT.d PT.q at HCF
  unfold PT.cells at hw1 ⊢
  simp only [hnp] at hw1 HCF ⊢
  rw [PT.ids_eq]
  clear ih hp h1 h2 h3 h4 hnp hf hk hi hsz hl
  go_enter Tryz.func12, Tryz.ntmps12
  go_wp2_with fail
  rw [← hw1]
  clear hw1
  refine HCF.out.mono ?_
  rintro er w2 ⟨rfl, hi2, hg2⟩
  have HI2 := hid hi2
  have HG2 := hid hg2
  clear HCF hi2 hg2
  obtain ⟨k0, k1, k2, k3, k4, k5⟩ := HPA5.out _ HG2.out
  go_wp2_with fail
  go_loopw [14] (fun i wr => ∃ j : Nat, j ≤ np ∧ i = .int .i64 (j : Int) ∧ Hid (Inv wr (L ++ (d, q) :: (ps.take j).flatMap PT.ids)) ∧ Hid (w1.grownBy wr (some g))) (fun i _ => np - (intOf i).toNat)
  case atStart => exact ⟨0, Nat.zero_le _, rfl, hid (by simpa using HI2.out), HG2⟩
  case round =>
    obtain ⟨j, hj, rfl, HIN, HG⟩ := hrel
    by_cases hlt : j < np
    · obtain ⟨⟨o2, n2, x2, d2, q2, A2, c2, ps2⟩, hx⟩ : ∃ x, ps[j]? = some x := ⟨_, List.getElem?_eq_getElem (by rw [HNP.out]; exact hlt)⟩
      have HX := hid hx
      have HME : Hid (PT.mk o2 n2 x2 d2 q2 A2 c2 ps2 ∈ ps) := hid (List.mem_of_getElem? hx)
      obtain ⟨ad, aj, rfl, hab, ea, hbj, a0, a1, a2, a3, a4, a5⟩ := PIn.get (HEL.out _ (HPB.out _ HG.out)) hx
      have hj0 : (0 : Int) ≤ (j : Int) := Int.natCast_nonneg _
      have hj1 : (j : Int) < (np : Int) := by omega
      clear hx hab hbj
      obtain ⟨wb, hwb⟩ : ∃ wb, wb = wr.alloc (.cells (PT.mk o2 n2 x2 d2 q2 A2 c2 ps2).cells.toArray 29) := ⟨_, rfl⟩
      have HGB : Hid (w1.grownBy wb (some g)) := hid (by rw [hwb]; exact HG.out.trans (World.grownBy_alloc wr _ _))
      have HIB := hid (HK.out wr wb _ HIN.out (by rw [hwb]; exact below_pr wr _))
      have HCA := hid (HIH.out _ HME.out wb _ HIB.out (HPI.out _ HME.out _ (HPB.out _ HGB.out)) (by
        have e1 := HSE.out
        have e2 := sum_split HX.out
        have e4 : ((ps.take j).flatMap PT.ids).length = ((ps.take j).map PT.size).sum := by rw [List.length_flatMap]; rfl
        rw [List.length_append, List.length_cons, e4]
        omega))
      rw [show (L ++ (d, q) :: (ps.take j).flatMap PT.ids) ++ (PT.mk o2 n2 x2 d2 q2 A2 c2 ps2).ids = L ++ (d, q) :: (ps.take (j + 1)).flatMap PT.ids by rw [take_snoc_of HX.out, List.flatMap_append]; simp] at HCA
      unfold PT.cells at HCA hwb
      simp only at HCA hwb
      go_wp2_with fail
      rw [← hwb]
      refine HCA.out.mono ?_
      rintro er w3 ⟨rfl, hi3, hg3⟩
      have HI3 := hid hi3
      have HG3 := hid (HGB.out.trans hg3)
      clear hi3 hg3 HCA hwb a0 a1 a2 a3 a4 a5
      go_wp2_with fail
      go_roundw
      case rel => exact ⟨j + 1, by omega, by go_num, HI3, HG3⟩
      case measure => simp [intOf]; omega
    · obtain rfl : j = np := by omega
      have HIE : Hid (Inv wr (L ++ (d, q) :: ps.flatMap PT.ids)) := hid (by have := HIN.out; rwa [List.take_of_length_le (by rw [HNP.out]; exact Nat.le_refl _)] at this)
      go_wp2_with fail
      go_ret
      exact ⟨rfl, HIE.out, HGQ.out.trans HG.out⟩
set_option maxHeartbeats 4000000 in
set_option maxRecDepth 100000 in
theorem visitI_any (rc : Value) (g B : Nat) (Inv : World → List (Int × Int) → Prop)
    (hf : ∀ (p : PT) (w : World) (L : List (Int × Int)), Inv w L → PIn w B p → B ≤ w.heap.size → L.length ≤ 100000 → Calls Tryz.prog 30 #[rc, .agg p.cells.toArray] w fun e w' => e = .returned (.bool true) ∧ Inv w' (L ++ [(p.d, p.q)]) ∧ w.grownBy w' (some g))
    (hk : ∀ w w' L, Inv w L → Below w.heap.size w w' → Inv w' L) (hl : ∀ w L, Inv w L → g < w.heap.size) (hgB : B ≤ g) (p : PT) : ∀ (w : World) (L : List (Int × Int)), Inv w L → PIn w B p → L.length + p.size ≤ 100000 →
    Calls Tryz.prog 12 #[.agg p.cells.toArray, .func (.func 30) #[rc] #[]] w fun e w' => e = .returned (.bool true) ∧ Inv w' (L ++ p.ids) ∧ w.grownBy w' (some g) := by
  induction p using PT.ind
  rename_i o n x d q A c ps ih
  intro w L hi hp hsz
  have HIH := hid ih
  have HBW : Hid (B ≤ w.heap.size) := hid (by have := hl w L hi; omega)
  have HGW : Hid (g < w.heap.size) := hid (hl w L hi)
  obtain ⟨h1, h2, h3, h4⟩ := hp.open'
  obtain ⟨w1, hw1⟩ : ∃ w1, w1 = w.alloc (.cells (PT.mk o n x d q A c ps).cells.toArray 29) := ⟨_, rfl⟩
  have HQ1 : Hid (Below w.heap.size w w1) := hid (by rw [hw1]; exact below_pr w _)
  have HZ1 : Hid (w1.heap.size = w.heap.size + 1) := hid (by rw [hw1]; simp)
  have HGQ : Hid (w.grownBy w1 (some g)) := hid (by rw [hw1]; exact World.grownBy_alloc w _ _)
  have HPA : Hid (PrAt w1 w.heap.size (.mk o n x d q A c ps)) := hid (by rw [hw1]; exact PrAt.new w _)
  have HPB := hid (fun W (hW : w1.grownBy W (some g)) => (((Below.refl B w).grown HGQ.out HBW.out (fun k e => by injection e with e; omega)).grown hW (by have := HZ1.out; have := HBW.out; omega) (fun k e => by injection e with e; omega) : Below B w W))
  have HPI := hid (fun a (ha : a ∈ ps) W (hW : Below B w W) => (h4 a ha).into hW)
  have HEL := hid (fun W (hW : Below B w W) => h3.below hW)
  obtain ⟨np, hnp⟩ : ∃ np, ps.length = np := ⟨_, rfl⟩
  have HNP := hid hnp
  have hnp63 : np ≤ 9223372036854775807 := by omega
  have HPA5 := hid (fun W (hW : w1.grownBy W (some g)) => (PrAt.all (w := W) ((hW.block w.heap.size HPA.out.lt (fun e => by injection e with e; have := HGW.out; omega)).trans HPA.out)))
  rw [hnp] at HPA5
  have HSE : Hid (L.length + (1 + (ps.map PT.size).sum) ≤ 100000) := hid (by rw [PT.size_eq] at hsz; exact hsz)
  have HCF := hid (hf (.mk o n x d q A c ps) w1 L (hk _ _ _ hi HQ1.out) (hp.into (HPB.out _ (grown_same _ _))) (by have := HZ1.out; have := HBW.out; omega) (by omega))
  have HK := hid hk
  unfold PT.cells PT.d PT.q at HCF
  unfold PT.cells at hw1 ⊢
  simp only [hnp] at hw1 HCF ⊢
  rw [PT.ids_eq]
  clear ih hp h1 h2 h3 h4 hnp hf hk hi hsz hl
  go_enter Tryz.func12, Tryz.ntmps12
  go_wp2_with fail
  rw [← hw1]
  clear hw1
  refine HCF.out.mono ?_
  rintro er w2 ⟨rfl, hi2, hg2⟩
  have HI2 := hid hi2
  have HG2 := hid hg2
  clear HCF hi2 hg2
  obtain ⟨k0, k1, k2, k3, k4, k5⟩ := HPA5.out _ HG2.out
  go_wp2_with fail
  go_loopw [14] (fun i wr => ∃ j : Nat, j ≤ np ∧ i = .int .i64 (j : Int) ∧ Hid (Inv wr (L ++ (d, q) :: (ps.take j).flatMap PT.ids)) ∧ Hid (w1.grownBy wr (some g))) (fun i _ => np - (intOf i).toNat)
  case atStart => exact ⟨0, Nat.zero_le _, rfl, hid (by simpa using HI2.out), HG2⟩
  case round =>
    obtain ⟨j, hj, rfl, HIN, HG⟩ := hrel
    by_cases hlt : j < np
    · obtain ⟨⟨o2, n2, x2, d2, q2, A2, c2, ps2⟩, hx⟩ : ∃ x, ps[j]? = some x := ⟨_, List.getElem?_eq_getElem (by rw [HNP.out]; exact hlt)⟩
      have HX := hid hx
      have HME : Hid (PT.mk o2 n2 x2 d2 q2 A2 c2 ps2 ∈ ps) := hid (List.mem_of_getElem? hx)
      obtain ⟨ad, aj, rfl, hab, ea, hbj, a0, a1, a2, a3, a4, a5⟩ := PIn.get (HEL.out _ (HPB.out _ HG.out)) hx
      have hj0 : (0 : Int) ≤ (j : Int) := Int.natCast_nonneg _
      have hj1 : (j : Int) < (np : Int) := by omega
      clear hx hab hbj
      obtain ⟨wb, hwb⟩ : ∃ wb, wb = wr.alloc (.cells (PT.mk o2 n2 x2 d2 q2 A2 c2 ps2).cells.toArray 29) := ⟨_, rfl⟩
      have HGB : Hid (w1.grownBy wb (some g)) := hid (by rw [hwb]; exact HG.out.trans (World.grownBy_alloc wr _ _))
      have HIB := hid (HK.out wr wb _ HIN.out (by rw [hwb]; exact below_pr wr _))
      have HCA := hid (HIH.out _ HME.out wb _ HIB.out (HPI.out _ HME.out _ (HPB.out _ HGB.out)) (by
        have e1 := HSE.out
        have e2 := sum_split HX.out
        have e4 : ((ps.take j).flatMap PT.ids).length = ((ps.take j).map PT.size).sum := by rw [List.length_flatMap]; rfl
        rw [List.length_append, List.length_cons, e4]
        omega))
      rw [show (L ++ (d, q) :: (ps.take j).flatMap PT.ids) ++ (PT.mk o2 n2 x2 d2 q2 A2 c2 ps2).ids = L ++ (d, q) :: (ps.take (j + 1)).flatMap PT.ids by rw [take_snoc_of HX.out, List.flatMap_append]; simp] at HCA
      unfold PT.cells at HCA hwb
      simp only at HCA hwb
      go_wp2_with fail
      rw [← hwb]
      refine HCA.out.mono ?_
      rintro er w3 ⟨rfl, hi3, hg3⟩
      have HI3 := hid hi3
      have HG3 := hid (HGB.out.trans hg3)
      clear hi3 hg3 HCA hwb a0 a1 a2 a3 a4 a5
      go_wp2_with fail
      go_roundw
      case rel => exact ⟨j + 1, by omega, by go_num, HI3, HG3⟩
      case measure => simp [intOf]; omega
    · obtain rfl : j = np := by omega
      have HIE : Hid (Inv wr (L ++ (d, q) :: ps.flatMap PT.ids)) := hid (by have := HIN.out; rwa [List.take_of_length_le (by rw [HNP.out]; exact Nat.le_refl _)] at this)
      go_wp2_with fail
      go_ret
      exact ⟨rfl, HIE.out, HGQ.out.trans HG.out⟩
/-- The checker of Size. -/
def NAt (w : World) (gk : Nat) (L : List (Int × Int)) : Prop := w.heap[gk]? = some (.cells #[.map none, .map none, .int .i64 (L.length : Int)] 41 (0, 0))
theorem NAt.lt {w : World} {gk : Nat} {L : List (Int × Int)} (h : NAt w gk L) : gk < w.heap.size := (Array.getElem?_eq_some_iff.1 h).1
theorem NAt.kept {w w' : World} {gk : Nat} {L : List (Int × Int)} (h : NAt w gk L) (hb : Below w.heap.size w w') : NAt w' gk L := (hb.block gk h.lt).trans h
theorem NAt.cell {w : World} {gk : Nat} {L : List (Int × Int)} (h : NAt w gk L) : w.cell? ⟨gk, 2, none⟩ = some (.int .i64 (L.length : Int)) := by rw [cell_of_row w gk 2 _ _ (0, 0) h]; rfl
end Go.Proofs.YtfbapbpggicfbaaGreatDoor.Sh
/-
  The program's count and Size, by contract.
-/
namespace Go.Proofs.YtfbapbpggicfbaaGreatDoor.Sh
open Go Go.RowKit

set_option linter.unusedVariables false
set_option linter.unusedSimpArgs false

set_option maxHeartbeats 4000000 in
theorem count_any (gk : Nat) (p : PT) (w : World) (L : List (Int × Int)) (hi : NAt w gk L) (hs : L.length ≤ 100000) :
    Calls Tryz.prog 34 #[.pointer (some ⟨gk, 0, none⟩), .agg p.cells.toArray] w fun e w' => e = .returned (.bool true) ∧ NAt w' gk (L ++ [(p.d, p.q)]) ∧ w.grownBy w' (some gk) := by
  obtain ⟨o, n, x, d, q, A, c, ps⟩ := p
  obtain ⟨w1, hw1⟩ : ∃ w1, w1 = w.alloc (.cells (PT.mk o n x d q A c ps).cells.toArray 29) := ⟨_, rfl⟩
  have HQ1 : Hid (Below w.heap.size w w1) := hid (by rw [hw1]; exact below_pr w _)
  have HG1 : Hid (w.grownBy w1 (some gk)) := hid (by rw [hw1]; exact World.grownBy_alloc w _ _)
  have HN1 := hid (hi.kept HQ1.out)
  have kc := HN1.out.cell
  obtain ⟨m, hm⟩ : ∃ m, L.length = m := ⟨_, rfl⟩
  have kf : w1.frozen? ⟨gk, 2, none⟩ = false := by
    have := HN1.out
    unfold NAt at this
    unfold World.frozen?
    rw [this]; rfl
  have HE : Hid (NAt (w1.setCell ⟨gk, 2, none⟩ (.int .i64 ((m : Int) + 1))) gk (L ++ [((PT.mk o n x d q A c ps).d, (PT.mk o n x d q A c ps).q)]) ∧ w1.grownBy (w1.setCell ⟨gk, 2, none⟩ (.int .i64 ((m : Int) + 1))) (some gk)) := hid (by
    refine ⟨?_, ⟨rfl, rfl, rfl, by show w1.heap.size ≤ (w1.heap.modify gk _).size; rw [Array.size_modify]; exact Nat.le_refl _, fun k _ hk => Below.heap_setCell _ _ _ k (fun e => hk (by rw [e]))⟩⟩
    have h := HN1.out
    obtain ⟨hlt, hk⟩ := Array.getElem?_eq_some_iff.1 h
    show (w1.heap.modify gk _)[gk]? = _
    rw [Array.getElem?_eq_getElem (by rw [Array.size_modify]; exact hlt), Array.getElem_modify_self, hk, List.length_append, hm]
    rfl)
  rw [hm] at kc hs
  unfold PT.cells at hw1 ⊢
  simp only at hw1 HE ⊢
  clear hi hm
  subst hw1
  have hm0 : (0 : Int) ≤ (m : Int) := Int.natCast_nonneg _
  go_enter Tryz.func34, Tryz.ntmps34
  go_wp2_with fail
  go_ret
  exact ⟨rfl, HE.out.1, HG1.out.trans HE.out.2⟩
set_option maxHeartbeats 4000000 in
set_option maxRecDepth 100000 in
theorem size_any (p : PT) (w : World) (hs : p.size ≤ 100000) (hp : PIn w w.heap.size p) :
    Calls Tryz.prog 15 #[.agg p.cells.toArray] w fun e w' => e = .returned (.int .i64 (p.size : Int)) ∧ Below w.heap.size w w' := by
  have hmf : ∀ (fn : Fn) (first cap : Array Value) (w : World), (Instr.makeFunc fn first cap).run Tryz.prog w = .ok (.func fn first cap) w := fun _ _ _ _ => rfl
  obtain ⟨o, n, x, d, q, A, c, ps⟩ := p
  obtain ⟨g0, hg0⟩ : ∃ g, w.heap.size + 1 = g := ⟨_, rfl⟩
  obtain ⟨w1, hw1⟩ : ∃ w1, w1 = (w.alloc (.cells (PT.mk o n x d q A c ps).cells.toArray 29)).alloc (.cells #[.map none, .map none, .int .i64 0] 41) := ⟨_, rfl⟩
  have HQ1 : Hid (Below w.heap.size w w1) := hid (by rw [hw1]; exact ((Below.refl _ w).alloc (Nat.le_refl _) _).alloc (by rw [World.size_alloc]; exact Nat.le_succ _) _)
  have HNA : Hid (NAt w1 g0 []) := hid (by
    rw [hw1]
    have := heap_alloc_new (w.alloc (.cells (PT.mk o n x d q A c ps).cells.toArray 29)) (.cells #[.map none, .map none, .int .i64 0] 41)
    rw [World.size_alloc, hg0] at this
    exact this)
  have HCA := hid (visitN_any (.pointer (some ⟨g0, 0, none⟩)) g0 w.heap.size (fun W L => NAt W g0 L) (fun p W L h _ _ hL => count_any g0 p W L h hL) (fun _ _ _ h hb => h.kept hb) (fun _ _ h => h.lt) (by omega) (.mk o n x d q A c ps) w1 [] HNA.out (hp.into HQ1.out) (by simpa using hs))
  have HSZ : Hid ((PT.mk o n x d q A c ps).ids.length = (PT.mk o n x d q A c ps).size) := hid rfl
  obtain ⟨S, hS⟩ : ∃ S, (PT.mk o n x d q A c ps).size = S := ⟨_, rfl⟩
  rw [hS] at HSZ hs ⊢
  have HG0 := hid hg0
  unfold PT.cells at hw1 HCA ⊢
  simp only at hw1 HCA ⊢
  clear hp hS
  go_enter Tryz.func15, Tryz.ntmps15
  go_wp2_with fail
  rw [← hw1]
  clear hw1 hg0
  refine HCA.out.mono ?_
  rintro er w2 ⟨rfl, hi2, hg2⟩
  have kc := hi2.cell
  rw [List.nil_append, HSZ.out] at kc
  have HB2 : Hid (Below w.heap.size w w2) := hid (HQ1.out.grown hg2 HQ1.out.size (fun k e => by injection e with e; have := HG0.out; omega))
  clear hi2 hg2 HCA
  go_wp2_with fail
  go_ret
  exact ⟨rfl, HB2.out⟩
end Go.Proofs.YtfbapbpggicfbaaGreatDoor.Sh
/-
  The program's collect, by contract: a map of IDs.
-/
namespace Go.Proofs.YtfbapbpggicfbaaGreatDoor.Sh
open Go Go.RowKit

set_option linter.unusedVariables false
set_option linter.unusedSimpArgs false
open Go.Maps (Keyed)

/-- The map of IDs, at block b. -/
def IMap (w : World) (b : Nat) (L : List (Int × Int)) : Prop := ∃ D : DataW Unit, w.ownsMap Tryz.prog 26 unitElem b L.length D ∧ (∀ i, okI i → Maps.has D (ki i) = decide (i ∈ L)) ∧ (∀ z, Maps.has D z = true → ∃ i ∈ L, okI i ∧ z = ki i)
theorem IMap.new (w : World) : IMap (w.alloc (.map #[] 0)) w.heap.size [] := ⟨_, World.ownsMap_made w _ _ _, fun i _ => by simp [Maps.has], fun z h => by simp [Maps.has] at h⟩
theorem IMap.at' {w w' : World} {b : Nat} {L : List (Int × Int)} (h : IMap w b L) (hb : w'.heap[b]? = w.heap[b]?) : IMap w' b L := by
  obtain ⟨D, ⟨es, clock, h1, r⟩, h2⟩ := h
  exact ⟨D, ⟨es, clock, hb.trans h1, r⟩, h2⟩
theorem IMap.lt {w : World} {b : Nat} {L : List (Int × Int)} (h : IMap w b L) : b < w.heap.size := by obtain ⟨D, h1, _⟩ := h; exact h1.lt
theorem IMap.kept {w w' : World} {b : Nat} {L : List (Int × Int)} (h : IMap w b L) (hb : Below w.heap.size w w') : IMap w' b L := h.at' (hb.block b h.lt)
theorem IMap.add {w : World} {b : Nat} {L : List (Int × Int)} (h : IMap w b L) {i : Int × Int} (hi : okI i) (hl : L.length < 1000000) :
    ∃ w', (Instr.mapUpdate 39 (.map (some b)) (.agg #[.int .i64 i.1, .int .i64 i.2]) (.agg #[])).run Tryz.prog w = .ok () w' ∧ IMap w' b (L ++ [i]) ∧ w.grownBy w' (some b) := by
  obtain ⟨D, h1, h2, h3⟩ := h
  obtain ⟨w', hrun, ho, hg⟩ := h1.update lawI Tryz.underlying39 (by unfold maxLen; omega) (keyI hi) (unitElem_mk (H := Unit))
  refine ⟨w', hrun, ⟨_, by rw [List.length_append, List.length_singleton]; exact ho, fun q hq => ?_, fun z hz => ?_⟩, hg⟩
  · by_cases e : q = i
    · subst e
      rw [Maps.has_put_same h1.isMap (lawI.key (keyI hi))]
      simp
    · rw [Maps.has_put_other (fun e' => e (ki_inj hq hi e')), h2 q hq]
      simp [e]
  · by_cases e : z = ki i
    · exact ⟨i, by simp, hi, e⟩
    · rw [Maps.has_put_other e] at hz
      obtain ⟨q, hq, e'⟩ := h3 z hz
      exact ⟨q, by simp [hq], e'⟩
/-- The checker of Support: its map of IDs at block b. -/
def IAt (w : World) (gk b : Nat) : Prop := w.heap[gk]? = some (.cells #[.map none, .map (some b), .int .i64 0] 41 (0, 0))
theorem IAt.lt {w : World} {gk b : Nat} (h : IAt w gk b) : gk < w.heap.size := (Array.getElem?_eq_some_iff.1 h).1
theorem IAt.kept {w w' : World} {gk b : Nat} (h : IAt w gk b) (hb : Below w.heap.size w w') : IAt w' gk b := (hb.block gk h.lt).trans h
theorem IAt.cell {w : World} {gk b : Nat} (h : IAt w gk b) : w.cell? ⟨gk, 1, none⟩ = some (.map (some b)) := by rw [cell_of_row w gk 1 _ _ (0, 0) h]; rfl
set_option maxHeartbeats 4000000 in
set_option maxRecDepth 100000 in
theorem collect_any (gk b : Nat) (hne : gk ≠ b) (p : PT) (w : World) (L : List (Int × Int)) (hi : IAt w gk b ∧ IMap w b L) (hs : L.length ≤ 100000) (hok : okI (p.d, p.q)) :
    Calls Tryz.prog 30 #[.pointer (some ⟨gk, 0, none⟩), .agg p.cells.toArray] w fun e w' => e = .returned (.bool true) ∧ (IAt w' gk b ∧ IMap w' b (L ++ [(p.d, p.q)])) ∧ w.grownBy w' (some b) := by
  obtain ⟨o, n, x, d, q, A, c, ps⟩ := p
  obtain ⟨w1, hw1⟩ : ∃ w1, w1 = w.alloc (.cells (PT.mk o n x d q A c ps).cells.toArray 29) := ⟨_, rfl⟩
  have HQ1 : Hid (Below w.heap.size w w1) := hid (by rw [hw1]; exact below_pr w _)
  have HG1 : Hid (w.grownBy w1 (some b)) := hid (by rw [hw1]; exact World.grownBy_alloc w _ _)
  have HI1 := hid (hi.1.kept HQ1.out)
  have HM1 := hid (hi.2.kept HQ1.out)
  have HPA : Hid (PrAt w1 w.heap.size (.mk o n x d q A c ps)) := hid (by rw [hw1]; exact PrAt.new w _)
  obtain ⟨k0, k1, k2, k3, k4, k5⟩ := HPA.out.all
  have kc := HI1.out.cell
  obtain ⟨w3, hrun, hm3, hg3⟩ := (show IMap w1.drew b L from HM1.out.kept (Below.refl _ _).drew).add (i := (d, q)) hok (by omega)
  have HM3 := hid hm3
  have HG3 := hid hg3
  have HGD : Hid (w1.grownBy w1.drew (some b)) := hid ⟨rfl, rfl, rfl, Nat.le_refl _, fun _ _ _ => rfl⟩
  have HI3 : Hid (IAt w3 gk b) := hid ((hg3.block gk HI1.out.lt (fun e => hne (by injection e))).trans (show IAt w1.drew gk b from HI1.out.kept (Below.refl _ _).drew))
  unfold PT.cells at hw1 ⊢
  simp only [PT.d, PT.q] at hw1 hrun HM3 ⊢
  clear hi hm3 hg3 hok hs
  subst hw1
  go_enter Tryz.func30, Tryz.ntmps30
  go_wp2_with fail
  go_region_law fail
  all_goals
    go_wp2_with fail
    go_ret
    exact ⟨rfl, ⟨HI3.out, HM3.out⟩, HG1.out.trans (HGD.out.trans HG3.out)⟩
end Go.Proofs.YtfbapbpggicfbaaGreatDoor.Sh
