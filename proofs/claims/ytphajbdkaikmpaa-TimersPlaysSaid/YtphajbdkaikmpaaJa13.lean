/-
  The document's queue of timers: Pop, by contract.
-/
import Derived.Test.YtphajbdkaikmpaaJa6
import Derived.Test.YtphajbdkaikmpaaJa11
import Derived.Test.YtphajbdkaikmpaaJa12
import Derived.Deep.CutRange
set_option linter.unusedVariables false
set_option linter.unusedSimpArgs false
namespace Go.Proofs.Ytphajbdkaikmpaa.Sh
open Go Go.RowKit

set_option linter.unusedSimpArgs false
set_option linter.unusedVariables false
theorem ElsQ.tailT {w : World} {Q : Nat → Prop} {A : Option Addr} {l : List Tm} {lo cap : Nat} (h : ElsQ encT w Q A l) (h3 : l.length ≤ cap) : ElsQ encT w Q (if cap = lo then A else A.map (·.add (lo * 2))) (l.drop lo) := by
  intro hn
  simp only [List.length_drop] at hn
  obtain ⟨ad, rfl, hq, hb, hc⟩ := h (by omega)
  rw [if_neg (by omega)]
  refine ⟨ad.add (lo * 2), rfl, by rw [block_add]; exact hq, by rw [block_add]; exact hb, fun j x hx => ?_⟩
  rw [add_add]
  refine hc _ x ?_
  rw [ev_drop, List.getElem?_drop] at hx
  exact hx
theorem info_U : (Try.prog.info? 53).map (·.size) = some 2 := by kernel_rfl
set_option maxHeartbeats 2000000 in
theorem refPop_any {w : World} {P : Nat → Prop} {q : Nat} {L : List Tm} (e : QueR w P q L) (hL : L.length ≤ 100) (now : Int) : Calls Try.prog 18 #[.pointer (some ⟨q, 0, none⟩), .int .i64 now] w fun er w' => er = .returned (.tuple #[.agg #[.int .i64 (popT now L).1.1.1, .int .i64 (popT now L).1.1.2], .bool (popT now L).1.2]) ∧ QueR w' P q (popT now L).2 ∧ Grew w w' P := by
  obtain ⟨w1, hw1⟩ : ∃ x, x = w.alloc (.cells #[.int .i64 0, .int .i64 0] 53) := ⟨_, rfl⟩
  have hb1 : Below w.heap.size w w1 := by rw [hw1]; exact (Below.refl _ _).alloc (Nat.le_refl _) _
  have hr1 : w1.heap[w.heap.size]? = some (.cells #[.int .i64 0, .int .i64 0] 53 (0, 0)) := by rw [hw1]; exact heap_alloc_new w _
  have hs1 : w1.heap.size = w.heap.size + 1 := by rw [hw1]; simp
  have e1 := e.below hb1
  have hd := e.dom
  have HZERO : Hid (∀ L', QueR w1 P q L' → QueR ((w1.setCell ⟨w.heap.size, 0, none⟩ (.int .i64 0)).setCell ⟨w.heap.size, 1, none⟩ (.int .i64 0)) P q L' ∧ Grew w ((w1.setCell ⟨w.heap.size, 0, none⟩ (.int .i64 0)).setCell ⟨w.heap.size, 1, none⟩ (.int .i64 0)) P) := hid (fun L' h => by
    have hgp := gro_pair w1 w.heap.size (.int .i64 0) (.int .i64 0)
    exact ⟨h.grew hgp (fun z hz hp => by have := hd z hp; omega), (Grew.of_below hb1).over hgp (fun z hz => by omega)⟩)
  have k0 : w1.cell? ⟨w.heap.size, 0, none⟩ = some (.int .i64 0) := by rw [cell_of_row _ _ 0 _ _ (0, 0) hr1]; rfl
  have k1 : w1.cell? ⟨w.heap.size, 1, none⟩ = some (.int .i64 0) := by rw [cell_of_row _ _ 1 _ _ (0, 0) hr1]; rfl
  have g0 : w1.frozen? ⟨w.heap.size, 0, none⟩ = false := frozen_of_row w1 _ 0 _ _ hr1
  have g1 : w1.frozen? ⟨w.heap.size, 1, none⟩ = false := frozen_of_row w1 _ 1 _ _ hr1
  have HW1 := hid hw1
  have HR1 := hid hr1
  have HE1 := hid e1
  cases L with
  | nil =>
    have HPT : Hid (popT now [] = (((0, 0), false), [])) := hid rfl
    obtain ⟨⟨A, c, p0, hr, a1, a2, a3⟩, -⟩ := e1
    have c0 : w1.cell? ⟨q, 0, none⟩ = some (.slice A 0 c) := by rw [cell_of_row _ _ 0 _ _ (0, 0) hr]; rfl
    clear e hb1 hr1 hs1 hw1 hd hr a1 a3
    go_enter Try.func18, Try.ntmps18
    go_upto_region 1 with fail
    rw [← HW1.out]
    go_wp2_with fail
    exact bodyPost_ret (resCT (h := Try.results18) _ _ w.heap.size 0 [.int .i64 0, .int .i64 0] _ rfl (range_row (pairS HR1.out)) Try.underlying53 rfl info_U) rfl ⟨by rw [HPT.out]; rfl, by rw [HPT.out]; exact (HZERO.out _ HE1.out).1, (HZERO.out _ HE1.out).2⟩
  | cons x t =>
    obtain ⟨d, u⟩ := x
    obtain ⟨⟨A, c, p0, hr, a1, a2, a3⟩, -⟩ := e1
    obtain ⟨ad, aj, rfl, -, ea, -, b0, b1⟩ := a3.els.get (j := 0) (c := (d, u)) rfl
    have d0 := b0 _ rfl
    have d1 := b1 1 _ (by decide) rfl
    have ea : ad.add (0 * 2) = aj := ea
    rw [Nat.zero_mul, add_zero] at ea
    subst ea
    have ea := add_zero ad
    have c0 : w1.cell? ⟨q, 0, none⟩ = some (.slice (some ad) (t.length + 1) c) := by rw [cell_of_row _ _ 0 _ _ (0, 0) hr]; rfl
    have hz : (((t.length + 1 : Nat) : Int) == 0) = false := beq_eq_false_iff_ne.2 (by omega)
    simp only at d0 d1
    by_cases hdn : now < d
    · have HPT : Hid (popT now ((d, u) :: t) = (((0, 0), false), (d, u) :: t)) := hid (if_pos hdn)
      obtain ⟨n, hn1⟩ : ∃ n, t.length + 1 = n := ⟨_, rfl⟩
      rw [hn1] at c0 hz
      have hn0 : (0 : Int) < (n : Int) := by omega
      clear e hb1 hr1 hs1 hw1 hd hr a1 a3 b0 b1 hn1
      go_enter Try.func18, Try.ntmps18
      go_upto_region 1 with fail
      rw [← HW1.out]
      go_wp2_with fail
      exact bodyPost_ret (resCT (h := Try.results18) _ _ w.heap.size 0 [.int .i64 0, .int .i64 0] _ rfl (range_row (pairS HR1.out)) Try.underlying53 rfl info_U) rfl ⟨by rw [HPT.out]; rfl, by rw [HPT.out]; exact (HZERO.out _ HE1.out).1, (HZERO.out _ HE1.out).2⟩
    · have HPT : Hid (popT now ((d, u) :: t) = (((d, u), true), t)) := hid (if_neg hdn)
      -- the timer's own block, then the list cut
      obtain ⟨w2, hw2⟩ : ∃ x, x = w1.alloc (.cells #[.int .i64 d, .int .i64 u] 53) := ⟨_, rfl⟩
      have hb2 : Below w1.heap.size w1 w2 := by rw [hw2]; exact (Below.refl _ _).alloc (Nat.le_refl _) _
      have hr2 : w2.heap[w1.heap.size]? = some (.cells #[.int .i64 d, .int .i64 u] 53 (0, 0)) := by rw [hw2]; exact heap_alloc_new w1 _
      have HW2 := hid hw2
      have hq := hd q p0
      have hrq2 := (hb2.block q (by omega)).trans hr
      have cq2 : w2.cell? ⟨q, 0, none⟩ = some (.slice (some ad) (t.length + 1) c) := by rw [cell_of_row _ _ 0 _ _ (0, 0) hrq2]; rfl
      have fq2 : w2.frozen? ⟨q, 0, none⟩ = false := frozen_of_row w2 _ 0 _ _ hrq2
      -- what is stored
      obtain ⟨A', hA'⟩ : ∃ A', A' = (if c = 1 then some ad else some (⟨ad.block, ad.off + 2, none⟩ : Addr)) := ⟨_, rfl⟩
      have ht : ElsQ encT w2 (fun x => P x ∧ x ≠ q) A' t := by
        have h1 := (a3.below hb2).tailT (lo := 1) a1
        have h2 : (if c = 1 then some ad else (some ad).map (·.add (1 * 2))) = A' := by rw [hA', Option.map_some, Nat.one_mul, add_pos _ 2 (by omega)]
        rw [h2] at h1
        exact h1
      obtain ⟨w3, hw3⟩ : ∃ x, x = w2.setCell ⟨q, 0, none⟩ (.slice A' t.length (c - 1)) := ⟨_, rfl⟩
      have hgr := gro_set1 w2 q 0 (.slice A' t.length (c - 1))
      rw [← hw3] at hgr
      have hs2 : w2.heap.size = w1.heap.size + 1 := by rw [hw2]; simp
      have hs3 : w3.heap.size = w2.heap.size := by rw [hw3]; simp
      have ho : ∀ x, x ≠ q → w3.heap[x]? = w2.heap[x]? := fun x hx => by rw [hw3]; exact heap_setCell_other w2 ⟨q, 0, none⟩ x _ hx
      have q3 : QueR w3 P q t := ⟨⟨A', c - 1, p0, by rw [hw3, heap_setCell_same w2 q 0 _ _ _ hrq2]; rfl, (by have h : t.length + 1 ≤ c := a1; omega), by omega, ht.kept (fun x hx hl => ho x hx.2) (by rw [hs3]; exact Nat.le_refl _)⟩, fun x hx => by have := hd x hx; omega⟩
      have hr3 := (ho w1.heap.size (by omega)).trans hr2
      have hz3 := (ho w.heap.size (by omega)).trans ((hb2.block _ (by omega)).trans hr1)
      have l0 : w3.cell? ⟨w1.heap.size, 0, none⟩ = some (.int .i64 d) := by rw [cell_of_row _ _ 0 _ _ (0, 0) hr3]; rfl
      have l1 : w3.cell? ⟨w1.heap.size, 1, none⟩ = some (.int .i64 u) := by rw [cell_of_row _ _ 1 _ _ (0, 0) hr3]; rfl
      have m0 : w3.cell? ⟨w.heap.size, 0, none⟩ = some (.int .i64 0) := by rw [cell_of_row _ _ 0 _ _ (0, 0) hz3]; rfl
      have m1 : w3.cell? ⟨w.heap.size, 1, none⟩ = some (.int .i64 0) := by rw [cell_of_row _ _ 1 _ _ (0, 0) hz3]; rfl
      have n0 : w3.frozen? ⟨w.heap.size, 0, none⟩ = false := frozen_of_row w3 _ 0 _ _ hz3
      have n1 : w3.frozen? ⟨w.heap.size, 1, none⟩ = false := frozen_of_row w3 _ 1 _ _ hz3
      have hgp := gro_pair w3 w.heap.size (.int .i64 d) (.int .i64 u)
      have HFIN : Hid (QueR ((w3.setCell ⟨w.heap.size, 0, none⟩ (.int .i64 d)).setCell ⟨w.heap.size, 1, none⟩ (.int .i64 u)) P q t ∧ Grew w ((w3.setCell ⟨w.heap.size, 0, none⟩ (.int .i64 d)).setCell ⟨w.heap.size, 1, none⟩ (.int .i64 u)) P) :=
        hid ⟨q3.grew hgp (fun z hz hp => by have := hd z hp; omega), (((Grew.of_below hb1).trans (Grew.of_below hb2)).trans (Grew.of_gro hgr p0)).over hgp (fun z hz => by omega)⟩
      have HZ3 := hid hz3
      obtain ⟨n, hn1⟩ : ∃ n, t.length = n := ⟨_, rfl⟩
      rw [hn1] at c0 hz cq2 hw3
      have hn0 : (0 : Int) < ((n + 1 : Nat) : Int) := by omega
      have hnc : n + 1 ≤ c := by rw [← hn1]; exact a1
      rw [hA'] at hw3
      have HW3 := hid hw3
      clear e hb1 hr1 hw1 hr a1 b0 b1 hA' ht hgr hs2 hs3 ho q3 hr3 hz3 hgp hb2 hr2 hw3 hrq2 hd hs1
      go_enter Try.func18, Try.ntmps18
      go_upto_region 1 with fail
      rw [← HW1.out]
      go_upto_region 4 with fail
      rw [← HW2.out]
      clear c0 hw2
      go_upto_region 5 with fail
      rw [← HW3.out]
      go_wp2_with fail
      all_goals exact bodyPost_ret (resCT (h := Try.results18) _ _ w.heap.size 0 [.int .i64 d, .int .i64 u] _ rfl (range_row (pairS HZ3.out)) Try.underlying53 rfl info_U) rfl ⟨by rw [HPT.out]; rfl, by rw [HPT.out]; exact HFIN.out.1, HFIN.out.2⟩
end Go.Proofs.Ytphajbdkaikmpaa.Sh
/-
  A deed, of both queues.
-/
namespace Go.Proofs.Ytphajbdkaikmpaa.Sh
open Go Go.RowKit

set_option linter.unusedSimpArgs false
set_option linter.unusedVariables false
/-- What a deed leaves. -/
def stepT (op kd due : Int) (L : List Tm) : List Tm := if op = 1 then noT kd L else if op = 2 then (popT due L).2 else (setT kd due L).2
/-- Both queues have L; their blocks are apart, from B on. -/
structure Bth (w : World) (B : Nat) (P R : Nat → Prop) (q r k : Nat) (L : List Tm) : Prop where
  p : QueP w P q k L
  r : QueR w R r L
  dis : ∀ x, P x → ¬ R x
  lowP : ∀ x, P x → B ≤ x
  lowR : ∀ x, R x → B ≤ x
theorem Bth.len {w : World} {B : Nat} {P R : Nat → Prop} {q r k : Nat} {L : List Tm} (h : Bth w B P R q r k L) : L.length ≤ 64 := by
  obtain ⟨_, _, _, _, _, _, tq, _⟩ := h.p
  exact tq.max
theorem Bth.below {w w' : World} {B : Nat} {P R : Nat → Prop} {q r k : Nat} {L : List Tm} (h : Bth w B P R q r k L) (hb : Below w.heap.size w w') : Bth w' B P R q r k L := ⟨h.p.below hb, h.r.below hb, h.dis, h.lowP, h.lowR⟩
theorem Bth.mono {w : World} {B : Nat} {P R : Nat → Prop} {q r k k' : Nat} {L : List Tm} (h : Bth w B P R q r k L) (hk : k ≤ k') : Bth w B P R q r k' L := ⟨h.p.mono hk, h.r, h.dis, h.lowP, h.lowR⟩
/-- One behind the other. -/
theorem Bth.next {w w2 w3 : World} {B : Nat} {P R : Nat → Prop} {q r k k2 : Nat} {L L2 : List Tm} (h : Bth w B P R q r k L) (hB : B ≤ w.heap.size) (hp : QueP w2 (plusT P w.heap.size w2.heap.size) q k2 L2) (g2 : Grew w w2 P) (hr : QueR w3 (plusT R w2.heap.size w3.heap.size) r L2) (g3 : Grew w2 w3 R) :
    Bth w3 B (plusT P w.heap.size w2.heap.size) (plusT R w2.heap.size w3.heap.size) q r k2 L2 ∧ Below B w w3 := by
  have dP := h.p.dom
  have dR := h.r.dom
  have hs := g2.size
  have hs3 := g3.size
  refine ⟨⟨hp.grew g3 (fun x hx hp => ?_), hr, fun x h1 h2 => ?_, fun x h1 => ?_, fun x h1 => ?_⟩, ((g2.below hB h.lowP).trans (g3.below (by omega) h.lowR))⟩
  · have h1 := dR x hx
    rcases hp with h2 | h2
    · exact h.dis x h2 hx
    · omega
  · rcases h1 with h1 | h1
    · have := dP x h1
      rcases h2 with h2 | h2
      · exact h.dis x h1 h2
      · omega
    · rcases h2 with h2 | h2
      · have := dR x h2
        omega
      · omega
  · rcases h1 with h1 | h1
    · exact h.lowP x h1
    · omega
  · rcases h1 with h1 | h1
    · exact h.lowR x h1
    · omega
set_option maxHeartbeats 8000000 in
theorem doesT_any {w : World} {B : Nat} {P R : Nat → Prop} {q r k : Nat} {L : List Tm} (h : Bth w B P R q r k L) (hB : B ≤ w.heap.size) (op kd due : Int) (hkd : In64 kd) (hk : k < 980000) :
    Calls Try.prog 8 #[.pointer (some ⟨q, 0, none⟩), .pointer (some ⟨r, 0, none⟩), .agg #[.int .i64 op, .int .i64 kd, .int .i64 due]] w fun er w' => er = .returned (.bool true) ∧ ∃ P' R', Bth w' B P' R' q r (k + 500) (stepT op kd due L) ∧ Below B w w' := by
  obtain ⟨w1, hw1⟩ : ∃ x, x = w.alloc (.cells #[.int .i64 op, .int .i64 kd, .int .i64 due] 31) := ⟨_, rfl⟩
  have hb1 : Below w.heap.size w w1 := by rw [hw1]; exact (Below.refl _ _).alloc (Nat.le_refl _) _
  have hr1 : w1.heap[w.heap.size]? = some (.cells #[.int .i64 op, .int .i64 kd, .int .i64 due] 31 (0, 0)) := by rw [hw1]; exact heap_alloc_new w _
  have h1 := h.below hb1
  have hB1 : B ≤ w1.heap.size := Nat.le_trans hB hb1.size
  have HS1 : Hid (w.heap.size < w1.heap.size) := hid (Array.getElem?_eq_some_iff.1 hr1).1
  have HWB := hid (hb1.mono hB)
  have HW1 := hid hw1
  have hlen := h.len
  -- the deed's own cells stand in every world that turns only the queues' blocks
  have HK : Hid (∀ W, Below w1.heap.size w1 W → W.cell? ⟨w.heap.size, 0, none⟩ = some (.int .i64 op) ∧ W.cell? ⟨w.heap.size, 1, none⟩ = some (.int .i64 kd) ∧ W.cell? ⟨w.heap.size, 2, none⟩ = some (.int .i64 due)) := hid (fun W hW => by
    have := (hW.block _ HS1.out).trans hr1
    exact ⟨by rw [cell_of_row _ _ 0 _ _ (0, 0) this]; rfl, by rw [cell_of_row _ _ 1 _ _ (0, 0) this]; rfl, by rw [cell_of_row _ _ 2 _ _ (0, 0) this]; rfl⟩)
  have HNP : Hid (¬ (P w.heap.size ∨ R w.heap.size)) := hid (fun hp => hp.elim (fun hp => by have := h.p.dom _ hp; omega) (fun hp => by have := h.r.dom _ hp; omega))
  have HKG : Hid (∀ W, Grew w1 W (fun x => P x ∨ R x) → W.cell? ⟨w.heap.size, 0, none⟩ = some (.int .i64 op) ∧ W.cell? ⟨w.heap.size, 1, none⟩ = some (.int .i64 kd) ∧ W.cell? ⟨w.heap.size, 2, none⟩ = some (.int .i64 due)) := hid (fun W hW => by
    have := (hW.block _ HS1.out HNP.out).trans hr1
    exact ⟨by rw [cell_of_row _ _ 0 _ _ (0, 0) this]; rfl, by rw [cell_of_row _ _ 1 _ _ (0, 0) this]; rfl, by rw [cell_of_row _ _ 2 _ _ (0, 0) this]; rfl⟩)
  obtain ⟨x0, x1, x2⟩ := HK.out w1 (Below.refl _ _)
  have HB0 := hid (below_drewT w1)
  have HG0 : Hid (Grew w1 w1.drew (fun x => P x ∨ R x)) := hid (Grew.of_below HB0.out)
  by_cases hop1 : op = 1
  · subst hop1
    have HSTEP : Hid (stepT 1 kd due L = noT kd L) := hid (if_pos rfl)
    have hD := h1.below HB0.out
    have HD := hid hD
    have HP := hid (stopQ_any hD.p hkd hk)
    have HR := hid (fun W (hg : Grew w1.drew W P) => refStop_any (hD.r.grew hg (fun x hx hr => hD.dis x hx hr)) (by omega) kd)
    have HBW : Hid (B ≤ w1.drew.heap.size) := hid hB1
    obtain ⟨b, hb⟩ : ∃ b, decide ((noT kd L).length < L.length) = b := ⟨_, rfl⟩
    rw [hb] at HP HR
    have hbb : (b == b) = true := by simp
    clear h hb1 hr1 h1 hw1 hb hD
    go_enter Try.func8, Try.ntmps8
    go_upto_region 1 with fail
    rw [← HW1.out]
    go_upto_region 2 with fail
    go_region_held3 (fun W => W.cell? ⟨w.heap.size, 0, none⟩ = some (.int .i64 1) ∧ W.cell? ⟨w.heap.size, 1, none⟩ = some (.int .i64 kd) ∧ W.cell? ⟨w.heap.size, 2, none⟩ = some (.int .i64 due))
      (first | exact HKG.out _ HG0.out | exact HKG.out _ HG8.out | exact HKG.out _ HG11.out)
      ((first
        | (go_at_call 16; ((refine HP.out.mono ?_); rintro er w8 ⟨rfl, h8, k8⟩; have HP8 := hid h8; have HE8 := hid k8; have HG8 : Hid (Grew w1 w8 (fun x => P x ∨ R x)) := hid (HG0.out.trans (k8.mono (fun x _ h => .inl h))); clear h8 k8))
        | (go_at_call 17; ((refine (HR.out _ HE8.out).mono ?_); rintro er w11 ⟨rfl, h8, k8⟩; have HR11 := hid h8; have HE11 := hid k8; have HG11 : Hid (Grew w1 w11 (fun x => P x ∨ R x)) := hid (HG8.out.trans (k8.mono (fun x _ h => .inr h))); clear h8 k8))))
    all_goals
      go_wp2_with fail
      go_ret
      have hfin := HD.out.next HBW.out (HP8.out.plus) HE8.out HR11.out HE11.out
      exact ⟨rfl, _, _, by rw [HSTEP.out]; exact hfin.1, HWB.out.drew.trans hfin.2⟩
  by_cases hop2 : op = 2
  · subst hop2
    obtain ⟨⟨⟨⟨a, u⟩, b⟩, L2⟩, hpt⟩ : ∃ x, popT due L = x := ⟨_, rfl⟩
    have HSTEP : Hid (stepT 2 kd due L = L2) := hid (by unfold stepT; rw [if_neg (by omega), if_pos rfl, hpt])
    have HP := popQ_any h1.p due hk
    have HRR : Hid (∀ W, Grew w1 W P → Calls Try.prog 18 #[.pointer (some ⟨r, 0, none⟩), .int .i64 due] W fun er w' => er = .returned (.tuple #[.agg #[.int .i64 a, .int .i64 u], .bool b]) ∧ QueR w' R r L2 ∧ Grew W w' R) := hid (fun W hg => by
      have := refPop_any (h1.r.grew hg (fun x hx hr => h1.dis x hx hr)) (by omega) due
      rw [hpt] at this
      exact this)
    rw [hpt] at HP
    have HP := hid HP
    have HD := hid h1
    have HBW := hid hB1
    have HRD := hid h1.r.dom
    have hba : (a == a) = true := by simp
    have hbu : (u == u) = true := by simp
    have hbb : (b == b) = true := by simp
    clear h hb1 hr1 h1 hw1 hpt
    go_enter Try.func8, Try.ntmps8
    go_upto_region 1 with fail
    rw [← HW1.out]
    go_wp2_with fail
    refine HP.out.mono ?_
    rintro er w2 ⟨rfl, p2, g2⟩
    obtain ⟨w2a, hw2⟩ : ∃ x, x = w2.alloc (.cells #[.int .i64 a, .int .i64 u] 37) := ⟨_, rfl⟩
    have b2 : Below w2.heap.size w2 w2a := by rw [hw2]; exact (Below.refl _ _).alloc (Nat.le_refl _) _
    have r2 : w2a.heap[w2.heap.size]? = some (.cells #[.int .i64 a, .int .i64 u] 37 (0, 0)) := by rw [hw2]; exact heap_alloc_new w2 _
    have g2a := g2.trans (Grew.of_below b2)
    have HW2 := hid hw2
    have HR2 := hid r2
    have HP2 := hid (p2.below b2)
    have HG2 := hid g2a
    have HS2 : Hid (w1.heap.size ≤ w2.heap.size ∧ w2.heap.size < w2a.heap.size) := hid ⟨g2.size, (Array.getElem?_eq_some_iff.1 r2).1⟩
    have HRP := hid (HRR.out _ g2a)
    have y2 : w2a.cell? ⟨w.heap.size, 2, none⟩ = some (.int .i64 due) := (HKG.out _ (g2a.mono (fun x _ h => .inl h))).2.2
    clear p2 g2 b2 r2 g2a hw2
    go_upto_region 5 with fail
    rw [← HW2.out]
    go_wp2_with fail
    refine HRP.out.mono ?_
    rintro er w3 ⟨rfl, r3, g3⟩
    obtain ⟨w3a, hw3⟩ : ∃ x, x = w3.alloc (.cells #[.int .i64 a, .int .i64 u] 53) := ⟨_, rfl⟩
    have b3 : Below w3.heap.size w3 w3a := by rw [hw3]; exact (Below.refl _ _).alloc (Nat.le_refl _) _
    have rr3 : w3a.heap[w3.heap.size]? = some (.cells #[.int .i64 a, .int .i64 u] 53 (0, 0)) := by rw [hw3]; exact heap_alloc_new w3 _
    have rp3 : w3a.heap[w2.heap.size]? = some (.cells #[.int .i64 a, .int .i64 u] 37 (0, 0)) := (b3.block _ (Nat.lt_of_lt_of_le HS2.out.2 g3.size)).trans ((g3.block _ HS2.out.2 (fun hx => by have := HRD.out _ hx; have := HS2.out.1; omega)).trans HR2.out)
    have HFIN := hid (HD.out.next HBW.out HP2.out.plus HG2.out ((r3.below b3).plus) (g3.trans (Grew.of_below b3)))
    have z0 : w3a.cell? ⟨w2.heap.size, 0, none⟩ = some (.int .i64 a) := by rw [cell_of_row _ _ 0 _ _ (0, 0) rp3]; rfl
    have z1 : w3a.cell? ⟨w2.heap.size, 1, none⟩ = some (.int .i64 u) := by rw [cell_of_row _ _ 1 _ _ (0, 0) rp3]; rfl
    have z2 : w3a.cell? ⟨w3.heap.size, 0, none⟩ = some (.int .i64 a) := by rw [cell_of_row _ _ 0 _ _ (0, 0) rr3]; rfl
    have z3 : w3a.cell? ⟨w3.heap.size, 1, none⟩ = some (.int .i64 u) := by rw [cell_of_row _ _ 1 _ _ (0, 0) rr3]; rfl
    have HW3 := hid hw3
    clear r3 g3 b3 rr3 rp3 hw3
    go_upto_region 6 with fail
    rw [← HW3.out]
    go_wp2_with fail
    go_ret
    exact ⟨rfl, _, _, by rw [HSTEP.out]; exact HFIN.out.1, HWB.out.trans HFIN.out.2⟩
  · have ho1 : (op == 1) = false := beq_eq_false_iff_ne.2 hop1
    have ho2 : (op == 2) = false := beq_eq_false_iff_ne.2 hop2
    obtain ⟨⟨E, L2⟩, hst⟩ : ∃ x, setT kd due L = x := ⟨_, rfl⟩
    have HSTEP : Hid (stepT op kd due L = L2) := hid (by unfold stepT; rw [if_neg hop1, if_neg hop2, hst])
    have hD := h1.below HB0.out
    have HD := hid hD
    have HP := setQ_any hD.p hkd due hk
    have HR : Hid (∀ W, Grew w1.drew W P → Calls Try.prog 19 #[.pointer (some ⟨r, 0, none⟩), .int .i64 kd, .int .i64 due] W fun er w' => er = .returned (.int .i64 E) ∧ QueR w' (plusT R W.heap.size w'.heap.size) r L2 ∧ Grew W w' R) := hid (fun W hg => by
      have := refSet_any (hD.r.grew hg (fun x hx hr => hD.dis x hx hr)) (by omega) kd due
      rw [hst] at this
      exact this)
    rw [hst] at HP
    have HP := hid HP
    have HBW : Hid (B ≤ w1.drew.heap.size) := hid hB1
    have hbb : (E == E) = true := by simp
    clear h hb1 hr1 h1 hw1 hst hD hop1 hop2
    go_enter Try.func8, Try.ntmps8
    go_upto_region 1 with fail
    rw [← HW1.out]
    go_upto_region 3 with fail
    go_upto_region 7 with fail
    go_region_held3 (fun W => W.cell? ⟨w.heap.size, 0, none⟩ = some (.int .i64 op) ∧ W.cell? ⟨w.heap.size, 1, none⟩ = some (.int .i64 kd) ∧ W.cell? ⟨w.heap.size, 2, none⟩ = some (.int .i64 due))
      (first | exact HKG.out _ HG0.out | exact HKG.out _ HG8.out | exact HKG.out _ HG11.out)
      ((first
        | (go_at_call 14; ((refine HP.out.mono ?_); rintro er w8 ⟨rfl, h8, k8⟩; have HP8 := hid h8; have HE8 := hid k8; have HG8 : Hid (Grew w1 w8 (fun x => P x ∨ R x)) := hid (HG0.out.trans (k8.mono (fun x _ h => .inl h))); clear h8 k8))
        | (go_at_call 19; ((refine (HR.out _ HE8.out).mono ?_); rintro er w11 ⟨rfl, h8, k8⟩; have HR11 := hid h8; have HE11 := hid k8; have HG11 : Hid (Grew w1 w11 (fun x => P x ∨ R x)) := hid (HG8.out.trans (k8.mono (fun x _ h => .inr h))); clear h8 k8))))
    all_goals
      go_wp2_with fail
      go_ret
      have hfin := HD.out.next HBW.out HP8.out HE8.out HR11.out HE11.out
      exact ⟨rfl, _, _, by rw [HSTEP.out]; exact hfin.1, HWB.out.drew.trans hfin.2⟩
end Go.Proofs.Ytphajbdkaikmpaa.Sh
