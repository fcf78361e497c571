/-
  lives of stage 8.
-/
import Derived.Test.YtoajckhnneagnaaDoorJd43
import Derived.Test.YtoajckhnneagnaaDoorJd23
import Derived.Test.YtoajckhnneagnaaDoorJd16
import Derived.Test.YtoajckhnneagnaaDoorJd42
import Derived.Test.YtoajckhnneagnaaDoorJd17
set_option linter.unusedVariables false
set_option linter.unusedSimpArgs false
namespace Go.Proofs.YtoajckhnneagnaaDoor.Sh
open Go Go.RowKit

set_option linter.unusedSimpArgs false
set_option linter.unusedVariables false
theorem okB8 (l : List UInt8) (h : l.length ≤ 100) : okB ⟨l.toArray⟩ := by
  unfold okB
  rw [← size_list]
  show l.length ≤ _
  unfold maxLen
  omega
set_option maxHeartbeats 8000000 in
set_option maxRecDepth 100000 in
theorem lives8_any (w : World) : Calls Tryd.prog 14 #[] w fun e w' => e = .returned (.bool true) ∧ Below w.heap.size w w' := by
  obtain ⟨g0, hg0⟩ : ∃ g, w.heap.size = g := ⟨_, rfl⟩
  obtain ⟨wA, hwA⟩ : ∃ x, x = w.alloc (.cells #[.string ⟨#[100, 49]⟩, .string ⟨#[97]⟩] 24) := ⟨_, rfl⟩
  have sA : wA.heap.size = g0 + 1 := by rw [hwA, World.size_alloc, hg0]
  obtain ⟨w1, hw1⟩ : ∃ x, x = wA.alloc (.cells (cv ex8).toArray 55) := ⟨_, rfl⟩
  have s1 : w1.heap.size = g0 + 1 + 1 := by rw [hw1, World.size_alloc, sA]
  have HQ1 : Hid (Below w.heap.size w w1) := hid (by rw [hw1, hwA]; exact ((Below.refl _ w).alloc (Nat.le_refl _) _).alloc (by rw [World.size_alloc]; omega) _)
  have HCR : Hid (Crs w1 w1.heap.size (some ⟨g0 + 1, 0, none⟩) ex8) := hid (fun _ => by
    obtain ⟨ad, e, hc⟩ := reads_new wA (cv ex8).toArray 55 (0, 0) (by simp [cv_length, ex8])
    injection e with e
    subst e
    rw [sA] at hc
    refine ⟨_, rfl, by rw [s1]; show g0 + 1 < g0 + 1 + 1; omega, fun j x hx => ?_⟩
    have h := hc j x hx
    rw [← hw1] at h
    exact h)
  have HRO : Hid (RoleAt w1 g0 ⟨#[100, 49]⟩ ⟨#[97]⟩) := hid (by
    rw [hw1]
    refine RoleAt.kept ?_ ((Below.refl _ _).alloc (Nat.le_refl _) _)
    rw [hwA, ← hg0]
    exact RoleAt.new w _ _)
  have HCS := hid (fun W (hW : Below w1.heap.size w1 W) => (HCR.out.below hW).more hW.size)
  have HKR := hid (fun W (hW : Below w1.heap.size w1 W) => (⟨(HRO.out.kept hW).c0, (HRO.out.kept hW).c1⟩ : W.cell? ⟨g0, 0, none⟩ = some (.string ⟨#[100, 49]⟩) ∧ W.cell? ⟨g0, 1, none⟩ = some (.string ⟨#[97]⟩)))
  have HF1 : Hid (∀ W, Below w1.heap.size w1 W → Calls Tryd.prog 9 #[.slice (some ⟨g0 + 1, 0, none⟩) 3 3, .string ⟨#[97, 110, 110]⟩, .agg #[.string ⟨#[100, 49]⟩, .string ⟨#[97]⟩]] W fun e w' => ∃ (To Tn Tx : ByteArray) (TA : Option Addr) (Tl Tc : Nat), e = .returned (.tuple #[.agg #[.string To, .string Tn, .string Tx, .int .i64 1, .int .i64 2, .slice TA Tl Tc], .int .i64 0]) ∧ Below W.heap.size W w') := hid (fun W hW =>
    (cFind_any _ ex8 3 3 rfl (Nat.le_refl _) (by omega) (by omega) ⟨#[97, 110, 110]⟩ ⟨#[100, 49]⟩ ⟨#[97]⟩ (okB8 _ (by decide)) (okB8 _ (by decide)) (okB8 _ (by decide)) W (HCS.out W hW)).mono fun e w' ⟨cs, h1, h2, h3⟩ => by
      rcases h2 with ⟨h4, -⟩ | ⟨-, T, h5, -, h6, h7⟩
      · exact absurd ((rd8A h1).symm.trans h4) (by omega)
      · obtain ⟨e1, e2⟩ := can8 h1 h6 h7
        obtain ⟨To, Tn, Tx, Td, Tq, TA, Tc, Tps⟩ := T
        simp only [PT.d, PT.q] at e1 e2
        subst e1 e2
        exact ⟨To, Tn, Tx, TA, Tps.length, Tc, h5, h3⟩)
  have HF2 : Hid (∀ W, Below w1.heap.size w1 W → Calls Tryd.prog 9 #[.slice (some ⟨g0 + 1, 0, none⟩) 3 3, .string ⟨#[98, 111, 98]⟩, .agg #[.string ⟨#[100, 49]⟩, .string ⟨#[97]⟩]] W fun e w' => e = .returned (.tuple #[.agg #[.string ⟨#[]⟩, .string ⟨#[]⟩, .string ⟨#[]⟩, .int .i64 0, .int .i64 0, .slice none 0 0], .int .i64 16]) ∧ Below W.heap.size W w') := hid (fun W hW =>
    (cFind_any _ ex8 3 3 rfl (Nat.le_refl _) (by omega) (by omega) ⟨#[98, 111, 98]⟩ ⟨#[100, 49]⟩ ⟨#[97]⟩ (okB8 _ (by decide)) (okB8 _ (by decide)) (okB8 _ (by decide)) W (HCS.out W hW)).mono fun e w' ⟨cs, h1, h2, h3⟩ => by
      rcases h2 with ⟨-, h4⟩ | ⟨h5, -⟩
      · exact ⟨h4, h3⟩
      · exact absurd (rd8N h1) h5)
  have HRD : Hid (∀ W, Below w1.heap.size w1 W → Calls Tryd.prog 12 #[.slice (some ⟨g0 + 1, 0, none⟩) 3 3, .string ⟨#[97, 110, 110]⟩, .agg #[.string ⟨#[100, 49]⟩, .string ⟨#[97]⟩]] W fun e w' => e = .returned (.int .i64 1) ∧ Below W.heap.size W w') := hid (fun W hW =>
    (cRound_any _ ex8 3 3 rfl (Nat.le_refl _) (by omega) (by omega) ⟨#[97, 110, 110]⟩ ⟨#[100, 49]⟩ ⟨#[97]⟩ (okB8 _ (by decide)) (okB8 _ (by decide)) (okB8 _ (by decide)) W (HCS.out W hW)).mono fun e w' ⟨cs, h1, h2, h3⟩ => ⟨by rw [h2, show rd cs ((⟨#[100, 49]⟩, ⟨#[97]⟩), ⟨#[97, 110, 110]⟩) = 1 from rd8A h1]; rfl, h3⟩)
  have HSP : Hid (∀ W, Below w1.heap.size w1 W → ∀ g, Els encR W W.heap.size (some ⟨g, 0, none⟩) [rA8, rB8] → Calls Tryd.prog 15 #[.slice (some ⟨g0 + 1, 0, none⟩) 3 3, .string ⟨#[97, 110, 110]⟩, .slice (some ⟨g, 0, none⟩) 2 2] W fun e w' => ∃ (A' : Option Addr) (c' : Nat), e = .returned (.tuple #[.slice A' 2 c', .int .i64 0]) ∧ Below W.heap.size W w') := hid (fun W hW g hg =>
    (cSupport_any _ ex8 3 3 rfl (Nat.le_refl _) (by omega) (by omega) ⟨#[97, 110, 110]⟩ (okB8 _ (by decide)) (some ⟨g, 0, none⟩) [rA8, rB8] 2 2 rfl (by omega) (fun r hr => by
      simp only [List.mem_cons, List.not_mem_nil, or_false] at hr
      rcases hr with rfl | rfl <;> exact ⟨okB8 _ (by decide), okB8 _ (by decide)⟩) W (HCS.out W hW) hg).mono fun e w' ⟨cs, h1, h2, h3⟩ => by
      rcases h2 with ⟨⟨r, hr, h4⟩, -⟩ | ⟨-, A', c', ss, h5, h6, h7, -⟩
      · simp only [List.mem_cons, List.not_mem_nil, or_false] at hr
        rcases hr with rfl | rfl
        · exact absurd ((rd8A h1).symm.trans h4) (by omega)
        · exact absurd ((rd8B h1).symm.trans h4) (by omega)
      · rw [len8 h1 h6 h7] at h5
        exact ⟨A', c', h5, h3⟩)
  have hwX : w1 = (w.alloc (.cells #[.string ⟨#[100, 49]⟩, .string ⟨#[97]⟩] 24)).alloc (.cells #[.int .i64 1, .int .i64 1, .string ⟨#[97]⟩, .int .i64 2, .string ⟨#[]⟩, .string ⟨#[100, 50]⟩, .string ⟨#[98]⟩, .string ⟨#[]⟩, .string ⟨#[]⟩, .int .i64 1, .int .i64 2, .string ⟨#[97]⟩, .int .i64 1, .string ⟨#[97, 110, 110]⟩, .string ⟨#[]⟩, .string ⟨#[]⟩, .string ⟨#[]⟩, .string ⟨#[]⟩, .int .i64 2, .int .i64 1, .string ⟨#[98]⟩, .int .i64 1, .string ⟨#[97, 110, 110]⟩, .string ⟨#[]⟩, .string ⟨#[]⟩, .string ⟨#[]⟩, .string ⟨#[]⟩] 55) := by
    rw [hw1, hwA]; rfl
  have HG0 := hid hg0
  have HS1 := hid s1
  clear hwA sA hw1 s1
  go_enter Tryd.func14, Tryd.ntmps14
  go_upto_region 3 with fail
  try rw [← hwX]
  try rw [HG0.out]
  clear hwX hg0
  obtain ⟨r0, r1⟩ := HKR.out _ (Below.refl _ _)
  go_upto_region 4 with (go_at_call 9; (refine (HF1.out _ (Below.refl _ _)).mono ?_); rintro er w2 ⟨To, Tn, Tx, TA, Tl, Tc, rfl, bb⟩; have HB2 := hid bb; clear bb)
  obtain ⟨w3, hw3⟩ : ∃ x, x = w2.alloc (.cells #[.string To, .string Tn, .string Tx, .int .i64 1, .int .i64 2, .slice TA Tl Tc] 30) := ⟨_, rfl⟩
  obtain ⟨g3, hg3⟩ : ∃ x, w2.heap.size = x := ⟨_, rfl⟩
  rw [← hw3]
  try rw [hg3]
  have HB3 : Hid (Below w1.heap.size w1 w3) := hid (by rw [hw3]; exact HB2.out.alloc HB2.out.size _)
  have HP3 : Hid (w3.heap[g3]? = some (.cells #[.string To, .string Tn, .string Tx, .int .i64 1, .int .i64 2, .slice TA Tl Tc] 30 (0, 0))) := hid (by rw [hw3]; exact new_at hg3)
  clear hw3 hg3 r0 r1
  obtain ⟨r0, r1⟩ := HKR.out _ HB3.out
  go_upto_region 5 with (go_at_call 9; (refine (HF2.out _ HB3.out).mono ?_); rintro er w4 ⟨rfl, bb⟩; have HB4 := hid bb; clear bb)
  obtain ⟨w5, hw5⟩ : ∃ x, x = w4.alloc (.cells #[.string ⟨#[]⟩, .string ⟨#[]⟩, .string ⟨#[]⟩, .int .i64 0, .int .i64 0, .slice none 0 0] 30) := ⟨_, rfl⟩
  rw [← hw5]
  have HB35 : Hid (Below w3.heap.size w3 w5) := hid (by rw [hw5]; exact HB4.out.alloc HB4.out.size _)
  have HB5 : Hid (Below w1.heap.size w1 w5) := hid (HB3.out.trans (HB35.out.mono HB3.out.size))
  clear hw5 r0 r1
  obtain ⟨r0, r1⟩ := HKR.out _ HB5.out
  obtain ⟨w6, hw6⟩ : ∃ x, x = w5.alloc (.cells #[.string ⟨#[100, 49]⟩, .string ⟨#[97]⟩, .string ⟨#[100, 50]⟩, .string ⟨#[98]⟩] 24) := ⟨_, rfl⟩
  obtain ⟨g5, hg5⟩ : ∃ x, w5.heap.size = x := ⟨_, rfl⟩
  have HB56 : Hid (Below w5.heap.size w5 w6) := hid (by rw [hw6]; exact (Below.refl _ _).alloc (Nat.le_refl _) _)
  have HB6 : Hid (Below w1.heap.size w1 w6) := hid (HB5.out.trans (HB56.out.mono HB5.out.size))
  have HE6 : Hid (Els encR w6 w6.heap.size (some ⟨g5, 0, none⟩) [rA8, rB8]) := hid (fun _ => by
    obtain ⟨ad, e, hc⟩ := reads_new w5 #[.string ⟨#[100, 49]⟩, .string ⟨#[97]⟩, .string ⟨#[100, 50]⟩, .string ⟨#[98]⟩] 24 (0, 0) (by simp)
    injection e with e
    subst e
    rw [hg5] at hc
    refine ⟨_, rfl, by rw [hw6, World.size_alloc, hg5]; exact Nat.lt_succ_self _, fun j x hx => ?_⟩
    have h := hc j x (by simpa [ev, encR, rA8, rB8] using hx)
    rw [← hw6] at h
    exact h)
  have HSU := hid (HSP.out w6 HB6.out g5 HE6.out)
  go_upto_region 6 with (go_at_call 15; (try rw [← hw6]); (try rw [hg5]); (refine HSU.out.mono ?_); rintro er w7 ⟨A7, c7, rfl, bb⟩; have HB7 := hid bb; clear bb)
  have HB17 : Hid (Below w1.heap.size w1 w7) := hid (HB6.out.trans (HB7.out.mono HB6.out.size))
  have HB37 : Hid (Below w3.heap.size w3 w7) := hid (HB35.out.trans ((HB56.out.mono HB35.out.size).trans (HB7.out.mono (Nat.le_trans HB35.out.size HB56.out.size))))
  have HP7 : Hid (w7.heap[g3]? = some (.cells #[.string To, .string Tn, .string Tx, .int .i64 1, .int .i64 2, .slice TA Tl Tc] 30 (0, 0))) := hid ((HB37.out.block _ (Array.getElem?_eq_some_iff.1 HP3.out).1).trans HP3.out)
  have k3 : w7.cell? ⟨g3, 3, none⟩ = some (.int .i64 1) := by rw [cell_of_row w7 _ 3 _ _ (0, 0) HP7.out]; rfl
  have k4 : w7.cell? ⟨g3, 4, none⟩ = some (.int .i64 2) := by rw [cell_of_row w7 _ 4 _ _ (0, 0) HP7.out]; rfl
  clear hw6 hg5 r0 r1
  obtain ⟨r0, r1⟩ := HKR.out _ HB17.out
  go_wp2_with (go_at_call 12; (refine (HRD.out _ HB17.out).mono ?_); rintro er w8 ⟨rfl, bb⟩; have HB8 := hid bb; clear bb)
  go_ret
  exact ⟨rfl, HQ1.out.trans ((HB17.out.trans (HB8.out.mono HB17.out.size)).mono HQ1.out.size)⟩
end Go.Proofs.YtoajckhnneagnaaDoor.Sh
namespace Go.Proofs.YtoajckhnneagnaaDoor.Sh
open Go Go.RowKit

set_option linter.unusedSimpArgs false
set_option linter.unusedVariables false
set_option maxHeartbeats 4000000 in
theorem deepD_any (p : PT) : ∀ (w : World), p.deep ≤ 1000 → PIn w w.heap.size p →
    Calls Tryd.prog 23 #[.agg p.cells.toArray] w fun e w' => e = .returned (.int .i64 (p.deep : Int)) ∧ Below w.heap.size w w' := by
  induction p using PT.ind
  rename_i o n x d q A c ps ih
  intro w hm hp
  have HIH := hid ih
  have HM : Hid (∀ a ∈ ps, a.deep + 1 ≤ 1000) := hid (deep_le.1 hm)
  obtain ⟨S, hS⟩ : ∃ S, (PT.mk o n x d q A c ps).deep = S := ⟨_, rfl⟩
  have HS : Hid (S = ps.foldl (fun n p => max n (p.deep + 1)) 0) := hid (by rw [← hS, PT.deep_eq])
  rw [hS]
  obtain ⟨h1, h2, h3, h4⟩ := hp.open'
  obtain ⟨w1, hw1⟩ : ∃ w1, w1 = w.alloc (.cells (PT.mk o n x d q A c ps).cells.toArray 30) := ⟨_, rfl⟩
  have HQ1 : Hid (Below w.heap.size w w1) := hid (by rw [hw1]; exact below_pr w _)
  have HPA : Hid (PrAt w1 w.heap.size (.mk o n x d q A c ps)) := hid (by rw [hw1]; exact PrAt.new w _)
  have HPI := hid h4
  have HEL := hid (h3.below HQ1.out)
  obtain ⟨np, hnp⟩ : ∃ np, ps.length = np := ⟨_, rfl⟩
  have HNP := hid hnp
  have hnp63 : np ≤ 9223372036854775807 := by omega
  have HPA5 := hid (fun W (hW : Below w1.heap.size w1 W) => (HPA.out.kept hW).all)
  rw [hnp] at HPA5
  unfold PT.cells at hw1 ⊢
  simp only [hnp] at hw1 ⊢
  clear ih hp h1 h2 h3 h4 hnp hS hm
  go_enter Tryd.func23, Tryd.ntmps23
  go_wp2_with fail
  rw [← hw1]
  clear hw1
  go_loopw [3, 4] (fun v i wr => ∃ s j : Nat, v = .int .i64 (s : Int) ∧ i = .int .i64 (j : Int) ∧ j ≤ np ∧ s ≤ 1001 ∧ Hid (s = (ps.take j).foldl (fun n p => max n (p.deep + 1)) 0) ∧ Hid (Below w1.heap.size w1 wr)) (fun _ i _ => np - (intOf i).toNat)
  case atStart => exact ⟨0, 0, rfl, rfl, Nat.zero_le _, by omega, hid (by simp), hid (Below.refl _ _)⟩
  case round =>
    obtain ⟨s, j, rfl, rfl, hj, hs2, HSU, HB⟩ := hrel
    obtain ⟨k0, k1, k2, k3, k4, k5⟩ := HPA5.out _ HB.out
    have hs0 : (0 : Int) ≤ (s : Int) := by omega
    by_cases hlt : j < np
    · obtain ⟨⟨o2, n2, x2, d2, q2, A2, c2, ps2⟩, hx⟩ : ∃ x, ps[j]? = some x := ⟨_, List.getElem?_eq_getElem (by rw [HNP.out]; exact hlt)⟩
      have HX := hid hx
      have HME : Hid (PT.mk o2 n2 x2 d2 q2 A2 c2 ps2 ∈ ps) := hid (List.mem_of_getElem? hx)
      obtain ⟨ad, aj, rfl, hab, ea, hbj, a0, a1, a2, a3, a4, a5⟩ := PIn.get (HEL.out.below (HB.out.mono HQ1.out.size)) hx
      have hj0 : (0 : Int) ≤ (j : Int) := Int.natCast_nonneg _
      have hj1 : (j : Int) < (np : Int) := by omega
      have HPN := hid (fun W (hW : Below w1.heap.size w1 W) => (HPI.out _ HME.out).now (HQ1.out.trans (hW.mono HQ1.out.size)))
      clear hx hab hbj
      have hz1000 : (PT.mk o2 n2 x2 d2 q2 A2 c2 ps2).deep + 1 ≤ 1000 := HM.out _ HME.out
      have HCA := hid (HIH.out _ HME.out wr (by omega) (HPN.out _ HB.out))
      unfold PT.cells at HCA
      simp only at HCA
      obtain ⟨z, hz⟩ : ∃ z, (PT.mk o2 n2 x2 d2 q2 A2 c2 ps2).deep = z := ⟨_, rfl⟩
      have HT : Hid ((ps.take (j + 1)).foldl (fun n p => max n (p.deep + 1)) 0 = max s (z + 1)) := hid (by rw [take_snoc_of HX.out, deep_step, hz, ← HSU.out])
      rw [hz] at HCA hz1000
      have hz1 : z ≤ 1000 := by omega
      have hz0 : (0 : Int) ≤ (z : Int) := by omega
      clear hz hz1000
      by_cases hgt : s < z + 1
      · have hgi : (s : Int) < (z : Int) + 1 := by omega
        go_wp2_with fail
        refine HCA.out.mono ?_
        rintro er w3 ⟨rfl, hb3⟩
        have HB3 := hid (HB.out.trans (hb3.mono HB.out.size))
        clear hb3 HCA k0 k1 k2 k3 k4 k5 a0 a1 a2 a3 a4 a5
        go_wp2_with fail
        go_roundw
        case rel => exact ⟨z + 1, j + 1, by go_num, by go_num, by omega, by omega, hid (by rw [HT.out]; omega), HB3⟩
        case measure => simp [intOf]; omega
      · have hgi : ¬ (s : Int) < (z : Int) + 1 := by omega
        go_wp2_with fail
        refine HCA.out.mono ?_
        rintro er w3 ⟨rfl, hb3⟩
        have HB3 := hid (HB.out.trans (hb3.mono HB.out.size))
        clear hb3 HCA k0 k1 k2 k3 k4 k5 a0 a1 a2 a3 a4 a5
        go_wp2_with fail
        go_roundw
        case rel => exact ⟨s, j + 1, rfl, by go_num, by omega, hs2, hid (by rw [HT.out]; omega), HB3⟩
        case measure => simp [intOf]; omega
    · obtain rfl : j = np := by omega
      have HE : Hid (s = S) := hid (by have e1 := HSU.out; rw [List.take_of_length_le (by rw [HNP.out]; exact Nat.le_refl _), ← HS.out] at e1; exact e1)
      go_wp2_with fail
      go_ret
      exact ⟨by rw [← HE.out]; rfl, HQ1.out.trans (HB.out.mono HQ1.out.size)⟩
end Go.Proofs.YtoajckhnneagnaaDoor.Sh
namespace Go.Proofs.YtoajckhnneagnaaDoor.Sh
open Go Go.RowKit

set_option linter.unusedSimpArgs false
set_option linter.unusedVariables false
theorem rd_small {cs : List Crd} {p : Pr} (h : cs.length ≤ 30) : rd cs p ≤ 510 := by
  have h1 := rd_bound (cs := cs) (pe := p.2 :: (List.range 16).map domN) (q := p) (fun i hi => List.mem_cons_of_mem _ (List.mem_map.2 ⟨i, List.mem_range.2 hi, rfl⟩)) (by simp)
  have h2 : (p.2 :: (List.range 16).map domN).length = 17 := by simp
  rw [h2] at h1
  have : cs.length * 17 ≤ 30 * 17 := Nat.mul_le_mul_right 17 h
  omega
set_option maxHeartbeats 16000000 in
set_option maxRecDepth 100000 in
theorem chainShort_walk (A : Option Addr) (l0 : List Crd) (n0 k : Nat) (hn0 : l0.length = n0) (hk0 : n0 ≤ k) (hk2 : k ≤ 9223372036854775807) (q : PT) (hqo : okB q.o) (hqn : okB q.n) (hqx : okB q.x) (w : World) (hb : Crs w w.heap.size A l0) (hq : PIn w w.heap.size q) :
    Calls Tryd.prog 6 #[.slice A n0 k, .agg q.cells.toArray] w fun e w' => e = .returned (.bool true) ∧ Below w.heap.size w w' := by
  have HOK : Hid (okB q.o ∧ okB q.n ∧ okB q.x ∧ k ≤ 9223372036854775807) := hid ⟨hqo, hqn, hqx, hk2⟩
  obtain ⟨w1, hw1⟩ : ∃ x, x = w.alloc (.cells q.cells.toArray 30) := ⟨_, rfl⟩
  obtain ⟨g0, hg0⟩ : ∃ x, w.heap.size = x := ⟨_, rfl⟩
  have HQ1 : Hid (Below w.heap.size w w1) := hid (by rw [hw1]; exact below_pr w q)
  have HPA : Hid (PrAt w1 g0 q) := hid (by rw [hw1, ← hg0]; exact PrAt.new w q)
  have HPN := hid (fun W (hW : Below w1.heap.size w1 W) => hq.now (HQ1.out.trans (hW.mono HQ1.out.size)))
  have HFE := hid (few8C_any A l0 n0 k hn0 hk0 hk2 w1 ((hb.below HQ1.out).more HQ1.out.size))
  have HFW := hid (fun W (hW : Below w1.heap.size w1 W) => few7_any q 60 W (by omega) (HPN.out W hW))
  have HCK := hid (fun (l : List Crd) (n : Nat) (hl : l.length = n) (hn : n ≤ 1000) W (hW : Below w1.heap.size w1 W) (hc : Crs W W.heap.size A l) => refCheck_any A l n k hl hn q W hc (HPN.out W hW))
  have HDQ := hid (fun W (hW : Below w1.heap.size w1 W) (hd : q.deep ≤ 1000) => deepD_any q W hd (HPN.out W hW))
  obtain ⟨qo, qn, qx, qd, qq, qA, qc, qps⟩ := q
  have HKQ := hid (fun W (hW : Below w1.heap.size w1 W) => (HPA.out.kept hW).all)
  unfold PT.cells at hw1 HFW HCK HDQ ⊢
  simp only [PT.o, PT.n, PT.x] at hw1 HFW HCK HDQ HOK ⊢
  obtain ⟨Q, hQ⟩ : ∃ Q, Q = PT.mk qo qn qx qd qq qA qc qps := ⟨_, rfl⟩
  rw [← hQ] at HFW HCK HDQ
  have HQP : Hid (Q.pr = ((qo, qn), qx)) := hid (by rw [hQ]; rfl)
  have HDS := hid (deep_lt_size Q)
  clear hb hq hn0 hk0 hk2 hqo hqn hqx hQ
  go_enter Tryd.func6, Tryd.ntmps6
  go_upto_region 1 with fail
  try rw [← hw1]
  try rw [hg0]
  clear hw1 hg0
  go_upto_region 2 with (go_at_call 8; (refine HFE.out.mono ?_); rintro er w2 ⟨n, rfl, l, hN, hm, hk, y0, rfl⟩; have HN : Hid (l.length = n ∧ n ≤ 9 ∧ n ≤ k) := hid ⟨hN, hm, hk⟩; have HY := hid (fun W (hW : Below w2.heap.size w2 W) => (y0.below hW).more hW.size); clear hN hm hk y0)
  obtain ⟨a0, a1, a2, a3, a4, a5⟩ := HKQ.out _ (Below.refl _ _)
  have HF0 := hid (HFW.out w2 (Below.refl _ _))
  have HLV := hid (fun W (hW : Below w2.heap.size w2 W) => lives8_any W)
  by_cases hs : Q.size ≤ 60
  · rw [if_pos hs] at HF0
    have hs0 : ¬ (Q.size : Int) < 0 := by omega
    have HSZ := hid hs
    generalize Q.size = S at HF0 hs0 HSZ HDS
    clear hs
    obtain ⟨D, hD⟩ : ∃ D, dc (Cor (cnt8 l) Q) = D := ⟨_, rfl⟩
    have HD := hid hD
    have HC0 := hid (fun W (hW : Below w2.heap.size w2 W) => (HCK.out l n HN.out.1 (by have := HN.out; omega) W hW (HY.out W hW)).mono (R' := fun e w' => e = .returned (.int .i64 (bif D then 0 else 15)) ∧ Below W.heap.size W w') fun e w' ⟨cs, g1, g2, g3⟩ => ⟨by rw [g2, ← cnt8_of g1, hD], g3⟩)
    clear hD
    cases D with
    | false =>
      simp only [cond] at HC0
      go_wp2_with (first
        | (go_at_call 22; (refine HF0.out.mono ?_); rintro er w3 ⟨rfl, b3⟩; have HB3 := hid b3; clear b3; clear a0 a1 a2 a3 a4 a5; (obtain ⟨a0, a1, a2, a3, a4, a5⟩ := HKQ.out _ HB3.out))
        | (go_at_call 19; (refine (HC0.out _ HB3.out).mono ?_); rintro er w4 ⟨rfl, b4⟩; have HB4 := hid (HB3.out.trans (b4.mono HB3.out.size)); clear b4)
        | (go_at_call 14; (refine (HLV.out _ HB4.out).mono ?_); rintro er w5 ⟨rfl, b5⟩; have HB5 := hid (HB4.out.trans (b5.mono HB4.out.size)); clear b5))
      go_ret
      exact ⟨rfl, HQ1.out.trans (HB5.out.mono HQ1.out.size)⟩
    | true =>
      simp only [cond] at HC0
      have HCO : Hid (Cor (cnt8 l) Q) := hid (dc_iff.1 HD.out)
      go_upto_region 4 with (first
        | (go_at_call 22; (refine HF0.out.mono ?_); rintro er w3 ⟨rfl, b3⟩; have HB3 := hid b3; clear b3; clear a0 a1 a2 a3 a4 a5; (obtain ⟨a0, a1, a2, a3, a4, a5⟩ := HKQ.out _ HB3.out))
        | (go_at_call 19; (refine (HC0.out _ HB3.out).mono ?_); rintro er w4 ⟨rfl, b4⟩; have HB4 := hid (HB3.out.trans (b4.mono HB3.out.size)); clear b4))
      clear a0 a1 a2 a3 a4 a5
      obtain ⟨a0, a1, a2, a3, a4, a5⟩ := HKQ.out _ HB4.out
      obtain ⟨R, hR⟩ : ∃ R, rd (cnt8 l) ((qo, qn), qx) = R := ⟨_, rfl⟩
      have HR := hid hR
      have HRQ : Hid (R ≠ 0 ∧ R ≤ Q.deep + 1) := hid (by rw [← hR, ← HQP.out]; exact cor_rd HCO.out)
      have HFI := hid ((cFind_any A l n k HN.out.1 HN.out.2.2 HOK.out.2.2.2 (by have := HN.out; omega) qx qo qn HOK.out.2.2.1 HOK.out.1 HOK.out.2.1 w4 (HY.out _ HB4.out)).mono (R' := fun e w' => ∃ T : PT, e = .returned (.tuple #[.agg T.cells.toArray, .int .i64 0]) ∧ PIn w' w'.heap.size T ∧ T.deep + 1 = R ∧ R ≤ 510 ∧ Below w4.heap.size w4 w') fun e w' ⟨cs, g1, g2, g3⟩ => by
        have g4 := cnt8_of g1
        rcases g2 with ⟨g5, -⟩ | ⟨-, T, g6, g7, g8, g9⟩
        · exact absurd (by rw [← hR, g4]; exact g5) HRQ.out.1
        · exact ⟨T, g6, g7, by rw [g8.deep, g9, ← hR, g4], by rw [← hR, g4]; exact rd_small (by have := counts_len g1; have := HN.out; omega), g3⟩)
      clear hR
      go_upto_region 5 with (go_at_call 9; (refine HFI.out.mono ?_); rintro er w5 ⟨T, rfl, hpi, hde, hr5, b5⟩; have HPT := hid hpi; have HDT := hid hde; have HR5 := hid hr5; have HB45 := hid b5; clear hpi hde hr5 b5; (obtain ⟨To, Tn, Tx, Td, Tq, TA, Tc, Tps⟩ := T); simp only [PT.cells])
      obtain ⟨w6, hw6⟩ : ∃ x, x = w5.alloc (.cells #[.string To, .string Tn, .string Tx, .int .i64 Td, .int .i64 Tq, .slice TA Tps.length Tc] 30) := ⟨_, rfl⟩
      obtain ⟨g6, hg6⟩ : ∃ x, w5.heap.size = x := ⟨_, rfl⟩
      rw [← hw6]
      try rw [hg6]
      have HB56 : Hid (Below w5.heap.size w5 w6) := hid (by rw [hw6]; exact (Below.refl _ _).alloc (Nat.le_refl _) _)
      have HB46 : Hid (Below w4.heap.size w4 w6) := hid (HB45.out.trans (HB56.out.mono HB45.out.size))
      have HB6 : Hid (Below w2.heap.size w2 w6) := hid (HB4.out.trans (HB46.out.mono HB4.out.size))
      have HA6 : Hid (PrAt w6 g6 (.mk To Tn Tx Td Tq TA Tc Tps)) := hid (by rw [hw6, ← hg6]; exact PrAt.new w5 (.mk To Tn Tx Td Tq TA Tc Tps))
      have HP6 := hid (fun W (hW : Below w6.heap.size w6 W) => HPT.out.now (HB56.out.trans (hW.mono HB56.out.size)))
      have HDP := hid (fun W (hW : Below w6.heap.size w6 W) => deepD_any (.mk To Tn Tx Td Tq TA Tc Tps) W (by have := HDT.out; have := HR5.out; omega) (HP6.out W hW))
      have HKT := hid (fun W (hW : Below w6.heap.size w6 W) => (HA6.out.kept hW).all)
      obtain ⟨Dp, hDp⟩ : ∃ Dp, (PT.mk To Tn Tx Td Tq TA Tc Tps).deep = Dp := ⟨_, rfl⟩
      rw [hDp] at HDP HDT
      unfold PT.cells at HDP
      simp only at HDP
      clear hw6 hg6 hDp a0 a1 a2 a3 a4 a5
      obtain ⟨a0, a1, a2, a3, a4, a5⟩ := HKQ.out _ HB6.out
      have HRO := hid ((cRound_any A l n k HN.out.1 HN.out.2.2 HOK.out.2.2.2 (by have := HN.out; omega) qx qo qn HOK.out.2.2.1 HOK.out.1 HOK.out.2.1 w6 (HY.out _ HB6.out)).mono (R' := fun e w' => e = .returned (.int .i64 (R : Int)) ∧ Below w6.heap.size w6 w') fun e w' ⟨cs, g1, g2, g3⟩ => ⟨by rw [g2, ← HR.out, cnt8_of g1], g3⟩)
      go_upto_region 6 with (go_at_call 12; (refine HRO.out.mono ?_); rintro er w7 ⟨rfl, b7⟩; have HB67 := hid b7; clear b7)
      have HB7 : Hid (Below w2.heap.size w2 w7) := hid (HB6.out.trans (HB67.out.mono HB6.out.size))
      clear a0 a1 a2 a3 a4 a5
      obtain ⟨a0, a1, a2, a3, a4, a5⟩ := HKQ.out _ HB7.out
      obtain ⟨t0, t1, t2, t3, t4, t5⟩ := HKT.out _ HB67.out
      have hR5 : R ≤ 510 := HR5.out
      have hR1 : 1 ≤ R := by have := HRQ.out.1; omega
      have hRm : (R : Int) - 1 = (Dp : Int) := by have := HDT.out; omega
      have HDD := hid (fun W (hW : Below w2.heap.size w2 W) => HDQ.out W hW (by have := HDS.out; have := HSZ.out; omega))
      have hQd : (Dp : Int) ≤ (Q.deep : Int) := by have := HRQ.out.2; have := HDT.out; omega
      have hQd2 : Q.deep < 60 := by have := HDS.out; have := HSZ.out; omega
      obtain ⟨Dq, hDq⟩ : ∃ Dq, Q.deep = Dq := ⟨_, rfl⟩
      rw [hDq] at HDD hQd hQd2
      clear hDq
      go_wp2_with (first
        | (go_at_call 23; (refine (HDP.out _ HB67.out).mono ?_); rintro er w8 ⟨rfl, b8⟩; clear HDP; have HB8 := hid (HB7.out.trans (b8.mono HB7.out.size)); clear b8; clear a0 a1 a2 a3 a4 a5; (obtain ⟨a0, a1, a2, a3, a4, a5⟩ := HKQ.out _ HB8.out))
        | (go_at_call 23; (refine (HDD.out _ HB8.out).mono ?_); rintro er w9 ⟨rfl, b9⟩; have HB9 := hid (HB8.out.trans (b9.mono HB8.out.size)); clear b9)
        | (go_at_call 14; (refine (HLV.out _ HB9.out).mono ?_); rintro er w10 ⟨rfl, b10⟩; have HB10 := hid (HB9.out.trans (b10.mono HB9.out.size)); clear b10))
      go_ret
      exact ⟨rfl, HQ1.out.trans (HB10.out.mono HQ1.out.size)⟩
  · rw [if_neg hs] at HF0
    clear hs
    go_wp2_with (first
      | (go_at_call 22; (refine HF0.out.mono ?_); rintro er w3 ⟨rfl, b3⟩; have HB3 := hid b3; clear b3; clear a0 a1 a2 a3 a4 a5)
      | (go_at_call 14; (refine (HLV.out _ HB3.out).mono ?_); rintro er w4 ⟨rfl, b4⟩; have HB4 := hid (HB3.out.trans (b4.mono HB3.out.size)); clear b4))
    go_ret
    exact ⟨rfl, HQ1.out.trans (HB4.out.mono HQ1.out.size)⟩
end Go.Proofs.YtoajckhnneagnaaDoor.Sh
namespace Go.Proofs.YtoajckhnneagnaaDoor.Sh
open Go Go.RowKit

set_option linter.unusedSimpArgs false
set_option linter.unusedVariables false
section
variable {cs : List Crd}
def Lat (cs : List Crd) : List Pr := (cs.filter fun c => decide (c.kd ≠ 1)).flatMap fun c => (cs.filter fun d => decide (d.kd = 1)).map fun d => (roleOf c, d.wh)
theorem lat_len : (Lat cs).length = (cs.filter fun c => decide (c.kd ≠ 1)).length * (cs.filter fun d => decide (d.kd = 1)).length := by
  unfold Lat
  generalize (cs.filter fun c => decide (c.kd ≠ 1)) = a
  induction a with
  | nil => simp
  | cons c t ih => rw [List.flatMap_cons, List.length_append, ih, List.length_map, List.length_cons, Nat.succ_mul, Nat.add_comm]
theorem part_len : (cs.filter fun c => decide (c.kd ≠ 1)).length + (cs.filter fun d => decide (d.kd = 1)).length = cs.length := by
  induction cs with
  | nil => rfl
  | cons c t ih =>
    by_cases h : c.kd = 1
    · rw [List.filter_cons_of_neg (by simp [h]), List.filter_cons_of_pos (by simp [h])]
      simp only [List.length_cons]
      omega
    · rw [List.filter_cons_of_pos (by simp [h]), List.filter_cons_of_neg (by simp [h])]
      simp only [List.length_cons]
      omega
theorem twenty : ∀ a : Fin 10, ∀ b : Fin 10, a.val + b.val ≤ 9 → a.val * b.val ≤ 20 := by decide
theorem lat_20 (h : cs.length ≤ 9) : (Lat cs).length ≤ 20 := by
  rw [lat_len]
  have h1 := part_len (cs := cs)
  exact twenty ⟨_, by omega⟩ ⟨_, by omega⟩ (Nat.le_trans (Nat.le_of_eq h1) h)
theorem in_lat {p : Pr} (h : 2 ≤ rd cs p) : p ∈ Lat cs := by
  obtain ⟨c, hc, hd⟩ := rd_der (p := p) (cs := cs) (n := rd cs p - 1) (by omega)
  have hk : c.kd ≠ 1 := fun e => by
    have h1 := hd.2
    have h2 : p.2 = c.wh := by
      rcases h1 with h1 | h1 | h1 | h1
      · exact h1.2
      · omega
      · omega
      · omega
    have h3 := (rd_le (n := 0) hc (p := p) ⟨hd.1, .inl ⟨e, h2⟩⟩).2
    omega
  obtain ⟨d, hd1, hd2, hd3⟩ := imp_who (rd_imp.1 (by omega : rd cs p ≠ 0))
  refine List.mem_flatMap.2 ⟨c, List.mem_filter.2 ⟨hc, by simpa using hk⟩, List.mem_map.2 ⟨d, List.mem_filter.2 ⟨hd1, by simpa using hd2⟩, ?_⟩⟩
  rw [hd3, ← hd.1]
theorem lat_chain : ∀ m q, rd cs q = m + 1 → ∃ l : List Pr, l.length = m ∧ l.Nodup ∧ ∀ p ∈ l, 2 ≤ rd cs p ∧ rd cs p ≤ m + 1 := by
  intro m
  induction m with
  | zero => exact fun q _ => ⟨[], rfl, List.nodup_nil, by simp⟩
  | succ m ih =>
    intro q e
    obtain ⟨c, hc, hr, h5⟩ := rd_pred e
    have : ∃ p : Pr, rd cs p = m + 1 := by
      rcases h5 with ⟨_, _, p, hp, hpq, _⟩ | ⟨_, y, hy, _, _, h8⟩
      · exact ⟨p, hp⟩
      · rcases h8 with h8 | ⟨h8, _⟩
        · exact ⟨_, h8⟩
        · exact ⟨_, h8⟩
    obtain ⟨p, hp⟩ := this
    obtain ⟨l, h1, h2, h3⟩ := ih p hp
    exact ⟨q :: l, by rw [List.length_cons, h1], List.nodup_cons.2 ⟨fun hm => by have := (h3 q hm).2; omega, h2⟩, fun p hp => by
      rcases List.mem_cons.1 hp with e2 | e2
      · rw [e2]; omega
      · have := h3 p e2; omega⟩
theorem rd_21 (h : cs.length ≤ 9) (p : Pr) : rd cs p ≤ 21 := by
  rcases Nat.eq_zero_or_pos (rd cs p) with e | e
  · omega
  · obtain ⟨l, h1, h2, h3⟩ := lat_chain (cs := cs) (rd cs p - 1) p (by omega)
    have h4 := nodup_lenA h2 fun q hq => in_lat (h3 q hq).1
    have := lat_20 h
    omega
theorem Can.small {p : PT} (h : Can cs p) : p.size + 1 ≤ 2 ^ Sh.rd cs p.pr := by
  induction h with
  | @mk p c ps hf hd hq hps hall ih =>
    have hr := fs_rd hf
    obtain ⟨o, n, x, d, q, A, cc, pl⟩ := p
    rw [PT.size_eq]
    simp only [PT.ps] at hps hall ih
    have hl := fs_len hf
    obtain ⟨r, er⟩ : ∃ r, Sh.rd cs (PT.mk o n x d q A cc pl).pr = r + 1 := ⟨_, (Nat.succ_pred hr).symm⟩
    have hsm : ∀ a ∈ pl, a.size + 1 ≤ 2 ^ r := fun a ha => by
      have h1 := ih a ha
      have h2 := (fs_lt hf a.pr (by rw [← hps]; exact List.mem_map_of_mem ha)).2.1
      exact Nat.le_trans h1 (Nat.pow_le_pow_right (by omega) (by omega))
    have hln : pl.length ≤ 2 := by rw [← hps, List.length_map] at hl; exact hl
    rw [er, Nat.pow_succ]
    have hp : 1 ≤ 2 ^ r := Nat.one_le_two_pow
    match pl, hln, hsm with
    | [], _, _ => simp; omega
    | [a], _, hs => have := hs a (by simp); simp; omega
    | [a, b], _, hs => have := hs a (by simp); have := hs b (by simp); simp; omega
theorem Can.few {p : PT} (h : Can cs p) (hl : cs.length ≤ 9) : p.size ≤ 2097152 := by
  have h1 := h.small
  have h2 : 2 ^ Sh.rd cs p.pr ≤ 2 ^ 21 := Nat.pow_le_pow_right (by omega) (rd_21 hl _)
  have : (2 : Nat) ^ 21 = 2097152 := by decide
  omega
end
end Go.Proofs.YtoajckhnneagnaaDoor.Sh
namespace Go.Proofs.YtoajckhnneagnaaDoor.Sh
open Go Go.RowKit

set_option linter.unusedSimpArgs false
set_option linter.unusedVariables false
section
variable {cs : List Crd} {who : ByteArray} {rs : List Rl} {pl : List Pr} {i : Nat}
end
end Go.Proofs.YtoajckhnneagnaaDoor.Sh
