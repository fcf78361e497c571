/-
  LeaseOwns: what is handed in stays, and what is told is new. Written by mk_lelawd.py.
-/
import Derived.Test.YtkimhdcngagmaaaJa33
import Derived.Test.YtkimhdcngagmaaaJa35
set_option linter.unusedVariables false
set_option linter.unusedSimpArgs false
namespace Go.Proofs.Ytkimhdcngagmaaa.Sh
open Go Go.RowKit

set_option linter.unusedSimpArgs false
set_option linter.unusedVariables false
theorem slCr : SlN Try.prog 34 53 9 120 := slC
theorem addr_rowE (g n : Nat) : (⟨g, 0, none⟩ : Addr).add n = ⟨g, n, none⟩ := by
  rcases Nat.eq_zero_or_pos n with e | e
  · subst e; rw [add_zero]
  · rw [add_pos _ n e]; simp
set_option maxRecDepth 100000 in
set_option maxHeartbeats 64000000 in
theorem leaseOwns_walk (o now : Int) (DA : Option Addr) (xs : List Dd) (dn dc : Nat) (hdn : xs.length = dn) (w : World) (hD : DeedsAt w w.heap.size DA xs) :
    Calls Try.prog 6 #[.int .i64 o, .slice DA dn dc, .int .i64 now] w fun e w' => e = .returned (.bool true) ∧ Below w.heap.size w w' := by
  have HLV := hid (fun W => lives_any W)
  by_cases ho : 1 ≤ o ∧ o ≤ 16
  · have HO : Hid (1 ≤ o ∧ o ≤ 16) := hid ho
    obtain ⟨ho1, ho2⟩ := ho
    have HDN := hid hdn
    have HDD := hid (fun W (hW : Below w.heap.size w W) => hD.below hW)
    clear hdn hD
    have HNEW := hid (fun W => new_yes o ⟨ho1, ho2⟩ W)
    go_enter Try.func6, Try.ntmps6
    go_wp2_with fail
    refine (HNEW.out w).mono ?_
    rintro er w2 ⟨gs, rfl, hbk, hb2⟩
    obtain ⟨w3, hw3⟩ : ∃ y, y = w2.alloc (.cells #[.int .i64 o, .slice none 0 0, .slice none 0 0] 32) := ⟨_, rfl⟩
    have hbt := bth_new HO.out hb2 hbk
    rw [← hw3] at hbt
    have HB3 : Hid (Below w.heap.size w w3) := hid (by rw [hw3]; exact hb2.alloc hb2.size _)
    have HBT0 := hid hbt
    have HW3 := hid hw3
    obtain ⟨gr2, hgr⟩ : ∃ x, x = w2.heap.size := ⟨_, rfl⟩
    rw [← hgr] at HBT0
    clear hbt hw3 hbk hb2 HNEW
    go_upto_region 5 with fail
    rw [← HW3.out, ← hgr]
    clear hgr HW3
    go_wp2_with fail
    go_loopw [9] (fun i wr => ∃ k : Nat, k ≤ dn ∧ k ≤ 15 ∧ i = .int .i64 (k : Int) ∧ Hid (∃ (P R : Nat → Prop) (b : LB) (r : RB), Bth wr w.heap.size P R gs gr2 (2 * k) b r) ∧ Hid (Below w.heap.size w wr)) (fun i _ => 20 - (intOf i).toNat)
    case atStart => exact ⟨0, Nat.zero_le _, Nat.zero_le _, rfl, hid ⟨_, _, _, _, HBT0.out⟩, HB3⟩
    case round =>
      clear HBT0 HB3
      obtain ⟨wj, hwj⟩ : ∃ x, x = wr := ⟨_, rfl⟩
      subst hwj
      obtain ⟨k, hk, hk20, rfl, HEX, HB⟩ := hrel
      obtain ⟨P, R, b, r, hbt⟩ := HEX.out
      have HBT := hid hbt
      have hk0 : (0 : Int) ≤ (k : Int) := Int.natCast_nonneg _
      clear hbt HEX
      by_cases hlt : k < dn ∧ k < 15
      · obtain ⟨hl1, hl2⟩ := hlt
        obtain ⟨x, hx⟩ : ∃ x, xs[k]? = some x := ⟨_, List.getElem?_eq_getElem (by rw [HDN.out]; exact hl1)⟩
        obtain ⟨ad, aj, CA, cn, cc, hA, -, ea, -, e0, e1, e2, e3, hcl, hcn, hcm, hce⟩ := (HDD.out wj HB.out).get hx
        subst hA
        have hi1 : (k : Int) < (dn : Int) := by omega
        have hi2 : (k : Int) < 15 := by omega
        obtain ⟨xk, xd, xa, xl⟩ := x
        simp only at e0 e1 e2 e3 hcl hce
        obtain ⟨w4, hw4⟩ : ∃ y, y = wj.alloc (.cells #[.int .i64 xk, .int .i64 xd, .int .i64 xa, .slice CA cn cc] 36) := ⟨_, rfl⟩
        have hc4 : w4.heap[wj.heap.size]? = some (.cells #[.int .i64 xk, .int .i64 xd, .int .i64 xa, .slice CA cn cc] 36 (0, 0)) := by rw [hw4]; exact heap_alloc_new wj _
        have HB4 : Hid (Below wj.heap.size wj w4) := hid (by rw [hw4]; exact (Below.refl _ _).alloc (Nat.le_refl _) _)
        have j3 : w4.cell? ⟨wj.heap.size, 3, none⟩ = some (.slice CA cn cc) := by rw [cell_of_row _ _ 3 _ _ (0, 0) hc4]; rfl
        have jf : w4.frozen? ⟨wj.heap.size, 3, none⟩ = false := frozen_of_row _ _ 3 _ _ hc4
        have HW4 := hid hw4
        clear hx
        by_cases hcut : 40 < cn
        · -- cut
          have hlt2 : (40 : Int) < (cn : Int) := by omega
          have h40 : (40 : Nat) ≤ cn := by omega
          have h40c : (40 : Int) ≤ (cc : Int) := by omega
          have h40d : (40 : Nat) ≤ cc := by omega
          obtain ⟨w5, hw5⟩ : ∃ y, y = w4.setCell ⟨wj.heap.size, 3, none⟩ (.slice CA 40 cc) := ⟨_, rfl⟩
          have hc5 : w5.heap[wj.heap.size]? = some (.cells #[.int .i64 xk, .int .i64 xd, .int .i64 xa, .slice CA 40 cc] 36 (0, 0)) := by rw [hw5, heap_setCell_same w4 wj.heap.size 3 _ _ _ hc4]; rfl
          have HB5 : Hid (Below wj.heap.size wj w5) := hid (by rw [hw5]; exact HB4.out.setCell (Nat.le_refl _) _)
          have HLC : Hid ((xl.take 40).length = 40) := hid (by rw [List.length_take, hcl]; omega)
          have hm40 : (40 : Nat) ≤ 40 := Nat.le_refl _
          have HS5 : Hid (wj.heap.size < w5.heap.size) := hid (Array.getElem?_eq_some_iff.1 hc5).1
          have HC5 := hid hc5
          have HW5 := hid hw5
          have HB05 := hid (HB.out.trans (HB5.out.mono HB.out.size))
          have hls : w.heap.size ≤ w5.heap.size := HB05.out.size
          have i3 : w5.cell? ⟨wj.heap.size, 3, none⟩ = some (.slice CA 40 cc) := by rw [cell_of_row _ _ 3 _ _ (0, 0) hc5]; rfl
          have HRD := hid ((((hce.head (hi := 40)).below (HB5.out.mono HB.out.size)).reads))
          have HON := hid (Own.nil (E := encCr) w5 w5.heap.size 53)
          have hfl : ([] : List Crd).length + 40 ≤ 1000000000000 := by simp only [List.length_nil]; omega
          have hb55 : w5.heap.size ≤ w5.heap.size := Nat.le_refl _
          have hlc : (xl.take 40).length = 40 := HLC.out
          have HB55 := hid (Below.refl w5.heap.size w5)
          clear hw5 hc5 hc4 hce hcl hw4
          go_upto_region 9 with fail
          rw [← HW4.out]
          go_upto_region 11 with fail
          rw [← HW5.out]
          go_upto_region 13 with (first | (at_builtin; refine wpList_appL (E := encCr) rfl slCr (.tmp 48) (.tmp 50) rfl (B := w5.heap.size) (v := .slice none 0 0) (l := []) HON.out rfl (A := CA) (m := 40) (c := cc) (xl.take 40) rfl hlc HRD.out hfl (by omega) hb55 ?_; intro A9 c9 w9 ho9 hg9 he9; have HO9 := hid ho9; have HB9 := hid (HB55.out.grown hg9 hb55 (fun g e => by cases e)); clear ho9 hg9 he9) | go_in)
          simp only [List.length_nil, Nat.zero_add, List.nil_append] at HO9
          obtain ⟨hc9, hm9⟩ : 40 ≤ c9 ∧ c9 ≤ 9223372036854775807 := by
            obtain ⟨A', c', e, h1, h2, -⟩ := HO9.out.els
            simp only [Value.slice.injEq] at e
            obtain ⟨-, h3, rfl⟩ := e
            exact ⟨by omega, h2⟩
          have HC9 := hid ((HB9.out.block _ HS5.out).trans HC5.out)
          have l0 : w9.cell? ⟨wj.heap.size, 0, none⟩ = some (.int .i64 xk) := by rw [cell_of_row _ _ 0 _ _ (0, 0) HC9.out]; rfl
          have l1 : w9.cell? ⟨wj.heap.size, 1, none⟩ = some (.int .i64 xd) := by rw [cell_of_row _ _ 1 _ _ (0, 0) HC9.out]; rfl
          have l2 : w9.cell? ⟨wj.heap.size, 2, none⟩ = some (.int .i64 xa) := by rw [cell_of_row _ _ 2 _ _ (0, 0) HC9.out]; rfl
          have l3 : w9.cell? ⟨wj.heap.size, 3, none⟩ = some (.slice CA 40 cc) := by rw [cell_of_row _ _ 3 _ _ (0, 0) HC9.out]; rfl
          obtain ⟨wa, hwa⟩ : ∃ y, y = w9.alloc (.cells #[.int .i64 xk, .int .i64 xd, .int .i64 xa, .slice CA 40 cc] 36) := ⟨_, rfl⟩
          have hca : wa.heap[w9.heap.size]? = some (.cells #[.int .i64 xk, .int .i64 xd, .int .i64 xa, .slice CA 40 cc] 36 (0, 0)) := by rw [hwa]; exact heap_alloc_new w9 _
          have HBA : Hid (Below w9.heap.size w9 wa) := hid (by rw [hwa]; exact (Below.refl _ _).alloc (Nat.le_refl _) _)
          have a3 : wa.cell? ⟨w9.heap.size, 3, none⟩ = some (.slice CA 40 cc) := by rw [cell_of_row _ _ 3 _ _ (0, 0) hca]; rfl
          have af : wa.frozen? ⟨w9.heap.size, 3, none⟩ = false := frozen_of_row _ _ 3 _ _ hca
          obtain ⟨wb, hwb⟩ : ∃ y, y = wa.setCell ⟨w9.heap.size, 3, none⟩ (.slice A9 40 c9) := ⟨_, rfl⟩
          have hcb : wb.heap[w9.heap.size]? = some (.cells #[.int .i64 xk, .int .i64 xd, .int .i64 xa, .slice A9 40 c9] 36 (0, 0)) := by rw [hwb, heap_setCell_same wa w9.heap.size 3 _ _ _ hca]; rfl
          have HBB : Hid (Below w9.heap.size w9 wb) := hid (by rw [hwb]; exact HBA.out.setCell (Nat.le_refl _) _)
          have k0 : wb.cell? ⟨w9.heap.size, 0, none⟩ = some (.int .i64 xk) := by rw [cell_of_row _ _ 0 _ _ (0, 0) hcb]; rfl
          have k1 : wb.cell? ⟨w9.heap.size, 1, none⟩ = some (.int .i64 xd) := by rw [cell_of_row _ _ 1 _ _ (0, 0) hcb]; rfl
          have k2 : wb.cell? ⟨w9.heap.size, 2, none⟩ = some (.int .i64 xa) := by rw [cell_of_row _ _ 2 _ _ (0, 0) hcb]; rfl
          have k3 : wb.cell? ⟨w9.heap.size, 3, none⟩ = some (.slice A9 40 c9) := by rw [cell_of_row _ _ 3 _ _ (0, 0) hcb]; rfl
          have HB5B := hid (HB9.out.trans (HBB.out.mono HB9.out.size))
          have HBJB := hid (HB5.out.trans (HB5B.out.mono (Nat.le_of_lt HS5.out)))
          have HOB := hid (HO9.out.below HBB.out)
          have HBTB := hid (HBT.out.below HBJB.out)
          have HBWB := hid (HB.out.trans (HBJB.out.mono HB.out.size))
          have HDO := hid (does_any HBTB.out HBWB.out.size (by omega) xk xd xa A9 (xl.take 40) 40 c9 HLC.out hc9 hm9 (has_counts _) (ElsQ.of_own (Q := fun x => w5.heap.size ≤ x) (show Own (E := encCr) wb w5.heap.size 53 (.slice A9 (xl.take 40).length c9) (xl.take 40) from by rw [HLC.out]; exact HOB.out) (fun _ hb => hb)) (fun x hx hp => by have := HBT.out.dom x hp; have := HS5.out; omega))
          have HWA := hid hwa
          have HWB := hid hwb
          clear hwa hwb hca hcb i3
          go_upto_region 14 with fail
          rw [← HWA.out]
          go_upto_region 15 with fail
          rw [← HWB.out]
          clear l0 l1 l2 l3 a3 af
          go_wp2_with fail
          refine HDO.out.mono ?_
          rintro er wd ⟨rfl, P2, R2, q1, q2, q3⟩
          obtain ⟨b2, hb2⟩ : ∃ y, b.does ⟨xk, xd, xa, xl.take 40⟩ = y := ⟨_, rfl⟩
          obtain ⟨r2, hr2⟩ : ∃ y, r.does ⟨xk, xd, xa, xl.take 40⟩ = y := ⟨_, rfl⟩
          rw [hb2, hr2] at q1
          have HSB : Hid (w5.heap.size ≤ wb.heap.size) := hid HB5B.out.size
          have HOP : Hid (OpN wd 53 9 w5.heap.size wb.heap.size A9 40) := hid ((Own.opN (E := encCr) HOB.out HLC.out (Nat.le_refl _) (Nat.le_refl _)).grew q3 (fun x h1 h2 hx => by have := HBT.out.dom x hx; have := HS5.out; omega))
          have HOUT : Hid (∀ x, w5.heap.size ≤ x → x < wb.heap.size → ¬ (P2 x ∨ R2 x)) := hid (fun x h1 h2 hx => by
            rcases q2 x hx with h | h
            · have := HBT.out.dom x h; have := HS5.out; omega
            · omega)
          have HLO : Hid (w.heap.size ≤ w5.heap.size) := hid HB05.out.size
          have HBW := hid (HBWB.out.trans (HBTB.out.blw HBWB.out.size q3))
          have HSZ : Hid (wb.heap.size ≤ wd.heap.size) := hid q3.size
          clear HBT
          have HBT := hid q1
          clear q1 q2 q3 hb2 hr2 k0 k1 k2 k3 HDO HOB HBTB HBWB HON HRD HO9 HC9 hls hfl hb55 hlc
          go_wp2_with fail
          go_loopw [14] (fun v wr => ∃ i1 : Nat, v = .int .i64 (i1 : Int) ∧ i1 ≤ 40 ∧ Hid (OpN wr 53 9 w5.heap.size wb.heap.size A9 40) ∧ Hid (Bth wr w.heap.size P2 R2 gs gr2 (2 * k + 2) b2 r2) ∧ Hid (Below w.heap.size w wr) ∧ Hid (wb.heap.size ≤ wr.heap.size)) (fun v _ => 40 - (intOf v).toNat)
          case atStart => exact ⟨0, rfl, Nat.zero_le _, HOP, HBT, HBW, HSZ⟩
          case round =>
            clear HOP HBT HBW HSZ
            obtain ⟨wj2, hwj2⟩ : ∃ x, x = wr := ⟨_, rfl⟩
            subst hwj2
            obtain ⟨i1, rfl, hi, HOP, HBT, HBW, HSZ⟩ := hrel
            have hi0 : (0 : Int) ≤ (i1 : Int) := Int.natCast_nonneg _
            by_cases hlt : i1 < 40
            · have hi1 : (i1 : Int) < (40 : Int) := by omega
              obtain ⟨gr, hA, hgB, hgU, cs, hrow, hsz⟩ := HOP.out (by omega)
              subst hA
              have HGR := hid (And.intro hgB hgU)
              have ai := addr_rowE gr (i1 * 9)
              have f0 := frozen_of_row wj2 gr (i1 * 9) _ _ hrow
              obtain ⟨y0, hy0⟩ : ∃ y, wj2.cell? ⟨gr, i1 * 9, none⟩ = some y := ⟨_, (cell_of_row wj2 gr (i1 * 9) _ _ (0, 0) hrow).trans (Array.getElem?_eq_getElem (by omega))⟩
              have f1 := frozen_of_row wj2 gr (i1 * 9 + 1) _ _ hrow
              obtain ⟨y1, hy1⟩ : ∃ y, wj2.cell? ⟨gr, i1 * 9 + 1, none⟩ = some y := ⟨_, (cell_of_row wj2 gr (i1 * 9 + 1) _ _ (0, 0) hrow).trans (Array.getElem?_eq_getElem (by omega))⟩
              have f2 := frozen_of_row wj2 gr (i1 * 9 + 2) _ _ hrow
              obtain ⟨y2, hy2⟩ : ∃ y, wj2.cell? ⟨gr, i1 * 9 + 2, none⟩ = some y := ⟨_, (cell_of_row wj2 gr (i1 * 9 + 2) _ _ (0, 0) hrow).trans (Array.getElem?_eq_getElem (by omega))⟩
              have f3 := frozen_of_row wj2 gr (i1 * 9 + 3) _ _ hrow
              obtain ⟨y3, hy3⟩ : ∃ y, wj2.cell? ⟨gr, i1 * 9 + 3, none⟩ = some y := ⟨_, (cell_of_row wj2 gr (i1 * 9 + 3) _ _ (0, 0) hrow).trans (Array.getElem?_eq_getElem (by omega))⟩
              have f4 := frozen_of_row wj2 gr (i1 * 9 + 4) _ _ hrow
              obtain ⟨y4, hy4⟩ : ∃ y, wj2.cell? ⟨gr, i1 * 9 + 4, none⟩ = some y := ⟨_, (cell_of_row wj2 gr (i1 * 9 + 4) _ _ (0, 0) hrow).trans (Array.getElem?_eq_getElem (by omega))⟩
              have f5 := frozen_of_row wj2 gr (i1 * 9 + 5) _ _ hrow
              obtain ⟨y5, hy5⟩ : ∃ y, wj2.cell? ⟨gr, i1 * 9 + 5, none⟩ = some y := ⟨_, (cell_of_row wj2 gr (i1 * 9 + 5) _ _ (0, 0) hrow).trans (Array.getElem?_eq_getElem (by omega))⟩
              have f6 := frozen_of_row wj2 gr (i1 * 9 + 6) _ _ hrow
              obtain ⟨y6, hy6⟩ : ∃ y, wj2.cell? ⟨gr, i1 * 9 + 6, none⟩ = some y := ⟨_, (cell_of_row wj2 gr (i1 * 9 + 6) _ _ (0, 0) hrow).trans (Array.getElem?_eq_getElem (by omega))⟩
              have f7 := frozen_of_row wj2 gr (i1 * 9 + 7) _ _ hrow
              obtain ⟨y7, hy7⟩ : ∃ y, wj2.cell? ⟨gr, i1 * 9 + 7, none⟩ = some y := ⟨_, (cell_of_row wj2 gr (i1 * 9 + 7) _ _ (0, 0) hrow).trans (Array.getElem?_eq_getElem (by omega))⟩
              have f8 := frozen_of_row wj2 gr (i1 * 9 + 8) _ _ hrow
              obtain ⟨y8, hy8⟩ : ∃ y, wj2.cell? ⟨gr, i1 * 9 + 8, none⟩ = some y := ⟨_, (cell_of_row wj2 gr (i1 * 9 + 8) _ _ (0, 0) hrow).trans (Array.getElem?_eq_getElem (by omega))⟩
              obtain ⟨wz, hwz⟩ : ∃ y, y = (((((((((wj2.setCell ⟨gr, i1 * 9, none⟩ (.int .i64 0)).setCell ⟨gr, i1 * 9 + 1, none⟩ (.int .i64 0)).setCell ⟨gr, i1 * 9 + 2, none⟩ (.string ⟨#[]⟩)).setCell ⟨gr, i1 * 9 + 3, none⟩ (.int .i64 0)).setCell ⟨gr, i1 * 9 + 4, none⟩ (.string ⟨#[]⟩)).setCell ⟨gr, i1 * 9 + 5, none⟩ (.string ⟨#[]⟩)).setCell ⟨gr, i1 * 9 + 6, none⟩ (.string ⟨#[]⟩)).setCell ⟨gr, i1 * 9 + 7, none⟩ (.string ⟨#[]⟩)).setCell ⟨gr, i1 * 9 + 8, none⟩ (.string ⟨#[]⟩)) := ⟨_, rfl⟩
              have HOPZ : Hid (OpN wz 53 9 w5.heap.size wb.heap.size (some ⟨gr, 0, none⟩) 40) := hid (by rw [hwz]; exact (((((((((HOP.out.set gr (i1 * 9) (.int .i64 0)).set gr (i1 * 9 + 1) (.int .i64 0)).set gr (i1 * 9 + 2) (.string ⟨#[]⟩)).set gr (i1 * 9 + 3) (.int .i64 0)).set gr (i1 * 9 + 4) (.string ⟨#[]⟩)).set gr (i1 * 9 + 5) (.string ⟨#[]⟩)).set gr (i1 * 9 + 6) (.string ⟨#[]⟩)).set gr (i1 * 9 + 7) (.string ⟨#[]⟩)).set gr (i1 * 9 + 8) (.string ⟨#[]⟩)))
              have hgz : Grew wj2 wz (fun x => x = gr) := by rw [hwz]; exact (((((((((Grew.refl wj2 (fun x => x = gr)).trans (Grew.of_gro (gro_set1 _ _ _ _) rfl)).trans (Grew.of_gro (gro_set1 _ _ _ _) rfl)).trans (Grew.of_gro (gro_set1 _ _ _ _) rfl)).trans (Grew.of_gro (gro_set1 _ _ _ _) rfl)).trans (Grew.of_gro (gro_set1 _ _ _ _) rfl)).trans (Grew.of_gro (gro_set1 _ _ _ _) rfl)).trans (Grew.of_gro (gro_set1 _ _ _ _) rfl)).trans (Grew.of_gro (gro_set1 _ _ _ _) rfl)).trans (Grew.of_gro (gro_set1 _ _ _ _) rfl)
              have HNP : Hid (¬ (P2 gr ∨ R2 gr)) := hid (HOUT.out gr hgB hgU)
              have HBTZ := hid (HBT.out.grew hgz (fun x hx => by subst hx; exact ⟨fun h => HNP.out (.inl h), fun h => HNP.out (.inr h)⟩))
              have HBWZ := hid (HBW.out.trans (hgz.below HBW.out.size (fun x hx => by subst hx; exact Nat.le_trans HLO.out hgB)))
              have HSZZ := hid (Nat.le_trans HSZ.out hgz.size)
              have HWZ := hid hwz
              clear hwz hrow hsz hgB hgU hgz
              go_wp2_with fail
              rw [← HWZ.out]
              go_roundw
              case rel => exact ⟨i1 + 1, by go_num, by omega, HOPZ, HBTZ, HBWZ, HSZZ⟩
              case measure => simp [intOf]; omega
            · have hiN : i1 = 40 := by omega
              have hi1 : ¬ (i1 : Int) < (40 : Int) := by omega
              clear hlt HOP HOUT HLO
              have HHD := hid (held_any HBT.out.s HBT.out.inv.le now)
              have HDOM := hid HBT.out.dom
              have HLO : Hid (w.heap.size ≤ wj2.heap.size) := hid HBW.out.size
              obtain ⟨wk, hwk⟩ : ∃ x, x = wj2 := ⟨_, rfl⟩
              subst hwk
              go_wp2_with fail
              refine HHD.out.mono ?_
              rintro er w20 ⟨A20, n20, c20, rfl, hn20, hc20, hm20, hb20, ho20, bl20⟩
              have HOP : Hid (OpN w20 55 10 wk.heap.size w20.heap.size A20 n20) := hid (Own.opN (E := encL) ho20 hn20 (Nat.le_refl _) (Nat.le_refl _))
              have HOUT : Hid (∀ x, wk.heap.size ≤ x → x < w20.heap.size → ¬ (P2 x ∨ R2 x)) := hid (fun x h1 _ hx => by have := HDOM.out x hx; omega)
              have HBT' := hid (HBT.out.below bl20)
              have HBW' := hid (HBW.out.trans (bl20.mono HBW.out.size))
              have HSZ' : Hid (w20.heap.size ≤ w20.heap.size) := hid (Nat.le_refl _)
              clear HBT HBW HSZ hn20 ho20 bl20 HHD HDOM
              have HBT := HBT'
              have HBW := HBW'
              have HSZ := HSZ'
              clear HBT' HBW' HSZ'
              go_wp2_with fail
              go_loopw [16] (fun v wr => ∃ i2 : Nat, v = .int .i64 (i2 : Int) ∧ i2 ≤ n20 ∧ Hid (OpN wr 55 10 wk.heap.size w20.heap.size A20 n20) ∧ Hid (Bth wr w.heap.size P2 R2 gs gr2 (2 * k + 2) b2 r2) ∧ Hid (Below w.heap.size w wr) ∧ Hid (w20.heap.size ≤ wr.heap.size)) (fun v _ => n20 - (intOf v).toNat)
              case atStart => exact ⟨0, rfl, Nat.zero_le _, HOP, HBT, HBW, HSZ⟩
              case round =>
                clear HOP HBT HBW HSZ
                obtain ⟨wj2, hwj2⟩ : ∃ x, x = wr := ⟨_, rfl⟩
                subst hwj2
                obtain ⟨i2, rfl, hi, HOP, HBT, HBW, HSZ⟩ := hrel
                have hi0 : (0 : Int) ≤ (i2 : Int) := Int.natCast_nonneg _
                by_cases hlt : i2 < n20
                · have hi1 : (i2 : Int) < (n20 : Int) := by omega
                  obtain ⟨gr, hA, hgB, hgU, cs, hrow, hsz⟩ := HOP.out (by omega)
                  subst hA
                  have HGR := hid (And.intro hgB hgU)
                  have ai := addr_rowE gr (i2 * 10)
                  have f0 := frozen_of_row wj2 gr (i2 * 10) _ _ hrow
                  obtain ⟨y0, hy0⟩ : ∃ y, wj2.cell? ⟨gr, i2 * 10, none⟩ = some y := ⟨_, (cell_of_row wj2 gr (i2 * 10) _ _ (0, 0) hrow).trans (Array.getElem?_eq_getElem (by omega))⟩
                  have f1 := frozen_of_row wj2 gr (i2 * 10 + 1) _ _ hrow
                  obtain ⟨y1, hy1⟩ : ∃ y, wj2.cell? ⟨gr, i2 * 10 + 1, none⟩ = some y := ⟨_, (cell_of_row wj2 gr (i2 * 10 + 1) _ _ (0, 0) hrow).trans (Array.getElem?_eq_getElem (by omega))⟩
                  have f2 := frozen_of_row wj2 gr (i2 * 10 + 2) _ _ hrow
                  obtain ⟨y2, hy2⟩ : ∃ y, wj2.cell? ⟨gr, i2 * 10 + 2, none⟩ = some y := ⟨_, (cell_of_row wj2 gr (i2 * 10 + 2) _ _ (0, 0) hrow).trans (Array.getElem?_eq_getElem (by omega))⟩
                  have f3 := frozen_of_row wj2 gr (i2 * 10 + 3) _ _ hrow
                  obtain ⟨y3, hy3⟩ : ∃ y, wj2.cell? ⟨gr, i2 * 10 + 3, none⟩ = some y := ⟨_, (cell_of_row wj2 gr (i2 * 10 + 3) _ _ (0, 0) hrow).trans (Array.getElem?_eq_getElem (by omega))⟩
                  have f4 := frozen_of_row wj2 gr (i2 * 10 + 4) _ _ hrow
                  obtain ⟨y4, hy4⟩ : ∃ y, wj2.cell? ⟨gr, i2 * 10 + 4, none⟩ = some y := ⟨_, (cell_of_row wj2 gr (i2 * 10 + 4) _ _ (0, 0) hrow).trans (Array.getElem?_eq_getElem (by omega))⟩
                  have f5 := frozen_of_row wj2 gr (i2 * 10 + 5) _ _ hrow
                  obtain ⟨y5, hy5⟩ : ∃ y, wj2.cell? ⟨gr, i2 * 10 + 5, none⟩ = some y := ⟨_, (cell_of_row wj2 gr (i2 * 10 + 5) _ _ (0, 0) hrow).trans (Array.getElem?_eq_getElem (by omega))⟩
                  have f6 := frozen_of_row wj2 gr (i2 * 10 + 6) _ _ hrow
                  obtain ⟨y6, hy6⟩ : ∃ y, wj2.cell? ⟨gr, i2 * 10 + 6, none⟩ = some y := ⟨_, (cell_of_row wj2 gr (i2 * 10 + 6) _ _ (0, 0) hrow).trans (Array.getElem?_eq_getElem (by omega))⟩
                  have f7 := frozen_of_row wj2 gr (i2 * 10 + 7) _ _ hrow
                  obtain ⟨y7, hy7⟩ : ∃ y, wj2.cell? ⟨gr, i2 * 10 + 7, none⟩ = some y := ⟨_, (cell_of_row wj2 gr (i2 * 10 + 7) _ _ (0, 0) hrow).trans (Array.getElem?_eq_getElem (by omega))⟩
                  have f8 := frozen_of_row wj2 gr (i2 * 10 + 8) _ _ hrow
                  obtain ⟨y8, hy8⟩ : ∃ y, wj2.cell? ⟨gr, i2 * 10 + 8, none⟩ = some y := ⟨_, (cell_of_row wj2 gr (i2 * 10 + 8) _ _ (0, 0) hrow).trans (Array.getElem?_eq_getElem (by omega))⟩
                  have f9 := frozen_of_row wj2 gr (i2 * 10 + 9) _ _ hrow
                  obtain ⟨y9, hy9⟩ : ∃ y, wj2.cell? ⟨gr, i2 * 10 + 9, none⟩ = some y := ⟨_, (cell_of_row wj2 gr (i2 * 10 + 9) _ _ (0, 0) hrow).trans (Array.getElem?_eq_getElem (by omega))⟩
                  obtain ⟨wz, hwz⟩ : ∃ y, y = ((((((((((wj2.setCell ⟨gr, i2 * 10, none⟩ (.int .i64 0)).setCell ⟨gr, i2 * 10 + 1, none⟩ (.int .i64 0)).setCell ⟨gr, i2 * 10 + 2, none⟩ (.string ⟨#[]⟩)).setCell ⟨gr, i2 * 10 + 3, none⟩ (.int .i64 0)).setCell ⟨gr, i2 * 10 + 4, none⟩ (.string ⟨#[]⟩)).setCell ⟨gr, i2 * 10 + 5, none⟩ (.string ⟨#[]⟩)).setCell ⟨gr, i2 * 10 + 6, none⟩ (.string ⟨#[]⟩)).setCell ⟨gr, i2 * 10 + 7, none⟩ (.string ⟨#[]⟩)).setCell ⟨gr, i2 * 10 + 8, none⟩ (.string ⟨#[]⟩)).setCell ⟨gr, i2 * 10 + 9, none⟩ (.int .i64 0)) := ⟨_, rfl⟩
                  have HOPZ : Hid (OpN wz 55 10 wk.heap.size w20.heap.size (some ⟨gr, 0, none⟩) n20) := hid (by rw [hwz]; exact ((((((((((HOP.out.set gr (i2 * 10) (.int .i64 0)).set gr (i2 * 10 + 1) (.int .i64 0)).set gr (i2 * 10 + 2) (.string ⟨#[]⟩)).set gr (i2 * 10 + 3) (.int .i64 0)).set gr (i2 * 10 + 4) (.string ⟨#[]⟩)).set gr (i2 * 10 + 5) (.string ⟨#[]⟩)).set gr (i2 * 10 + 6) (.string ⟨#[]⟩)).set gr (i2 * 10 + 7) (.string ⟨#[]⟩)).set gr (i2 * 10 + 8) (.string ⟨#[]⟩)).set gr (i2 * 10 + 9) (.int .i64 0)))
                  have hgz : Grew wj2 wz (fun x => x = gr) := by rw [hwz]; exact ((((((((((Grew.refl wj2 (fun x => x = gr)).trans (Grew.of_gro (gro_set1 _ _ _ _) rfl)).trans (Grew.of_gro (gro_set1 _ _ _ _) rfl)).trans (Grew.of_gro (gro_set1 _ _ _ _) rfl)).trans (Grew.of_gro (gro_set1 _ _ _ _) rfl)).trans (Grew.of_gro (gro_set1 _ _ _ _) rfl)).trans (Grew.of_gro (gro_set1 _ _ _ _) rfl)).trans (Grew.of_gro (gro_set1 _ _ _ _) rfl)).trans (Grew.of_gro (gro_set1 _ _ _ _) rfl)).trans (Grew.of_gro (gro_set1 _ _ _ _) rfl)).trans (Grew.of_gro (gro_set1 _ _ _ _) rfl)
                  have HNP : Hid (¬ (P2 gr ∨ R2 gr)) := hid (HOUT.out gr hgB hgU)
                  have HBTZ := hid (HBT.out.grew hgz (fun x hx => by subst hx; exact ⟨fun h => HNP.out (.inl h), fun h => HNP.out (.inr h)⟩))
                  have HBWZ := hid (HBW.out.trans (hgz.below HBW.out.size (fun x hx => by subst hx; exact Nat.le_trans HLO.out hgB)))
                  have HSZZ := hid (Nat.le_trans HSZ.out hgz.size)
                  have HWZ := hid hwz
                  clear hwz hrow hsz hgB hgU hgz
                  go_wp2_with fail
                  rw [← HWZ.out]
                  go_roundw
                  case rel => exact ⟨i2 + 1, by go_num, by omega, HOPZ, HBTZ, HBWZ, HSZZ⟩
                  case measure => simp [intOf]; omega
                · have hiN : i2 = n20 := by omega
                  have hi1 : ¬ (i2 : Int) < (n20 : Int) := by omega
                  clear hlt HOP HOUT HLO
                  go_wp2_with fail
                  go_roundw
                  case rel => exact ⟨k + 1, by omega, by omega, by go_num, hid ⟨_, _, _, _, by rw [show 2 * (k + 1) = 2 * k + 2 by omega]; exact HBT.out⟩, HBW⟩
                  case measure => simp [intOf]; omega
        · -- whole
          have hlt2 : ¬ (40 : Int) < (cn : Int) := by omega
          obtain ⟨w5, hw5⟩ : ∃ y, y = w4 := ⟨_, rfl⟩
          have hc5 : w5.heap[wj.heap.size]? = some (.cells #[.int .i64 xk, .int .i64 xd, .int .i64 xa, .slice CA cn cc] 36 (0, 0)) := by rw [hw5]; exact hc4
          have HB5 : Hid (Below wj.heap.size wj w5) := hid (by rw [hw5]; exact HB4.out)
          have HLC : Hid ((xl.take 40).length = cn) := hid (by rw [List.length_take, hcl]; omega)
          have hm40 : cn ≤ 40 := by omega
          have HS5 : Hid (wj.heap.size < w5.heap.size) := hid (Array.getElem?_eq_some_iff.1 hc5).1
          have HC5 := hid hc5
          have HW5 := hid hw5
          have HB05 := hid (HB.out.trans (HB5.out.mono HB.out.size))
          have hls : w.heap.size ≤ w5.heap.size := HB05.out.size
          have i3 : w5.cell? ⟨wj.heap.size, 3, none⟩ = some (.slice CA cn cc) := by rw [cell_of_row _ _ 3 _ _ (0, 0) hc5]; rfl
          have HRD := hid ((((hce.head (hi := 40)).below (HB5.out.mono HB.out.size)).reads))
          have HON := hid (Own.nil (E := encCr) w5 w5.heap.size 53)
          have hfl : ([] : List Crd).length + cn ≤ 1000000000000 := by simp only [List.length_nil]; omega
          have hb55 : w5.heap.size ≤ w5.heap.size := Nat.le_refl _
          have hlc : (xl.take 40).length = cn := HLC.out
          have HB55 := hid (Below.refl w5.heap.size w5)
          clear hw5 hc5 hc4 hce hcl hw4
          go_upto_region 9 with fail
          rw [← HW4.out]

          rw [← HW5.out]
          go_upto_region 13 with (first | (at_builtin; refine wpList_appL (E := encCr) rfl slCr (.tmp 48) (.tmp 50) rfl (B := w5.heap.size) (v := .slice none 0 0) (l := []) HON.out rfl (A := CA) (m := cn) (c := cc) (xl.take 40) rfl hlc HRD.out hfl (by omega) hb55 ?_; intro A9 c9 w9 ho9 hg9 he9; have HO9 := hid ho9; have HB9 := hid (HB55.out.grown hg9 hb55 (fun g e => by cases e)); clear ho9 hg9 he9) | go_in)
          simp only [List.length_nil, Nat.zero_add, List.nil_append] at HO9
          obtain ⟨hc9, hm9⟩ : cn ≤ c9 ∧ c9 ≤ 9223372036854775807 := by
            obtain ⟨A', c', e, h1, h2, -⟩ := HO9.out.els
            simp only [Value.slice.injEq] at e
            obtain ⟨-, h3, rfl⟩ := e
            exact ⟨by omega, h2⟩
          have HC9 := hid ((HB9.out.block _ HS5.out).trans HC5.out)
          have l0 : w9.cell? ⟨wj.heap.size, 0, none⟩ = some (.int .i64 xk) := by rw [cell_of_row _ _ 0 _ _ (0, 0) HC9.out]; rfl
          have l1 : w9.cell? ⟨wj.heap.size, 1, none⟩ = some (.int .i64 xd) := by rw [cell_of_row _ _ 1 _ _ (0, 0) HC9.out]; rfl
          have l2 : w9.cell? ⟨wj.heap.size, 2, none⟩ = some (.int .i64 xa) := by rw [cell_of_row _ _ 2 _ _ (0, 0) HC9.out]; rfl
          have l3 : w9.cell? ⟨wj.heap.size, 3, none⟩ = some (.slice CA cn cc) := by rw [cell_of_row _ _ 3 _ _ (0, 0) HC9.out]; rfl
          obtain ⟨wa, hwa⟩ : ∃ y, y = w9.alloc (.cells #[.int .i64 xk, .int .i64 xd, .int .i64 xa, .slice CA cn cc] 36) := ⟨_, rfl⟩
          have hca : wa.heap[w9.heap.size]? = some (.cells #[.int .i64 xk, .int .i64 xd, .int .i64 xa, .slice CA cn cc] 36 (0, 0)) := by rw [hwa]; exact heap_alloc_new w9 _
          have HBA : Hid (Below w9.heap.size w9 wa) := hid (by rw [hwa]; exact (Below.refl _ _).alloc (Nat.le_refl _) _)
          have a3 : wa.cell? ⟨w9.heap.size, 3, none⟩ = some (.slice CA cn cc) := by rw [cell_of_row _ _ 3 _ _ (0, 0) hca]; rfl
          have af : wa.frozen? ⟨w9.heap.size, 3, none⟩ = false := frozen_of_row _ _ 3 _ _ hca
          obtain ⟨wb, hwb⟩ : ∃ y, y = wa.setCell ⟨w9.heap.size, 3, none⟩ (.slice A9 cn c9) := ⟨_, rfl⟩
          have hcb : wb.heap[w9.heap.size]? = some (.cells #[.int .i64 xk, .int .i64 xd, .int .i64 xa, .slice A9 cn c9] 36 (0, 0)) := by rw [hwb, heap_setCell_same wa w9.heap.size 3 _ _ _ hca]; rfl
          have HBB : Hid (Below w9.heap.size w9 wb) := hid (by rw [hwb]; exact HBA.out.setCell (Nat.le_refl _) _)
          have k0 : wb.cell? ⟨w9.heap.size, 0, none⟩ = some (.int .i64 xk) := by rw [cell_of_row _ _ 0 _ _ (0, 0) hcb]; rfl
          have k1 : wb.cell? ⟨w9.heap.size, 1, none⟩ = some (.int .i64 xd) := by rw [cell_of_row _ _ 1 _ _ (0, 0) hcb]; rfl
          have k2 : wb.cell? ⟨w9.heap.size, 2, none⟩ = some (.int .i64 xa) := by rw [cell_of_row _ _ 2 _ _ (0, 0) hcb]; rfl
          have k3 : wb.cell? ⟨w9.heap.size, 3, none⟩ = some (.slice A9 cn c9) := by rw [cell_of_row _ _ 3 _ _ (0, 0) hcb]; rfl
          have HB5B := hid (HB9.out.trans (HBB.out.mono HB9.out.size))
          have HBJB := hid (HB5.out.trans (HB5B.out.mono (Nat.le_of_lt HS5.out)))
          have HOB := hid (HO9.out.below HBB.out)
          have HBTB := hid (HBT.out.below HBJB.out)
          have HBWB := hid (HB.out.trans (HBJB.out.mono HB.out.size))
          have HDO := hid (does_any HBTB.out HBWB.out.size (by omega) xk xd xa A9 (xl.take 40) cn c9 HLC.out hc9 hm9 (has_counts _) (ElsQ.of_own (Q := fun x => w5.heap.size ≤ x) (show Own (E := encCr) wb w5.heap.size 53 (.slice A9 (xl.take 40).length c9) (xl.take 40) from by rw [HLC.out]; exact HOB.out) (fun _ hb => hb)) (fun x hx hp => by have := HBT.out.dom x hp; have := HS5.out; omega))
          have HWA := hid hwa
          have HWB := hid hwb
          clear hwa hwb hca hcb i3
          go_upto_region 14 with fail
          rw [← HWA.out]
          go_upto_region 15 with fail
          rw [← HWB.out]
          clear l0 l1 l2 l3 a3 af
          go_wp2_with fail
          refine HDO.out.mono ?_
          rintro er wd ⟨rfl, P2, R2, q1, q2, q3⟩
          obtain ⟨b2, hb2⟩ : ∃ y, b.does ⟨xk, xd, xa, xl.take 40⟩ = y := ⟨_, rfl⟩
          obtain ⟨r2, hr2⟩ : ∃ y, r.does ⟨xk, xd, xa, xl.take 40⟩ = y := ⟨_, rfl⟩
          rw [hb2, hr2] at q1
          have HSB : Hid (w5.heap.size ≤ wb.heap.size) := hid HB5B.out.size
          have HOP : Hid (OpN wd 53 9 w5.heap.size wb.heap.size A9 cn) := hid ((Own.opN (E := encCr) HOB.out HLC.out (Nat.le_refl _) (Nat.le_refl _)).grew q3 (fun x h1 h2 hx => by have := HBT.out.dom x hx; have := HS5.out; omega))
          have HOUT : Hid (∀ x, w5.heap.size ≤ x → x < wb.heap.size → ¬ (P2 x ∨ R2 x)) := hid (fun x h1 h2 hx => by
            rcases q2 x hx with h | h
            · have := HBT.out.dom x h; have := HS5.out; omega
            · omega)
          have HLO : Hid (w.heap.size ≤ w5.heap.size) := hid HB05.out.size
          have HBW := hid (HBWB.out.trans (HBTB.out.blw HBWB.out.size q3))
          have HSZ : Hid (wb.heap.size ≤ wd.heap.size) := hid q3.size
          clear HBT
          have HBT := hid q1
          clear q1 q2 q3 hb2 hr2 k0 k1 k2 k3 HDO HOB HBTB HBWB HON HRD HO9 HC9 hls hfl hb55 hlc
          go_wp2_with fail
          go_loopw [14] (fun v wr => ∃ i1 : Nat, v = .int .i64 (i1 : Int) ∧ i1 ≤ cn ∧ Hid (OpN wr 53 9 w5.heap.size wb.heap.size A9 cn) ∧ Hid (Bth wr w.heap.size P2 R2 gs gr2 (2 * k + 2) b2 r2) ∧ Hid (Below w.heap.size w wr) ∧ Hid (wb.heap.size ≤ wr.heap.size)) (fun v _ => cn - (intOf v).toNat)
          case atStart => exact ⟨0, rfl, Nat.zero_le _, HOP, HBT, HBW, HSZ⟩
          case round =>
            clear HOP HBT HBW HSZ
            obtain ⟨wj2, hwj2⟩ : ∃ x, x = wr := ⟨_, rfl⟩
            subst hwj2
            obtain ⟨i1, rfl, hi, HOP, HBT, HBW, HSZ⟩ := hrel
            have hi0 : (0 : Int) ≤ (i1 : Int) := Int.natCast_nonneg _
            by_cases hlt : i1 < cn
            · have hi1 : (i1 : Int) < (cn : Int) := by omega
              obtain ⟨gr, hA, hgB, hgU, cs, hrow, hsz⟩ := HOP.out (by omega)
              subst hA
              have HGR := hid (And.intro hgB hgU)
              have ai := addr_rowE gr (i1 * 9)
              have f0 := frozen_of_row wj2 gr (i1 * 9) _ _ hrow
              obtain ⟨y0, hy0⟩ : ∃ y, wj2.cell? ⟨gr, i1 * 9, none⟩ = some y := ⟨_, (cell_of_row wj2 gr (i1 * 9) _ _ (0, 0) hrow).trans (Array.getElem?_eq_getElem (by omega))⟩
              have f1 := frozen_of_row wj2 gr (i1 * 9 + 1) _ _ hrow
              obtain ⟨y1, hy1⟩ : ∃ y, wj2.cell? ⟨gr, i1 * 9 + 1, none⟩ = some y := ⟨_, (cell_of_row wj2 gr (i1 * 9 + 1) _ _ (0, 0) hrow).trans (Array.getElem?_eq_getElem (by omega))⟩
              have f2 := frozen_of_row wj2 gr (i1 * 9 + 2) _ _ hrow
              obtain ⟨y2, hy2⟩ : ∃ y, wj2.cell? ⟨gr, i1 * 9 + 2, none⟩ = some y := ⟨_, (cell_of_row wj2 gr (i1 * 9 + 2) _ _ (0, 0) hrow).trans (Array.getElem?_eq_getElem (by omega))⟩
              have f3 := frozen_of_row wj2 gr (i1 * 9 + 3) _ _ hrow
              obtain ⟨y3, hy3⟩ : ∃ y, wj2.cell? ⟨gr, i1 * 9 + 3, none⟩ = some y := ⟨_, (cell_of_row wj2 gr (i1 * 9 + 3) _ _ (0, 0) hrow).trans (Array.getElem?_eq_getElem (by omega))⟩
              have f4 := frozen_of_row wj2 gr (i1 * 9 + 4) _ _ hrow
              obtain ⟨y4, hy4⟩ : ∃ y, wj2.cell? ⟨gr, i1 * 9 + 4, none⟩ = some y := ⟨_, (cell_of_row wj2 gr (i1 * 9 + 4) _ _ (0, 0) hrow).trans (Array.getElem?_eq_getElem (by omega))⟩
              have f5 := frozen_of_row wj2 gr (i1 * 9 + 5) _ _ hrow
              obtain ⟨y5, hy5⟩ : ∃ y, wj2.cell? ⟨gr, i1 * 9 + 5, none⟩ = some y := ⟨_, (cell_of_row wj2 gr (i1 * 9 + 5) _ _ (0, 0) hrow).trans (Array.getElem?_eq_getElem (by omega))⟩
              have f6 := frozen_of_row wj2 gr (i1 * 9 + 6) _ _ hrow
              obtain ⟨y6, hy6⟩ : ∃ y, wj2.cell? ⟨gr, i1 * 9 + 6, none⟩ = some y := ⟨_, (cell_of_row wj2 gr (i1 * 9 + 6) _ _ (0, 0) hrow).trans (Array.getElem?_eq_getElem (by omega))⟩
              have f7 := frozen_of_row wj2 gr (i1 * 9 + 7) _ _ hrow
              obtain ⟨y7, hy7⟩ : ∃ y, wj2.cell? ⟨gr, i1 * 9 + 7, none⟩ = some y := ⟨_, (cell_of_row wj2 gr (i1 * 9 + 7) _ _ (0, 0) hrow).trans (Array.getElem?_eq_getElem (by omega))⟩
              have f8 := frozen_of_row wj2 gr (i1 * 9 + 8) _ _ hrow
              obtain ⟨y8, hy8⟩ : ∃ y, wj2.cell? ⟨gr, i1 * 9 + 8, none⟩ = some y := ⟨_, (cell_of_row wj2 gr (i1 * 9 + 8) _ _ (0, 0) hrow).trans (Array.getElem?_eq_getElem (by omega))⟩
              obtain ⟨wz, hwz⟩ : ∃ y, y = (((((((((wj2.setCell ⟨gr, i1 * 9, none⟩ (.int .i64 0)).setCell ⟨gr, i1 * 9 + 1, none⟩ (.int .i64 0)).setCell ⟨gr, i1 * 9 + 2, none⟩ (.string ⟨#[]⟩)).setCell ⟨gr, i1 * 9 + 3, none⟩ (.int .i64 0)).setCell ⟨gr, i1 * 9 + 4, none⟩ (.string ⟨#[]⟩)).setCell ⟨gr, i1 * 9 + 5, none⟩ (.string ⟨#[]⟩)).setCell ⟨gr, i1 * 9 + 6, none⟩ (.string ⟨#[]⟩)).setCell ⟨gr, i1 * 9 + 7, none⟩ (.string ⟨#[]⟩)).setCell ⟨gr, i1 * 9 + 8, none⟩ (.string ⟨#[]⟩)) := ⟨_, rfl⟩
              have HOPZ : Hid (OpN wz 53 9 w5.heap.size wb.heap.size (some ⟨gr, 0, none⟩) cn) := hid (by rw [hwz]; exact (((((((((HOP.out.set gr (i1 * 9) (.int .i64 0)).set gr (i1 * 9 + 1) (.int .i64 0)).set gr (i1 * 9 + 2) (.string ⟨#[]⟩)).set gr (i1 * 9 + 3) (.int .i64 0)).set gr (i1 * 9 + 4) (.string ⟨#[]⟩)).set gr (i1 * 9 + 5) (.string ⟨#[]⟩)).set gr (i1 * 9 + 6) (.string ⟨#[]⟩)).set gr (i1 * 9 + 7) (.string ⟨#[]⟩)).set gr (i1 * 9 + 8) (.string ⟨#[]⟩)))
              have hgz : Grew wj2 wz (fun x => x = gr) := by rw [hwz]; exact (((((((((Grew.refl wj2 (fun x => x = gr)).trans (Grew.of_gro (gro_set1 _ _ _ _) rfl)).trans (Grew.of_gro (gro_set1 _ _ _ _) rfl)).trans (Grew.of_gro (gro_set1 _ _ _ _) rfl)).trans (Grew.of_gro (gro_set1 _ _ _ _) rfl)).trans (Grew.of_gro (gro_set1 _ _ _ _) rfl)).trans (Grew.of_gro (gro_set1 _ _ _ _) rfl)).trans (Grew.of_gro (gro_set1 _ _ _ _) rfl)).trans (Grew.of_gro (gro_set1 _ _ _ _) rfl)).trans (Grew.of_gro (gro_set1 _ _ _ _) rfl)
              have HNP : Hid (¬ (P2 gr ∨ R2 gr)) := hid (HOUT.out gr hgB hgU)
              have HBTZ := hid (HBT.out.grew hgz (fun x hx => by subst hx; exact ⟨fun h => HNP.out (.inl h), fun h => HNP.out (.inr h)⟩))
              have HBWZ := hid (HBW.out.trans (hgz.below HBW.out.size (fun x hx => by subst hx; exact Nat.le_trans HLO.out hgB)))
              have HSZZ := hid (Nat.le_trans HSZ.out hgz.size)
              have HWZ := hid hwz
              clear hwz hrow hsz hgB hgU hgz
              go_wp2_with fail
              rw [← HWZ.out]
              go_roundw
              case rel => exact ⟨i1 + 1, by go_num, by omega, HOPZ, HBTZ, HBWZ, HSZZ⟩
              case measure => simp [intOf]; omega
            · have hiN : i1 = cn := by omega
              have hi1 : ¬ (i1 : Int) < (cn : Int) := by omega
              clear hlt HOP HOUT HLO
              have HHD := hid (held_any HBT.out.s HBT.out.inv.le now)
              have HDOM := hid HBT.out.dom
              have HLO : Hid (w.heap.size ≤ wj2.heap.size) := hid HBW.out.size
              obtain ⟨wk, hwk⟩ : ∃ x, x = wj2 := ⟨_, rfl⟩
              subst hwk
              go_wp2_with fail
              refine HHD.out.mono ?_
              rintro er w20 ⟨A20, n20, c20, rfl, hn20, hc20, hm20, hb20, ho20, bl20⟩
              have HOP : Hid (OpN w20 55 10 wk.heap.size w20.heap.size A20 n20) := hid (Own.opN (E := encL) ho20 hn20 (Nat.le_refl _) (Nat.le_refl _))
              have HOUT : Hid (∀ x, wk.heap.size ≤ x → x < w20.heap.size → ¬ (P2 x ∨ R2 x)) := hid (fun x h1 _ hx => by have := HDOM.out x hx; omega)
              have HBT' := hid (HBT.out.below bl20)
              have HBW' := hid (HBW.out.trans (bl20.mono HBW.out.size))
              have HSZ' : Hid (w20.heap.size ≤ w20.heap.size) := hid (Nat.le_refl _)
              clear HBT HBW HSZ hn20 ho20 bl20 HHD HDOM
              have HBT := HBT'
              have HBW := HBW'
              have HSZ := HSZ'
              clear HBT' HBW' HSZ'
              go_wp2_with fail
              go_loopw [16] (fun v wr => ∃ i2 : Nat, v = .int .i64 (i2 : Int) ∧ i2 ≤ n20 ∧ Hid (OpN wr 55 10 wk.heap.size w20.heap.size A20 n20) ∧ Hid (Bth wr w.heap.size P2 R2 gs gr2 (2 * k + 2) b2 r2) ∧ Hid (Below w.heap.size w wr) ∧ Hid (w20.heap.size ≤ wr.heap.size)) (fun v _ => n20 - (intOf v).toNat)
              case atStart => exact ⟨0, rfl, Nat.zero_le _, HOP, HBT, HBW, HSZ⟩
              case round =>
                clear HOP HBT HBW HSZ
                obtain ⟨wj2, hwj2⟩ : ∃ x, x = wr := ⟨_, rfl⟩
                subst hwj2
                obtain ⟨i2, rfl, hi, HOP, HBT, HBW, HSZ⟩ := hrel
                have hi0 : (0 : Int) ≤ (i2 : Int) := Int.natCast_nonneg _
                by_cases hlt : i2 < n20
                · have hi1 : (i2 : Int) < (n20 : Int) := by omega
                  obtain ⟨gr, hA, hgB, hgU, cs, hrow, hsz⟩ := HOP.out (by omega)
                  subst hA
                  have HGR := hid (And.intro hgB hgU)
                  have ai := addr_rowE gr (i2 * 10)
                  have f0 := frozen_of_row wj2 gr (i2 * 10) _ _ hrow
                  obtain ⟨y0, hy0⟩ : ∃ y, wj2.cell? ⟨gr, i2 * 10, none⟩ = some y := ⟨_, (cell_of_row wj2 gr (i2 * 10) _ _ (0, 0) hrow).trans (Array.getElem?_eq_getElem (by omega))⟩
                  have f1 := frozen_of_row wj2 gr (i2 * 10 + 1) _ _ hrow
                  obtain ⟨y1, hy1⟩ : ∃ y, wj2.cell? ⟨gr, i2 * 10 + 1, none⟩ = some y := ⟨_, (cell_of_row wj2 gr (i2 * 10 + 1) _ _ (0, 0) hrow).trans (Array.getElem?_eq_getElem (by omega))⟩
                  have f2 := frozen_of_row wj2 gr (i2 * 10 + 2) _ _ hrow
                  obtain ⟨y2, hy2⟩ : ∃ y, wj2.cell? ⟨gr, i2 * 10 + 2, none⟩ = some y := ⟨_, (cell_of_row wj2 gr (i2 * 10 + 2) _ _ (0, 0) hrow).trans (Array.getElem?_eq_getElem (by omega))⟩
                  have f3 := frozen_of_row wj2 gr (i2 * 10 + 3) _ _ hrow
                  obtain ⟨y3, hy3⟩ : ∃ y, wj2.cell? ⟨gr, i2 * 10 + 3, none⟩ = some y := ⟨_, (cell_of_row wj2 gr (i2 * 10 + 3) _ _ (0, 0) hrow).trans (Array.getElem?_eq_getElem (by omega))⟩
                  have f4 := frozen_of_row wj2 gr (i2 * 10 + 4) _ _ hrow
                  obtain ⟨y4, hy4⟩ : ∃ y, wj2.cell? ⟨gr, i2 * 10 + 4, none⟩ = some y := ⟨_, (cell_of_row wj2 gr (i2 * 10 + 4) _ _ (0, 0) hrow).trans (Array.getElem?_eq_getElem (by omega))⟩
                  have f5 := frozen_of_row wj2 gr (i2 * 10 + 5) _ _ hrow
                  obtain ⟨y5, hy5⟩ : ∃ y, wj2.cell? ⟨gr, i2 * 10 + 5, none⟩ = some y := ⟨_, (cell_of_row wj2 gr (i2 * 10 + 5) _ _ (0, 0) hrow).trans (Array.getElem?_eq_getElem (by omega))⟩
                  have f6 := frozen_of_row wj2 gr (i2 * 10 + 6) _ _ hrow
                  obtain ⟨y6, hy6⟩ : ∃ y, wj2.cell? ⟨gr, i2 * 10 + 6, none⟩ = some y := ⟨_, (cell_of_row wj2 gr (i2 * 10 + 6) _ _ (0, 0) hrow).trans (Array.getElem?_eq_getElem (by omega))⟩
                  have f7 := frozen_of_row wj2 gr (i2 * 10 + 7) _ _ hrow
                  obtain ⟨y7, hy7⟩ : ∃ y, wj2.cell? ⟨gr, i2 * 10 + 7, none⟩ = some y := ⟨_, (cell_of_row wj2 gr (i2 * 10 + 7) _ _ (0, 0) hrow).trans (Array.getElem?_eq_getElem (by omega))⟩
                  have f8 := frozen_of_row wj2 gr (i2 * 10 + 8) _ _ hrow
                  obtain ⟨y8, hy8⟩ : ∃ y, wj2.cell? ⟨gr, i2 * 10 + 8, none⟩ = some y := ⟨_, (cell_of_row wj2 gr (i2 * 10 + 8) _ _ (0, 0) hrow).trans (Array.getElem?_eq_getElem (by omega))⟩
                  have f9 := frozen_of_row wj2 gr (i2 * 10 + 9) _ _ hrow
                  obtain ⟨y9, hy9⟩ : ∃ y, wj2.cell? ⟨gr, i2 * 10 + 9, none⟩ = some y := ⟨_, (cell_of_row wj2 gr (i2 * 10 + 9) _ _ (0, 0) hrow).trans (Array.getElem?_eq_getElem (by omega))⟩
                  obtain ⟨wz, hwz⟩ : ∃ y, y = ((((((((((wj2.setCell ⟨gr, i2 * 10, none⟩ (.int .i64 0)).setCell ⟨gr, i2 * 10 + 1, none⟩ (.int .i64 0)).setCell ⟨gr, i2 * 10 + 2, none⟩ (.string ⟨#[]⟩)).setCell ⟨gr, i2 * 10 + 3, none⟩ (.int .i64 0)).setCell ⟨gr, i2 * 10 + 4, none⟩ (.string ⟨#[]⟩)).setCell ⟨gr, i2 * 10 + 5, none⟩ (.string ⟨#[]⟩)).setCell ⟨gr, i2 * 10 + 6, none⟩ (.string ⟨#[]⟩)).setCell ⟨gr, i2 * 10 + 7, none⟩ (.string ⟨#[]⟩)).setCell ⟨gr, i2 * 10 + 8, none⟩ (.string ⟨#[]⟩)).setCell ⟨gr, i2 * 10 + 9, none⟩ (.int .i64 0)) := ⟨_, rfl⟩
                  have HOPZ : Hid (OpN wz 55 10 wk.heap.size w20.heap.size (some ⟨gr, 0, none⟩) n20) := hid (by rw [hwz]; exact ((((((((((HOP.out.set gr (i2 * 10) (.int .i64 0)).set gr (i2 * 10 + 1) (.int .i64 0)).set gr (i2 * 10 + 2) (.string ⟨#[]⟩)).set gr (i2 * 10 + 3) (.int .i64 0)).set gr (i2 * 10 + 4) (.string ⟨#[]⟩)).set gr (i2 * 10 + 5) (.string ⟨#[]⟩)).set gr (i2 * 10 + 6) (.string ⟨#[]⟩)).set gr (i2 * 10 + 7) (.string ⟨#[]⟩)).set gr (i2 * 10 + 8) (.string ⟨#[]⟩)).set gr (i2 * 10 + 9) (.int .i64 0)))
                  have hgz : Grew wj2 wz (fun x => x = gr) := by rw [hwz]; exact ((((((((((Grew.refl wj2 (fun x => x = gr)).trans (Grew.of_gro (gro_set1 _ _ _ _) rfl)).trans (Grew.of_gro (gro_set1 _ _ _ _) rfl)).trans (Grew.of_gro (gro_set1 _ _ _ _) rfl)).trans (Grew.of_gro (gro_set1 _ _ _ _) rfl)).trans (Grew.of_gro (gro_set1 _ _ _ _) rfl)).trans (Grew.of_gro (gro_set1 _ _ _ _) rfl)).trans (Grew.of_gro (gro_set1 _ _ _ _) rfl)).trans (Grew.of_gro (gro_set1 _ _ _ _) rfl)).trans (Grew.of_gro (gro_set1 _ _ _ _) rfl)).trans (Grew.of_gro (gro_set1 _ _ _ _) rfl)
                  have HNP : Hid (¬ (P2 gr ∨ R2 gr)) := hid (HOUT.out gr hgB hgU)
                  have HBTZ := hid (HBT.out.grew hgz (fun x hx => by subst hx; exact ⟨fun h => HNP.out (.inl h), fun h => HNP.out (.inr h)⟩))
                  have HBWZ := hid (HBW.out.trans (hgz.below HBW.out.size (fun x hx => by subst hx; exact Nat.le_trans HLO.out hgB)))
                  have HSZZ := hid (Nat.le_trans HSZ.out hgz.size)
                  have HWZ := hid hwz
                  clear hwz hrow hsz hgB hgU hgz
                  go_wp2_with fail
                  rw [← HWZ.out]
                  go_roundw
                  case rel => exact ⟨i2 + 1, by go_num, by omega, HOPZ, HBTZ, HBWZ, HSZZ⟩
                  case measure => simp [intOf]; omega
                · have hiN : i2 = n20 := by omega
                  have hi1 : ¬ (i2 : Int) < (n20 : Int) := by omega
                  clear hlt HOP HOUT HLO
                  go_wp2_with fail
                  go_roundw
                  case rel => exact ⟨k + 1, by omega, by omega, by go_num, hid ⟨_, _, _, _, by rw [show 2 * (k + 1) = 2 * k + 2 by omega]; exact HBT.out⟩, HBW⟩
                  case measure => simp [intOf]; omega
      · by_cases hl1 : k < dn
        · have hi1 : (k : Int) < (dn : Int) := by omega
          have hi2 : ¬ (k : Int) < 15 := by omega
          clear hlt
          have HA0 := hid (held_any HBT.out.s HBT.out.inv.le now)
          go_wp2_with fail
          refine HA0.out.mono ?_
          rintro er w5 ⟨A5, n5, c5, rfl, hn5, hc5, hm5, hb5, ho5, bl5⟩
          have HBT5 := hid (HBT.out.below bl5)
          have HB5 := hid (HB.out.trans (bl5.mono HB.out.size))
          have HH5 := hid (refHeld_any HBT5.out.t (by have := HBT5.out.lk.len HBT5.out.inv; omega) now)
          rw [HBT5.out.lk.held] at HH5
          have HE5 := hid ((show Own (E := encL) w5 wj.heap.size 55 (.slice A5 (b.held now).length c5) (b.held now) from by rw [hn5]; exact ho5) |> own_els)
          have HN5 := hid hn5
          clear hn5 ho5 bl5 HA0
          go_wp2_with fail
          refine HH5.out.mono ?_
          rintro er w6 ⟨A6, n6, c6, rfl, hn6, hc6, hm6, hb6, ho6, bl6⟩
          have hnn : n6 = n5 := hn6.symm.trans HN5.out
          subst hnn
          have HB6 := hid (HB5.out.trans (bl6.mono HB5.out.size))
          have HS6 := hid (same13_eq A5 A6 _ n6 c5 c6 HN5.out (by omega) w6 ((HE5.out.below bl6).more bl6.size) ((show Own (E := encL) w6 w5.heap.size 55 (.slice A6 (b.held now).length c6) (b.held now) from by rw [hn6]; exact ho6) |> own_els))
          clear hn6 ho6 bl6 HH5
          go_wp2_with fail
          refine HS6.out.mono ?_
          rintro er w7 ⟨rfl, bl7⟩
          have HB7 := hid (HB6.out.trans (bl7.mono HB6.out.size))
          clear bl7
          go_wp2_with fail
          refine (HLV.out w7).mono ?_
          rintro er w8 ⟨rfl, bl8⟩
          go_wp2_with fail
          go_ret
          exact ⟨rfl, HB7.out.trans (bl8.mono HB7.out.size)⟩
        · have hi1 : ¬ (k : Int) < (dn : Int) := by omega
          clear hlt
          have HA0 := hid (held_any HBT.out.s HBT.out.inv.le now)
          go_wp2_with fail
          refine HA0.out.mono ?_
          rintro er w5 ⟨A5, n5, c5, rfl, hn5, hc5, hm5, hb5, ho5, bl5⟩
          have HBT5 := hid (HBT.out.below bl5)
          have HB5 := hid (HB.out.trans (bl5.mono HB.out.size))
          have HH5 := hid (refHeld_any HBT5.out.t (by have := HBT5.out.lk.len HBT5.out.inv; omega) now)
          rw [HBT5.out.lk.held] at HH5
          have HE5 := hid ((show Own (E := encL) w5 wj.heap.size 55 (.slice A5 (b.held now).length c5) (b.held now) from by rw [hn5]; exact ho5) |> own_els)
          have HN5 := hid hn5
          clear hn5 ho5 bl5 HA0
          go_wp2_with fail
          refine HH5.out.mono ?_
          rintro er w6 ⟨A6, n6, c6, rfl, hn6, hc6, hm6, hb6, ho6, bl6⟩
          have hnn : n6 = n5 := hn6.symm.trans HN5.out
          subst hnn
          have HB6 := hid (HB5.out.trans (bl6.mono HB5.out.size))
          have HS6 := hid (same13_eq A5 A6 _ n6 c5 c6 HN5.out (by omega) w6 ((HE5.out.below bl6).more bl6.size) ((show Own (E := encL) w6 w5.heap.size 55 (.slice A6 (b.held now).length c6) (b.held now) from by rw [hn6]; exact ho6) |> own_els))
          clear hn6 ho6 bl6 HH5
          go_wp2_with fail
          refine HS6.out.mono ?_
          rintro er w7 ⟨rfl, bl7⟩
          have HB7 := hid (HB6.out.trans (bl7.mono HB6.out.size))
          clear bl7
          go_wp2_with fail
          refine (HLV.out w7).mono ?_
          rintro er w8 ⟨rfl, bl8⟩
          go_wp2_with fail
          go_ret
          exact ⟨rfl, HB7.out.trans (bl8.mono HB7.out.size)⟩
  · have HNEW := hid (fun W => new_no o ho W)
    clear hdn hD
    go_enter Try.func6, Try.ntmps6
    go_wp2_with fail
    refine (HNEW.out w).mono ?_
    rintro er w2 ⟨rfl, hw⟩
    have hw2 : w = w2 := hw
    subst hw2
    go_wp2_with fail
    refine (HLV.out w).mono ?_
    rintro er w2 ⟨rfl, bl⟩
    go_wp2_with fail
    go_ret
    exact ⟨rfl, bl⟩
end Go.Proofs.Ytkimhdcngagmaaa.Sh
