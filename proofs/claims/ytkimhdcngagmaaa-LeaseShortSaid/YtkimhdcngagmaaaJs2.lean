/-
  LeaseShort: nothing is held longer than the lease behind its asking, and what is held of a domain is a part of what it answered last. Written by mk_lelawb.py.
-/
import Derived.Test.YtkimhdcngagmaaaJs1
namespace Go.Proofs.Ytkimhdcngagmaaa.Sh
open Go Go.RowKit

set_option linter.unusedSimpArgs false
set_option linter.unusedVariables false
set_option maxRecDepth 100000 in
set_option maxHeartbeats 64000000 in
theorem leaseShort_walk (o now : Int) (DA : Option Addr) (xs : List Dd) (dn dc : Nat) (hdn : xs.length = dn) (hdm : dn ≤ 9223372036854775807) (w : World) (hD : DeedsAt w w.heap.size DA xs) :
    Calls Try.prog 4 #[.int .i64 o, .slice DA dn dc, .int .i64 now] w fun e w' => e = .returned (.bool true) ∧ Below w.heap.size w w' := by
  have HLV := hid (fun W => lives_any W)
  by_cases ho : 1 ≤ o ∧ o ≤ 16
  · have HO : Hid (1 ≤ o ∧ o ≤ 16) := hid ho
    obtain ⟨ho1, ho2⟩ := ho
    have HDN := hid hdn
    have HDD := hid (fun W (hW : Below w.heap.size w W) => hD.below hW)
    clear hdn hD
    have HNEW := hid (fun W => new_yes o ⟨ho1, ho2⟩ W)
    go_enter Try.func4, Try.ntmps4
    go_wp2_with fail
    refine (HNEW.out w).mono ?_
    rintro er w2 ⟨gs, rfl, hbk, hb2⟩
    obtain ⟨w3, hw3⟩ : ∃ y, y = w2.alloc (.cells (arr (List.replicate 17 0)) 45) := ⟨_, rfl⟩
    have hst := short_new (xs := xs) HO.out hb2 hbk
    rw [← hw3] at hst
    have HB3 : Hid (Below w.heap.size w w3) := hid (by rw [hw3]; exact hb2.alloc hb2.size _)
    have HST0 := hid hst
    have HW3 := hid hw3
    obtain ⟨gl, hgl⟩ : ∃ x, x = w2.heap.size := ⟨_, rfl⟩
    rw [← hgl] at HST0
    clear hst hw3 hbk hb2 HNEW
    go_upto_region 5 with fail
    rw [arr_zero, ← HW3.out, ← hgl]
    clear hgl HW3
    go_wp2_with fail
    go_loopw [9] (fun i wr => ∃ k : Nat, k ≤ dn ∧ k ≤ 20 ∧ i = .int .i64 (k : Int) ∧ Hid (∃ (P : Nat → Prop) (b : LB) (r : RB) (las : List Nat), Short o wr w.heap.size P gs gl k b r las xs) ∧ Hid (Below w.heap.size w wr)) (fun i _ => 20 - (intOf i).toNat)
    case atStart => exact ⟨0, Nat.zero_le _, Nat.zero_le _, rfl, hid ⟨_, _, _, _, HST0.out⟩, HB3⟩
    case round =>
      clear HST0 HB3
      obtain ⟨wj, hwj⟩ : ∃ x, x = wr := ⟨_, rfl⟩
      subst hwj
      obtain ⟨k, hk, hk20, rfl, HEX, HB⟩ := hrel
      obtain ⟨P, b, r, las, hst⟩ := HEX.out
      have HST := hid hst
      have hk0 : (0 : Int) ≤ (k : Int) := Int.natCast_nonneg _
      clear hst HEX
      by_cases hlt : k < dn ∧ k < 20
      · obtain ⟨hl1, hl2⟩ := hlt
        obtain ⟨x, hx⟩ : ∃ x, xs[k]? = some x := ⟨_, List.getElem?_eq_getElem (by rw [HDN.out]; exact hl1)⟩
        obtain ⟨ad, aj, CA, cn, cc, hA, -, ea, -, e0, e1, e2, e3, hcl, hcn, hcm, hce⟩ := (HDD.out wj HB.out).get hx
        subst hA
        have hi1 : (k : Int) < (dn : Int) := by omega
        have hi2 : (k : Int) < 20 := by omega
        have HX := hid hx
        obtain ⟨xk, xd, xa, xl⟩ := x
        simp only at e0 e1 e2 e3 hcl hce
        obtain ⟨w4, hw4⟩ : ∃ y, y = wj.alloc (.cells #[.int .i64 xk, .int .i64 xd, .int .i64 xa, .slice CA cn cc] 36) := ⟨_, rfl⟩
        have hc4 : w4.heap[wj.heap.size]? = some (.cells #[.int .i64 xk, .int .i64 xd, .int .i64 xa, .slice CA cn cc] 36 (0, 0)) := by rw [hw4]; exact heap_alloc_new wj _
        have HB4 : Hid (Below wj.heap.size wj w4) := hid (by rw [hw4]; exact (Below.refl _ _).alloc (Nat.le_refl _) _)
        have j3 : w4.cell? ⟨wj.heap.size, 3, none⟩ = some (.slice CA cn cc) := by rw [cell_of_row _ _ 3 _ _ (0, 0) hc4]; rfl
        have jf : w4.frozen? ⟨wj.heap.size, 3, none⟩ = false := frozen_of_row _ _ 3 _ _ hc4
        have HW4 := hid hw4
        clear hx
        by_cases hcut : 40 < cn
        · -- cut
          have hlt2 : (40 : Int) < (cn : Int) := by omega
          have h40 : (40 : Nat) ≤ cn := by omega
          have h40c : (40 : Int) ≤ (cc : Int) := by omega
          have h40d : (40 : Nat) ≤ cc := by omega
          obtain ⟨w5, hw5⟩ : ∃ y, y = w4.setCell ⟨wj.heap.size, 3, none⟩ (.slice CA 40 cc) := ⟨_, rfl⟩
          have hc5 : w5.heap[wj.heap.size]? = some (.cells #[.int .i64 xk, .int .i64 xd, .int .i64 xa, .slice CA 40 cc] 36 (0, 0)) := by rw [hw5, heap_setCell_same w4 wj.heap.size 3 _ _ _ hc4]; rfl
          have HB5 : Hid (Below wj.heap.size wj w5) := hid (by rw [hw5]; exact HB4.out.setCell (Nat.le_refl _) _)
          have HLC : Hid ((xl.take 40).length = 40) := hid (by rw [List.length_take, hcl]; omega)
          have i0 : w5.cell? ⟨wj.heap.size, 0, none⟩ = some (.int .i64 xk) := by rw [cell_of_row _ _ 0 _ _ (0, 0) hc5]; rfl
          have i1 : w5.cell? ⟨wj.heap.size, 1, none⟩ = some (.int .i64 xd) := by rw [cell_of_row _ _ 1 _ _ (0, 0) hc5]; rfl
          have i2 : w5.cell? ⟨wj.heap.size, 2, none⟩ = some (.int .i64 xa) := by rw [cell_of_row _ _ 2 _ _ (0, 0) hc5]; rfl
          have i3 : w5.cell? ⟨wj.heap.size, 3, none⟩ = some (.slice CA 40 cc) := by rw [cell_of_row _ _ 3 _ _ (0, 0) hc5]; rfl
          have HS5 := hid (HST.out.below HB5.out)
          have HB05 := hid (HB.out.trans (HB5.out.mono HB.out.size))
          have HC5 := hid hc5
          have HW5 := hid hw5
          have HCE := hid ((((hce.head (hi := 40)).below (HB5.out.mono HB.out.size)).more (B' := w5.heap.size) (Nat.le_trans HB.out.size HB5.out.size)).crs)
          clear hw5 hc5 hc4 hce hcl hw4
          by_cases hk1 : xk = 1
          · subst hk1
            have HP := hid (hear_any HS5.out.s (by omega) xd xa)
            go_upto_region 9 with fail
            rw [← HW4.out]
            go_upto_region 11 with fail
            rw [← HW5.out]
            go_wp2_with fail
            refine HP.out.mono ?_
            rintro er w6 ⟨rfl, h6, g6⟩
            have HS6 := hid (HS5.out.hear (x := ⟨1, xd, xa, xl⟩) HX.out rfl h6 g6)
            have HB6 := hid (HB05.out.trans (g6.below HB05.out.size HS5.out.low))
            clear h6 g6 HP i0 i1 i2 i3
            go_wp2_with fail
            go_roundw
            case rel => exact ⟨k + 1, by omega, by omega, by go_num, hid ⟨_, _, _, _, HS6.out⟩, HB6⟩
            case measure => simp [intOf]; omega
          · have hk2 : (xk == 1) = false := beq_eq_false_iff_ne.2 hk1
            have HP := hid (learn_any HS5.out.s (by omega) CA (xl.take 40) 40 cc HLC.out (by omega) (by omega) hcm HCE.out xd xa)
            go_upto_region 9 with fail
            rw [← HW4.out]
            go_upto_region 11 with fail
            rw [← HW5.out]
            go_wp2_with fail
            refine HP.out.mono ?_
            rintro er w6 ⟨rfl, h6, g6⟩
            have HB6 := hid (HB05.out.trans (g6.below HB05.out.size HS5.out.low))
            have HGX : Hid (¬ P wj.heap.size) := hid (fun h => by have := HST.out.s.dom _ h; omega)
            have c61 : w6.cell? ⟨wj.heap.size, 1, none⟩ = some (.int .i64 xd) := by
              rw [cell_of_row _ _ 1 _ _ (0, 0) ((g6.block _ (Array.getElem?_eq_some_iff.1 HC5.out).1 HGX.out).trans HC5.out)]; rfl
            have HLR := hid (HS5.out.learn (x := ⟨xk, xd, xa, xl⟩) HX.out h6 g6)
            obtain ⟨E, hE⟩ : ∃ E, (b.learn xd (countsC (xl.take 40)) xa).1 = E := ⟨_, rfl⟩
            simp only at HLR
            rw [hE] at HLR ⊢
            clear h6 g6 HP i0 i1 i2 i3 hE
            by_cases hE0 : E = 0
            · subst hE0
              obtain ⟨y, rfl, hy1, hy2, hst6⟩ := HLR.out.1 rfl
              have hy3 : (0 : Int) ≤ (y : Int) := Int.natCast_nonneg _
              have hy4 : (y : Int) < 17 := by omega
              have hy5 : y < 17 := by omega
              have fr6 := hst6.1
              obtain ⟨cv6, cl6⟩ := hst6.2.1
              have HS6 := hid hst6.2.2
              have hwr : IntKind.i64.wrap ((k : Int) + 1) = (k : Int) + 1 := wrap_in _ (by omega)
              have had : (⟨gl, 0, none⟩ : Addr).add y = ⟨gl, y, none⟩ := add_rowL gl y
              clear hst6 HLR
              go_wp2_with fail
              go_roundw
              case rel => exact ⟨k + 1, by omega, by omega, by go_num, hid ⟨_, _, _, _, HS6.out⟩, hid (HB6.out.setCell (p := ⟨gl, y, none⟩) HS5.out.glB _)⟩
              case measure => simp [intOf]; omega
            · have hE1 : (E == 0) = false := beq_eq_false_iff_ne.2 hE0
              have HS6 := hid (HLR.out.2 hE0)
              clear HLR
              go_wp2_with fail
              go_roundw
              case rel => exact ⟨k + 1, by omega, by omega, by go_num, hid ⟨_, _, _, _, HS6.out⟩, HB6⟩
              case measure => simp [intOf]; omega
        · -- whole
          have hlt2 : ¬ (40 : Int) < (cn : Int) := by omega
          obtain ⟨w5, hw5⟩ : ∃ y, y = w4 := ⟨_, rfl⟩
          have hc5 : w5.heap[wj.heap.size]? = some (.cells #[.int .i64 xk, .int .i64 xd, .int .i64 xa, .slice CA cn cc] 36 (0, 0)) := by rw [hw5]; exact hc4
          have HB5 : Hid (Below wj.heap.size wj w5) := hid (by rw [hw5]; exact HB4.out)
          have HLC : Hid ((xl.take 40).length = cn) := hid (by rw [List.length_take, hcl]; omega)
          have i0 : w5.cell? ⟨wj.heap.size, 0, none⟩ = some (.int .i64 xk) := by rw [cell_of_row _ _ 0 _ _ (0, 0) hc5]; rfl
          have i1 : w5.cell? ⟨wj.heap.size, 1, none⟩ = some (.int .i64 xd) := by rw [cell_of_row _ _ 1 _ _ (0, 0) hc5]; rfl
          have i2 : w5.cell? ⟨wj.heap.size, 2, none⟩ = some (.int .i64 xa) := by rw [cell_of_row _ _ 2 _ _ (0, 0) hc5]; rfl
          have i3 : w5.cell? ⟨wj.heap.size, 3, none⟩ = some (.slice CA cn cc) := by rw [cell_of_row _ _ 3 _ _ (0, 0) hc5]; rfl
          have HS5 := hid (HST.out.below HB5.out)
          have HB05 := hid (HB.out.trans (HB5.out.mono HB.out.size))
          have HC5 := hid hc5
          have HW5 := hid hw5
          have HCE := hid ((((hce.head (hi := 40)).below (HB5.out.mono HB.out.size)).more (B' := w5.heap.size) (Nat.le_trans HB.out.size HB5.out.size)).crs)
          clear hw5 hc5 hc4 hce hcl hw4
          by_cases hk1 : xk = 1
          · subst hk1
            have HP := hid (hear_any HS5.out.s (by omega) xd xa)
            go_upto_region 9 with fail
            rw [← HW4.out]

            rw [← HW5.out]
            go_wp2_with fail
            refine HP.out.mono ?_
            rintro er w6 ⟨rfl, h6, g6⟩
            have HS6 := hid (HS5.out.hear (x := ⟨1, xd, xa, xl⟩) HX.out rfl h6 g6)
            have HB6 := hid (HB05.out.trans (g6.below HB05.out.size HS5.out.low))
            clear h6 g6 HP i0 i1 i2 i3
            go_wp2_with fail
            go_roundw
            case rel => exact ⟨k + 1, by omega, by omega, by go_num, hid ⟨_, _, _, _, HS6.out⟩, HB6⟩
            case measure => simp [intOf]; omega
          · have hk2 : (xk == 1) = false := beq_eq_false_iff_ne.2 hk1
            have HP := hid (learn_any HS5.out.s (by omega) CA (xl.take 40) cn cc HLC.out (by omega) (by omega) hcm HCE.out xd xa)
            go_upto_region 9 with fail
            rw [← HW4.out]

            rw [← HW5.out]
            go_wp2_with fail
            refine HP.out.mono ?_
            rintro er w6 ⟨rfl, h6, g6⟩
            have HB6 := hid (HB05.out.trans (g6.below HB05.out.size HS5.out.low))
            have HGX : Hid (¬ P wj.heap.size) := hid (fun h => by have := HST.out.s.dom _ h; omega)
            have c61 : w6.cell? ⟨wj.heap.size, 1, none⟩ = some (.int .i64 xd) := by
              rw [cell_of_row _ _ 1 _ _ (0, 0) ((g6.block _ (Array.getElem?_eq_some_iff.1 HC5.out).1 HGX.out).trans HC5.out)]; rfl
            have HLR := hid (HS5.out.learn (x := ⟨xk, xd, xa, xl⟩) HX.out h6 g6)
            obtain ⟨E, hE⟩ : ∃ E, (b.learn xd (countsC (xl.take 40)) xa).1 = E := ⟨_, rfl⟩
            simp only at HLR
            rw [hE] at HLR ⊢
            clear h6 g6 HP i0 i1 i2 i3 hE
            by_cases hE0 : E = 0
            · subst hE0
              obtain ⟨y, rfl, hy1, hy2, hst6⟩ := HLR.out.1 rfl
              have hy3 : (0 : Int) ≤ (y : Int) := Int.natCast_nonneg _
              have hy4 : (y : Int) < 17 := by omega
              have hy5 : y < 17 := by omega
              have fr6 := hst6.1
              obtain ⟨cv6, cl6⟩ := hst6.2.1
              have HS6 := hid hst6.2.2
              have hwr : IntKind.i64.wrap ((k : Int) + 1) = (k : Int) + 1 := wrap_in _ (by omega)
              have had : (⟨gl, 0, none⟩ : Addr).add y = ⟨gl, y, none⟩ := add_rowL gl y
              clear hst6 HLR
              go_wp2_with fail
              go_roundw
              case rel => exact ⟨k + 1, by omega, by omega, by go_num, hid ⟨_, _, _, _, HS6.out⟩, hid (HB6.out.setCell (p := ⟨gl, y, none⟩) HS5.out.glB _)⟩
              case measure => simp [intOf]; omega
            · have hE1 : (E == 0) = false := beq_eq_false_iff_ne.2 hE0
              have HS6 := hid (HLR.out.2 hE0)
              clear HLR
              go_wp2_with fail
              go_roundw
              case rel => exact ⟨k + 1, by omega, by omega, by go_num, hid ⟨_, _, _, _, HS6.out⟩, HB6⟩
              case measure => simp [intOf]; omega
      · by_cases hl1 : k < dn
        · have hi1 : (k : Int) < (dn : Int) := by omega
          have hi2 : ¬ (k : Int) < 20 := by omega
          clear hlt
          have HA0 := hid (held_any HST.out.s HST.out.inv.le now)
          go_wp2_with fail
          refine HA0.out.mono ?_
          rintro er w4 ⟨A4, na, c4, rfl, hna, hc4, hm4, hb4, ho4, bl4⟩
          have HS4 := hid (HST.out.below bl4)
          have HB4 := hid (HB.out.trans (bl4.mono HB.out.size))
          have HE4 := hid ((show Own (E := encL) w4 wj.heap.size 55 (.slice A4 (b.held now).length c4) (b.held now) from by rw [hna]; exact ho4) |> own_els)
          have HNA := hid hna
          clear hna ho4 bl4 HA0
          have HB44 := hid (Below.refl w4.heap.size w4)
          go_wp2_with fail
          go_loopw [12] (fun i wr => ∃ p : Nat, p ≤ na ∧ i = .int .i64 (p : Int) ∧ Hid (Below w4.heap.size w4 wr)) (fun i _ => na - (intOf i).toNat)
          case atStart => exact ⟨0, Nat.zero_le _, rfl, HB44⟩
          case round =>
            obtain ⟨wi, hwi⟩ : ∃ x, x = wr := ⟨_, rfl⟩
            subst hwi
            obtain ⟨p, hp, rfl, HBI⟩ := hrel
            have hp0 : (0 : Int) ≤ (p : Int) := Int.natCast_nonneg _
            by_cases hpn : p < na
            · have hp1 : (p : Int) < (na : Int) := by omega
              obtain ⟨h, hh⟩ : ∃ x, (b.held now)[p]? = some x := ⟨_, List.getElem?_eq_getElem (by rw [HNA.out]; exact hpn)⟩
              obtain ⟨dn2, j, x, hd1, hd2, hd3, hd4, hlj, hjx, hjk, hmem, hu1, hu2, hu3, hu4⟩ := HS4.out.told hh
              obtain ⟨ad, aj, hA, -, ea, -, g0, gs2⟩ := ((HE4.out.below HBI.out).more HBI.out.size).get hh
              subst hA
              have ea : ad.add (p * 10) = aj := ea
              have e0 := g0 _ rfl
              have e1 := gs2 1 _ (by omega) rfl
              have e2 := gs2 2 _ (by omega) rfl
              have e3 := gs2 3 _ (by omega) rfl
              have e4 := gs2 4 _ (by omega) rfl
              have e5 := gs2 5 _ (by omega) rfl
              have e6 := gs2 6 _ (by omega) rfl
              have e7 := gs2 7 _ (by omega) rfl
              have e8 := gs2 8 _ (by omega) rfl
              have e9 := gs2 9 _ (by omega) rfl
              obtain ⟨⟨dd', q2', nm', kd', wh2', ao', an', bo', bn'⟩, u⟩ := h
              simp only at e0 e1 e2 e3 e4 e5 e6 e7 e8 e9 hd1 hmem hu1 hu2 hu3
              have HMEM := hid hmem
              obtain ⟨ad2, aj2, CA, cn, cc, hA2, hab2, ea2, hbj2, y0, y1, y2, y3, hcl, hcn, hcm, hce⟩ := (HDD.out wi (HB4.out.trans (HBI.out.mono HB4.out.size))).get hjx
              subst hA2
              obtain ⟨xk, xd, xa, xl⟩ := x
              simp only at y0 y1 y2 y3 hcl hce HMEM hu1 hu2 hu4
              subst hd1
              have hl1 : ¬ (dn2 : Int) < 1 := by omega
              have hl2 : ¬ (16 : Int) < (dn2 : Int) := by omega
              have hl3 : ((dn2 : Int) == o) = false := beq_eq_false_iff_ne.2 hd4
              have hl4 : (0 : Int) ≤ (dn2 : Int) := Int.natCast_nonneg _
              have hl5 : (dn2 : Int) < 17 := by omega
              have hl6 : dn2 < 17 := by omega
              have hl7 : (((j + 1 : Nat) : Int) == 0) = false := beq_eq_false_iff_ne.2 (by omega)
              have had : (⟨gl, 0, none⟩ : Addr).add dn2 = ⟨gl, dn2, none⟩ := add_rowL gl dn2
              have hr : wi.heap[gl]? = some (.cells (arr las) 45 (0, 0)) := (HBI.out.block gl HS4.out.gll).trans HS4.out.row
              have hcl2 : wi.cell? ⟨gl, dn2, none⟩ = some (.int .i64 ((j + 1 : Nat) : Int)) := by rw [cell_of_row _ _ dn2 _ _ (0, 0) hr]; exact arr_at hlj
              have hj1 : ((j + 1 : Nat) : Int) - 1 = (j : Int) := by omega
              have hj3 : (0 : Int) ≤ (j : Int) := Int.natCast_nonneg _
              have hj4 : (j : Int) < (dn : Int) := by have := HDN.out; omega
              have hj2 : IntKind.i64.wrap (j : Int) = (j : Int) := wrap_in _ (by omega)
              obtain ⟨w5, hw5⟩ : ∃ y, y = wi.alloc (.cells #[.int .i64 xk, .int .i64 xd, .int .i64 xa, .slice CA cn cc] 36) := ⟨_, rfl⟩
              have hc5 : w5.heap[wi.heap.size]? = some (.cells #[.int .i64 xk, .int .i64 xd, .int .i64 xa, .slice CA cn cc] 36 (0, 0)) := by rw [hw5]; exact heap_alloc_new wi _
              have HW5 := hid hw5
              have HB5 : Hid (Below wi.heap.size wi w5) := hid (by rw [hw5]; exact (Below.refl _ _).alloc (Nat.le_refl _) _)
              have HGX : Hid (wi.heap.size < w5.heap.size) := hid (Array.getElem?_eq_some_iff.1 hc5).1
              have HC5 := hid hc5
              have HXC : Hid (∀ W, Below w5.heap.size w5 W → W.cell? ⟨wi.heap.size, 2, none⟩ = some (.int .i64 xa) ∧ W.cell? ⟨wi.heap.size, 3, none⟩ = some (.slice CA cn cc)) := hid (fun W hW => by
                have q := (hW.block _ HGX.out).trans HC5.out
                exact ⟨by rw [cell_of_row _ _ 2 _ _ (0, 0) q]; rfl, by rw [cell_of_row _ _ 3 _ _ (0, 0) q]; rfl⟩)
              have HLX := hid hcl
              have HCX := hid (fun W (hW : Below w5.heap.size w5 W) => hce.below ((HB5.out.mono (Nat.le_trans HB4.out.size HBI.out.size)).trans (hW.mono (Nat.le_trans (Nat.le_trans HB4.out.size HBI.out.size) HB5.out.size))))
              have HHX : Hid (∀ W, Below w5.heap.size w5 W → W.cell? aj = some (.int .i64 (dn2 : Int)) ∧ W.cell? ⟨aj.block, aj.off + 1, none⟩ = some (.int .i64 q2') ∧ W.cell? ⟨aj.block, aj.off + 2, none⟩ = some (.string nm') ∧ W.cell? ⟨aj.block, aj.off + 3, none⟩ = some (.int .i64 kd') ∧ W.cell? ⟨aj.block, aj.off + 4, none⟩ = some (.string wh2') ∧ W.cell? ⟨aj.block, aj.off + 5, none⟩ = some (.string ao') ∧ W.cell? ⟨aj.block, aj.off + 6, none⟩ = some (.string an') ∧ W.cell? ⟨aj.block, aj.off + 7, none⟩ = some (.string bo') ∧ W.cell? ⟨aj.block, aj.off + 8, none⟩ = some (.string bn') ∧ W.cell? ⟨aj.block, aj.off + 9, none⟩ = some (.int .i64 u)) := hid (fun W hW => by
                have hs := HBI.out.size
                have q := (HB5.out.mono (Nat.le_refl _)).trans (hW.mono HB5.out.size)
                have hab : aj.block < wi.heap.size := World.block_lt_of_cell? wi _ e0
                exact ⟨(q.cell hab).trans e0, (q.cell (p := ⟨aj.block, aj.off + 1, none⟩) hab).trans e1, (q.cell (p := ⟨aj.block, aj.off + 2, none⟩) hab).trans e2, (q.cell (p := ⟨aj.block, aj.off + 3, none⟩) hab).trans e3, (q.cell (p := ⟨aj.block, aj.off + 4, none⟩) hab).trans e4, (q.cell (p := ⟨aj.block, aj.off + 5, none⟩) hab).trans e5, (q.cell (p := ⟨aj.block, aj.off + 6, none⟩) hab).trans e6, (q.cell (p := ⟨aj.block, aj.off + 7, none⟩) hab).trans e7, (q.cell (p := ⟨aj.block, aj.off + 8, none⟩) hab).trans e8, (q.cell (p := ⟨aj.block, aj.off + 9, none⟩) hab).trans e9⟩)
              have HB55 := hid (Below.refl w5.heap.size w5)
              have HBI5 := hid (HBI.out.trans (HB5.out.mono HBI.out.size))
              clear hh hjx hmem hcl hce hw5 hc5 hab2 hbj2 g0 gs2 hr
              go_upto_region 23 with fail
              rw [← HW5.out]
              clear y0 y1 y2 y3 e0 e1 e2 e3 e4 e5 e6 e7 e8 e9 hcl2
              obtain ⟨z2, z3⟩ := HXC.out _ HB55.out
              go_wp2_with fail
              go_loopw [15, 16] (fun v i wr => ∃ (q : Nat) (t : Bool), i = .int .i64 (q : Int) ∧ v = .bool t ∧ q ≤ cn ∧ q ≤ 40 ∧ Hid (InT t (⟨(dn2 : Int), q2', nm', kd', wh2', ao', an', bo', bn'⟩ : Crd) (xl.take q)) ∧ Hid (Below w5.heap.size w5 wr)) (fun _ i _ => 40 - (intOf i).toNat)
              case atStart => exact ⟨0, false, rfl, rfl, Nat.zero_le _, Nat.zero_le _, hid InT.nil, HB55⟩
              case round =>
                clear z2 z3
                obtain ⟨wh, hwh⟩ : ∃ x, x = wr := ⟨_, rfl⟩
                subst hwh
                obtain ⟨q, t, rfl, rfl, hq, hq40, HT, HBH⟩ := hrel
                have hq0 : (0 : Int) ≤ (q : Int) := Int.natCast_nonneg _
                obtain ⟨z2, z3⟩ := HXC.out _ HBH.out
                obtain ⟨e0, e1, e2, e3, e4, e5, e6, e7, e8, e9⟩ := HHX.out _ HBH.out
                by_cases hlt : q < cn ∧ q < 40
                · obtain ⟨hlt1, hlt2⟩ := hlt
                  have hq1 : (q : Int) < (cn : Int) := by omega
                  have hq2 : (q : Int) < 40 := by omega
                  obtain ⟨y, hy⟩ : ∃ y, xl[q]? = some y := ⟨_, List.getElem?_eq_getElem (by rw [HLX.out]; exact hlt1)⟩
                  obtain ⟨ad3, aj3, hA3, -, ea3, -, f0, fs⟩ := (HCX.out _ HBH.out).get hy
                  subst hA3
                  have ea3 : ad3.add (q * 9) = aj3 := ea3
                  have HTK := hid (take_snoc_of hy)
                  cases t with
                  | true =>
                    have HNX : Hid (InT true (⟨(dn2 : Int), q2', nm', kd', wh2', ao', an', bo', bn'⟩ : Crd) (xl.take (q + 1))) := hid (by rw [HTK.out]; exact HT.out.more _)
                    clear hy f0 fs
                    go_wp2_with fail
                    go_quiet (fail)
                    go_wp2_with fail
                    go_roundw
                    case rel => exact ⟨q + 1, true, by go_num, rfl, by omega, by omega, HNX, hid (below_drewN HBH.out _)⟩
                    case measure => simp [intOf]; omega
                  | false =>
                    have d0 := f0 _ rfl
                    have d1 := fs 1 _ (by omega) rfl
                    have d2 := fs 2 _ (by omega) rfl
                    have d3 := fs 3 _ (by omega) rfl
                    have d4 := fs 4 _ (by omega) rfl
                    have d5 := fs 5 _ (by omega) rfl
                    have d6 := fs 6 _ (by omega) rfl
                    have d7 := fs 7 _ (by omega) rfl
                    have d8 := fs 8 _ (by omega) rfl
                    by_cases hxy : y = (⟨(dn2 : Int), q2', nm', kd', wh2', ao', an', bo', bn'⟩ : Crd)
                    · have HNX : Hid (InT true (⟨(dn2 : Int), q2', nm', kd', wh2', ao', an', bo', bn'⟩ : Crd) (xl.take (q + 1))) := hid (by rw [HTK.out, hxy]; exact InT.here _ _)
                      subst hxy
                      simp only at d0 d1 d2 d3 d4 d5 d6 d7 d8
                      clear hy f0 fs
                      go_wp2_with fail
                      go_quiet (fail)
                      go_wp2_with fail
                      go_roundw
                      case rel => exact ⟨q + 1, true, by go_num, rfl, by omega, by omega, HNX, hid (below_drewN HBH.out _)⟩
                      case measure => simp [intOf]; omega
                    · have HNX : Hid (InT false (⟨(dn2 : Int), q2', nm', kd', wh2', ao', an', bo', bn'⟩ : Crd) (xl.take (q + 1))) := hid (by rw [HTK.out]; exact HT.out.not hxy)
                      obtain ⟨dd, q2, nm, kd, wh2, ao, an, bo, bn⟩ := y
                      simp only at d0 d1 d2 d3 d4 d5 d6 d7 d8
                      have HBI2 := HBH
                      clear hy f0 fs HTK HT
                      by_cases h_d : ¬ dd = (dn2 : Int)
                      · have b_d : (dd == (dn2 : Int)) = false := beq_eq_false_iff_ne.2 h_d
                        go_wp2_with fail
                        go_quiet (fail)
                        go_wp2_with fail
                        go_roundw
                        case rel => exact ⟨q + 1, false, by go_num, rfl, by omega, by omega, HNX, hid (below_drewN HBI2.out _)⟩
                        case measure => simp [intOf]; omega
                      replace h_d := Classical.not_not.1 h_d
                      subst h_d
                      by_cases h_q : ¬ q2 = q2'
                      · have b_q : (q2 == q2') = false := beq_eq_false_iff_ne.2 h_q
                        go_wp2_with fail
                        go_quiet (fail)
                        go_wp2_with fail
                        go_roundw
                        case rel => exact ⟨q + 1, false, by go_num, rfl, by omega, by omega, HNX, hid (below_drewN HBI2.out _)⟩
                        case measure => simp [intOf]; omega
                      replace h_q := Classical.not_not.1 h_q
                      subst h_q
                      by_cases h_nm : ¬ nm = nm'
                      · have t_nm : ¬ nm.toList = nm'.toList := fun h => h_nm ((ba_iff _ _).1 h)
                        go_wp2_with fail
                        go_quiet (fail)
                        go_wp2_with fail
                        go_roundw
                        case rel => exact ⟨q + 1, false, by go_num, rfl, by omega, by omega, HNX, hid (below_drewN HBI2.out _)⟩
                        case measure => simp [intOf]; omega
                      replace h_nm := Classical.not_not.1 h_nm
                      subst h_nm
                      by_cases h_kd : ¬ kd = kd'
                      · have b_kd : (kd == kd') = false := beq_eq_false_iff_ne.2 h_kd
                        go_wp2_with fail
                        go_quiet (fail)
                        go_wp2_with fail
                        go_roundw
                        case rel => exact ⟨q + 1, false, by go_num, rfl, by omega, by omega, HNX, hid (below_drewN HBI2.out _)⟩
                        case measure => simp [intOf]; omega
                      replace h_kd := Classical.not_not.1 h_kd
                      subst h_kd
                      by_cases h_wh : ¬ wh2 = wh2'
                      · have t_wh : ¬ wh2.toList = wh2'.toList := fun h => h_wh ((ba_iff _ _).1 h)
                        go_wp2_with fail
                        go_quiet (fail)
                        go_wp2_with fail
                        go_roundw
                        case rel => exact ⟨q + 1, false, by go_num, rfl, by omega, by omega, HNX, hid (below_drewN HBI2.out _)⟩
                        case measure => simp [intOf]; omega
                      replace h_wh := Classical.not_not.1 h_wh
                      subst h_wh
                      by_cases h_ao : ¬ ao = ao'
                      · have t_ao : ¬ ao.toList = ao'.toList := fun h => h_ao ((ba_iff _ _).1 h)
                        go_wp2_with fail
                        go_quiet (fail)
                        go_wp2_with fail
                        go_roundw
                        case rel => exact ⟨q + 1, false, by go_num, rfl, by omega, by omega, HNX, hid (below_drewN HBI2.out _)⟩
                        case measure => simp [intOf]; omega
                      replace h_ao := Classical.not_not.1 h_ao
                      subst h_ao
                      by_cases h_an : ¬ an = an'
                      · have t_an : ¬ an.toList = an'.toList := fun h => h_an ((ba_iff _ _).1 h)
                        go_wp2_with fail
                        go_quiet (fail)
                        go_wp2_with fail
                        go_roundw
                        case rel => exact ⟨q + 1, false, by go_num, rfl, by omega, by omega, HNX, hid (below_drewN HBI2.out _)⟩
                        case measure => simp [intOf]; omega
                      replace h_an := Classical.not_not.1 h_an
                      subst h_an
                      by_cases h_bo : ¬ bo = bo'
                      · have t_bo : ¬ bo.toList = bo'.toList := fun h => h_bo ((ba_iff _ _).1 h)
                        go_wp2_with fail
                        go_quiet (fail)
                        go_wp2_with fail
                        go_roundw
                        case rel => exact ⟨q + 1, false, by go_num, rfl, by omega, by omega, HNX, hid (below_drewN HBI2.out _)⟩
                        case measure => simp [intOf]; omega
                      replace h_bo := Classical.not_not.1 h_bo
                      subst h_bo
                      by_cases h_bn : ¬ bn = bn'
                      · have t_bn : ¬ bn.toList = bn'.toList := fun h => h_bn ((ba_iff _ _).1 h)
                        go_wp2_with fail
                        go_quiet (fail)
                        go_wp2_with fail
                        go_roundw
                        case rel => exact ⟨q + 1, false, by go_num, rfl, by omega, by omega, HNX, hid (below_drewN HBI2.out _)⟩
                        case measure => simp [intOf]; omega
                      replace h_bn := Classical.not_not.1 h_bn
                      subst h_bn
                      exact absurd rfl hxy
                · have HQ : Hid (q = min 40 cn) := hid (by omega)
                  have HIN : Hid (t = true) := hid (HT.out.yes (by
                    have e : xl.take q = xl.take 40 := by rw [HQ.out, ← HLX.out, List.take_eq_take_iff]; omega
                    rw [e]; exact HMEM.out))
                  obtain rfl : t = true := HIN.out
                  have hxw : IntKind.i64.wrap (xa + 56) = xa + 56 := wrap_in _ (by omega)
                  have hx1 : ¬ xa + 56 < u := by omega
                  have hx2 : ¬ u ≤ now := by omega
                  by_cases hlt1 : q < cn
                  · have hq1 : (q : Int) < (cn : Int) := by omega
                    have hq2 : ¬ (q : Int) < 40 := by omega
                    clear hlt
                    go_wp2_with fail
                    go_quiet (fail)
                    go_wp2_with fail
                    go_roundw
                    case rel => exact ⟨p + 1, by omega, by go_num, hid (below_drewN (HBI5.out.trans (HBH.out.mono HBI5.out.size)) _)⟩
                    case measure => simp [intOf]; omega
                  · have hq1 : ¬ (q : Int) < (cn : Int) := by omega
                    clear hlt
                    go_wp2_with fail
                    go_quiet (fail)
                    go_wp2_with fail
                    go_roundw
                    case rel => exact ⟨p + 1, by omega, by go_num, hid (below_drewN (HBI5.out.trans (HBH.out.mono HBI5.out.size)) _)⟩
                    case measure => simp [intOf]; omega
            · have hp1 : ¬ (p : Int) < (na : Int) := by omega
              go_wp2_with fail
              refine (HLV.out wi).mono ?_
              rintro er w8 ⟨rfl, bl8⟩
              go_wp2_with fail
              go_ret
              exact ⟨rfl, HB4.out.trans ((HBI.out.mono HB4.out.size).trans (bl8.mono (Nat.le_trans HB4.out.size HBI.out.size)))⟩
        · have hi1 : ¬ (k : Int) < (dn : Int) := by omega
          clear hlt
          have HA0 := hid (held_any HST.out.s HST.out.inv.le now)
          go_wp2_with fail
          refine HA0.out.mono ?_
          rintro er w4 ⟨A4, na, c4, rfl, hna, hc4, hm4, hb4, ho4, bl4⟩
          have HS4 := hid (HST.out.below bl4)
          have HB4 := hid (HB.out.trans (bl4.mono HB.out.size))
          have HE4 := hid ((show Own (E := encL) w4 wj.heap.size 55 (.slice A4 (b.held now).length c4) (b.held now) from by rw [hna]; exact ho4) |> own_els)
          have HNA := hid hna
          clear hna ho4 bl4 HA0
          have HB44 := hid (Below.refl w4.heap.size w4)
          go_wp2_with fail
          go_loopw [12] (fun i wr => ∃ p : Nat, p ≤ na ∧ i = .int .i64 (p : Int) ∧ Hid (Below w4.heap.size w4 wr)) (fun i _ => na - (intOf i).toNat)
          case atStart => exact ⟨0, Nat.zero_le _, rfl, HB44⟩
          case round =>
            obtain ⟨wi, hwi⟩ : ∃ x, x = wr := ⟨_, rfl⟩
            subst hwi
            obtain ⟨p, hp, rfl, HBI⟩ := hrel
            have hp0 : (0 : Int) ≤ (p : Int) := Int.natCast_nonneg _
            by_cases hpn : p < na
            · have hp1 : (p : Int) < (na : Int) := by omega
              obtain ⟨h, hh⟩ : ∃ x, (b.held now)[p]? = some x := ⟨_, List.getElem?_eq_getElem (by rw [HNA.out]; exact hpn)⟩
              obtain ⟨dn2, j, x, hd1, hd2, hd3, hd4, hlj, hjx, hjk, hmem, hu1, hu2, hu3, hu4⟩ := HS4.out.told hh
              obtain ⟨ad, aj, hA, -, ea, -, g0, gs2⟩ := ((HE4.out.below HBI.out).more HBI.out.size).get hh
              subst hA
              have ea : ad.add (p * 10) = aj := ea
              have e0 := g0 _ rfl
              have e1 := gs2 1 _ (by omega) rfl
              have e2 := gs2 2 _ (by omega) rfl
              have e3 := gs2 3 _ (by omega) rfl
              have e4 := gs2 4 _ (by omega) rfl
              have e5 := gs2 5 _ (by omega) rfl
              have e6 := gs2 6 _ (by omega) rfl
              have e7 := gs2 7 _ (by omega) rfl
              have e8 := gs2 8 _ (by omega) rfl
              have e9 := gs2 9 _ (by omega) rfl
              obtain ⟨⟨dd', q2', nm', kd', wh2', ao', an', bo', bn'⟩, u⟩ := h
              simp only at e0 e1 e2 e3 e4 e5 e6 e7 e8 e9 hd1 hmem hu1 hu2 hu3
              have HMEM := hid hmem
              obtain ⟨ad2, aj2, CA, cn, cc, hA2, hab2, ea2, hbj2, y0, y1, y2, y3, hcl, hcn, hcm, hce⟩ := (HDD.out wi (HB4.out.trans (HBI.out.mono HB4.out.size))).get hjx
              subst hA2
              obtain ⟨xk, xd, xa, xl⟩ := x
              simp only at y0 y1 y2 y3 hcl hce HMEM hu1 hu2 hu4
              subst hd1
              have hl1 : ¬ (dn2 : Int) < 1 := by omega
              have hl2 : ¬ (16 : Int) < (dn2 : Int) := by omega
              have hl3 : ((dn2 : Int) == o) = false := beq_eq_false_iff_ne.2 hd4
              have hl4 : (0 : Int) ≤ (dn2 : Int) := Int.natCast_nonneg _
              have hl5 : (dn2 : Int) < 17 := by omega
              have hl6 : dn2 < 17 := by omega
              have hl7 : (((j + 1 : Nat) : Int) == 0) = false := beq_eq_false_iff_ne.2 (by omega)
              have had : (⟨gl, 0, none⟩ : Addr).add dn2 = ⟨gl, dn2, none⟩ := add_rowL gl dn2
              have hr : wi.heap[gl]? = some (.cells (arr las) 45 (0, 0)) := (HBI.out.block gl HS4.out.gll).trans HS4.out.row
              have hcl2 : wi.cell? ⟨gl, dn2, none⟩ = some (.int .i64 ((j + 1 : Nat) : Int)) := by rw [cell_of_row _ _ dn2 _ _ (0, 0) hr]; exact arr_at hlj
              have hj1 : ((j + 1 : Nat) : Int) - 1 = (j : Int) := by omega
              have hj3 : (0 : Int) ≤ (j : Int) := Int.natCast_nonneg _
              have hj4 : (j : Int) < (dn : Int) := by have := HDN.out; omega
              have hj2 : IntKind.i64.wrap (j : Int) = (j : Int) := wrap_in _ (by omega)
              obtain ⟨w5, hw5⟩ : ∃ y, y = wi.alloc (.cells #[.int .i64 xk, .int .i64 xd, .int .i64 xa, .slice CA cn cc] 36) := ⟨_, rfl⟩
              have hc5 : w5.heap[wi.heap.size]? = some (.cells #[.int .i64 xk, .int .i64 xd, .int .i64 xa, .slice CA cn cc] 36 (0, 0)) := by rw [hw5]; exact heap_alloc_new wi _
              have HW5 := hid hw5
              have HB5 : Hid (Below wi.heap.size wi w5) := hid (by rw [hw5]; exact (Below.refl _ _).alloc (Nat.le_refl _) _)
              have HGX : Hid (wi.heap.size < w5.heap.size) := hid (Array.getElem?_eq_some_iff.1 hc5).1
              have HC5 := hid hc5
              have HXC : Hid (∀ W, Below w5.heap.size w5 W → W.cell? ⟨wi.heap.size, 2, none⟩ = some (.int .i64 xa) ∧ W.cell? ⟨wi.heap.size, 3, none⟩ = some (.slice CA cn cc)) := hid (fun W hW => by
                have q := (hW.block _ HGX.out).trans HC5.out
                exact ⟨by rw [cell_of_row _ _ 2 _ _ (0, 0) q]; rfl, by rw [cell_of_row _ _ 3 _ _ (0, 0) q]; rfl⟩)
              have HLX := hid hcl
              have HCX := hid (fun W (hW : Below w5.heap.size w5 W) => hce.below ((HB5.out.mono (Nat.le_trans HB4.out.size HBI.out.size)).trans (hW.mono (Nat.le_trans (Nat.le_trans HB4.out.size HBI.out.size) HB5.out.size))))
              have HHX : Hid (∀ W, Below w5.heap.size w5 W → W.cell? aj = some (.int .i64 (dn2 : Int)) ∧ W.cell? ⟨aj.block, aj.off + 1, none⟩ = some (.int .i64 q2') ∧ W.cell? ⟨aj.block, aj.off + 2, none⟩ = some (.string nm') ∧ W.cell? ⟨aj.block, aj.off + 3, none⟩ = some (.int .i64 kd') ∧ W.cell? ⟨aj.block, aj.off + 4, none⟩ = some (.string wh2') ∧ W.cell? ⟨aj.block, aj.off + 5, none⟩ = some (.string ao') ∧ W.cell? ⟨aj.block, aj.off + 6, none⟩ = some (.string an') ∧ W.cell? ⟨aj.block, aj.off + 7, none⟩ = some (.string bo') ∧ W.cell? ⟨aj.block, aj.off + 8, none⟩ = some (.string bn') ∧ W.cell? ⟨aj.block, aj.off + 9, none⟩ = some (.int .i64 u)) := hid (fun W hW => by
                have hs := HBI.out.size
                have q := (HB5.out.mono (Nat.le_refl _)).trans (hW.mono HB5.out.size)
                have hab : aj.block < wi.heap.size := World.block_lt_of_cell? wi _ e0
                exact ⟨(q.cell hab).trans e0, (q.cell (p := ⟨aj.block, aj.off + 1, none⟩) hab).trans e1, (q.cell (p := ⟨aj.block, aj.off + 2, none⟩) hab).trans e2, (q.cell (p := ⟨aj.block, aj.off + 3, none⟩) hab).trans e3, (q.cell (p := ⟨aj.block, aj.off + 4, none⟩) hab).trans e4, (q.cell (p := ⟨aj.block, aj.off + 5, none⟩) hab).trans e5, (q.cell (p := ⟨aj.block, aj.off + 6, none⟩) hab).trans e6, (q.cell (p := ⟨aj.block, aj.off + 7, none⟩) hab).trans e7, (q.cell (p := ⟨aj.block, aj.off + 8, none⟩) hab).trans e8, (q.cell (p := ⟨aj.block, aj.off + 9, none⟩) hab).trans e9⟩)
              have HB55 := hid (Below.refl w5.heap.size w5)
              have HBI5 := hid (HBI.out.trans (HB5.out.mono HBI.out.size))
              clear hh hjx hmem hcl hce hw5 hc5 hab2 hbj2 g0 gs2 hr
              go_upto_region 23 with fail
              rw [← HW5.out]
              clear y0 y1 y2 y3 e0 e1 e2 e3 e4 e5 e6 e7 e8 e9 hcl2
              obtain ⟨z2, z3⟩ := HXC.out _ HB55.out
              go_wp2_with fail
              go_loopw [15, 16] (fun v i wr => ∃ (q : Nat) (t : Bool), i = .int .i64 (q : Int) ∧ v = .bool t ∧ q ≤ cn ∧ q ≤ 40 ∧ Hid (InT t (⟨(dn2 : Int), q2', nm', kd', wh2', ao', an', bo', bn'⟩ : Crd) (xl.take q)) ∧ Hid (Below w5.heap.size w5 wr)) (fun _ i _ => 40 - (intOf i).toNat)
              case atStart => exact ⟨0, false, rfl, rfl, Nat.zero_le _, Nat.zero_le _, hid InT.nil, HB55⟩
              case round =>
                clear z2 z3
                obtain ⟨wh, hwh⟩ : ∃ x, x = wr := ⟨_, rfl⟩
                subst hwh
                obtain ⟨q, t, rfl, rfl, hq, hq40, HT, HBH⟩ := hrel
                have hq0 : (0 : Int) ≤ (q : Int) := Int.natCast_nonneg _
                obtain ⟨z2, z3⟩ := HXC.out _ HBH.out
                obtain ⟨e0, e1, e2, e3, e4, e5, e6, e7, e8, e9⟩ := HHX.out _ HBH.out
                by_cases hlt : q < cn ∧ q < 40
                · obtain ⟨hlt1, hlt2⟩ := hlt
                  have hq1 : (q : Int) < (cn : Int) := by omega
                  have hq2 : (q : Int) < 40 := by omega
                  obtain ⟨y, hy⟩ : ∃ y, xl[q]? = some y := ⟨_, List.getElem?_eq_getElem (by rw [HLX.out]; exact hlt1)⟩
                  obtain ⟨ad3, aj3, hA3, -, ea3, -, f0, fs⟩ := (HCX.out _ HBH.out).get hy
                  subst hA3
                  have ea3 : ad3.add (q * 9) = aj3 := ea3
                  have HTK := hid (take_snoc_of hy)
                  cases t with
                  | true =>
                    have HNX : Hid (InT true (⟨(dn2 : Int), q2', nm', kd', wh2', ao', an', bo', bn'⟩ : Crd) (xl.take (q + 1))) := hid (by rw [HTK.out]; exact HT.out.more _)
                    clear hy f0 fs
                    go_wp2_with fail
                    go_quiet (fail)
                    go_wp2_with fail
                    go_roundw
                    case rel => exact ⟨q + 1, true, by go_num, rfl, by omega, by omega, HNX, hid (below_drewN HBH.out _)⟩
                    case measure => simp [intOf]; omega
                  | false =>
                    have d0 := f0 _ rfl
                    have d1 := fs 1 _ (by omega) rfl
                    have d2 := fs 2 _ (by omega) rfl
                    have d3 := fs 3 _ (by omega) rfl
                    have d4 := fs 4 _ (by omega) rfl
                    have d5 := fs 5 _ (by omega) rfl
                    have d6 := fs 6 _ (by omega) rfl
                    have d7 := fs 7 _ (by omega) rfl
                    have d8 := fs 8 _ (by omega) rfl
                    by_cases hxy : y = (⟨(dn2 : Int), q2', nm', kd', wh2', ao', an', bo', bn'⟩ : Crd)
                    · have HNX : Hid (InT true (⟨(dn2 : Int), q2', nm', kd', wh2', ao', an', bo', bn'⟩ : Crd) (xl.take (q + 1))) := hid (by rw [HTK.out, hxy]; exact InT.here _ _)
                      subst hxy
                      simp only at d0 d1 d2 d3 d4 d5 d6 d7 d8
                      clear hy f0 fs
                      go_wp2_with fail
                      go_quiet (fail)
                      go_wp2_with fail
                      go_roundw
                      case rel => exact ⟨q + 1, true, by go_num, rfl, by omega, by omega, HNX, hid (below_drewN HBH.out _)⟩
                      case measure => simp [intOf]; omega
                    · have HNX : Hid (InT false (⟨(dn2 : Int), q2', nm', kd', wh2', ao', an', bo', bn'⟩ : Crd) (xl.take (q + 1))) := hid (by rw [HTK.out]; exact HT.out.not hxy)
                      obtain ⟨dd, q2, nm, kd, wh2, ao, an, bo, bn⟩ := y
                      simp only at d0 d1 d2 d3 d4 d5 d6 d7 d8
                      have HBI2 := HBH
                      clear hy f0 fs HTK HT
                      by_cases h_d : ¬ dd = (dn2 : Int)
                      · have b_d : (dd == (dn2 : Int)) = false := beq_eq_false_iff_ne.2 h_d
                        go_wp2_with fail
                        go_quiet (fail)
                        go_wp2_with fail
                        go_roundw
                        case rel => exact ⟨q + 1, false, by go_num, rfl, by omega, by omega, HNX, hid (below_drewN HBI2.out _)⟩
                        case measure => simp [intOf]; omega
                      replace h_d := Classical.not_not.1 h_d
                      subst h_d
                      by_cases h_q : ¬ q2 = q2'
                      · have b_q : (q2 == q2') = false := beq_eq_false_iff_ne.2 h_q
                        go_wp2_with fail
                        go_quiet (fail)
                        go_wp2_with fail
                        go_roundw
                        case rel => exact ⟨q + 1, false, by go_num, rfl, by omega, by omega, HNX, hid (below_drewN HBI2.out _)⟩
                        case measure => simp [intOf]; omega
                      replace h_q := Classical.not_not.1 h_q
                      subst h_q
                      by_cases h_nm : ¬ nm = nm'
                      · have t_nm : ¬ nm.toList = nm'.toList := fun h => h_nm ((ba_iff _ _).1 h)
                        go_wp2_with fail
                        go_quiet (fail)
                        go_wp2_with fail
                        go_roundw
                        case rel => exact ⟨q + 1, false, by go_num, rfl, by omega, by omega, HNX, hid (below_drewN HBI2.out _)⟩
                        case measure => simp [intOf]; omega
                      replace h_nm := Classical.not_not.1 h_nm
                      subst h_nm
                      by_cases h_kd : ¬ kd = kd'
                      · have b_kd : (kd == kd') = false := beq_eq_false_iff_ne.2 h_kd
                        go_wp2_with fail
                        go_quiet (fail)
                        go_wp2_with fail
                        go_roundw
                        case rel => exact ⟨q + 1, false, by go_num, rfl, by omega, by omega, HNX, hid (below_drewN HBI2.out _)⟩
                        case measure => simp [intOf]; omega
                      replace h_kd := Classical.not_not.1 h_kd
                      subst h_kd
                      by_cases h_wh : ¬ wh2 = wh2'
                      · have t_wh : ¬ wh2.toList = wh2'.toList := fun h => h_wh ((ba_iff _ _).1 h)
                        go_wp2_with fail
                        go_quiet (fail)
                        go_wp2_with fail
                        go_roundw
                        case rel => exact ⟨q + 1, false, by go_num, rfl, by omega, by omega, HNX, hid (below_drewN HBI2.out _)⟩
                        case measure => simp [intOf]; omega
                      replace h_wh := Classical.not_not.1 h_wh
                      subst h_wh
                      by_cases h_ao : ¬ ao = ao'
                      · have t_ao : ¬ ao.toList = ao'.toList := fun h => h_ao ((ba_iff _ _).1 h)
                        go_wp2_with fail
                        go_quiet (fail)
                        go_wp2_with fail
                        go_roundw
                        case rel => exact ⟨q + 1, false, by go_num, rfl, by omega, by omega, HNX, hid (below_drewN HBI2.out _)⟩
                        case measure => simp [intOf]; omega
                      replace h_ao := Classical.not_not.1 h_ao
                      subst h_ao
                      by_cases h_an : ¬ an = an'
                      · have t_an : ¬ an.toList = an'.toList := fun h => h_an ((ba_iff _ _).1 h)
                        go_wp2_with fail
                        go_quiet (fail)
                        go_wp2_with fail
                        go_roundw
                        case rel => exact ⟨q + 1, false, by go_num, rfl, by omega, by omega, HNX, hid (below_drewN HBI2.out _)⟩
                        case measure => simp [intOf]; omega
                      replace h_an := Classical.not_not.1 h_an
                      subst h_an
                      by_cases h_bo : ¬ bo = bo'
                      · have t_bo : ¬ bo.toList = bo'.toList := fun h => h_bo ((ba_iff _ _).1 h)
                        go_wp2_with fail
                        go_quiet (fail)
                        go_wp2_with fail
                        go_roundw
                        case rel => exact ⟨q + 1, false, by go_num, rfl, by omega, by omega, HNX, hid (below_drewN HBI2.out _)⟩
                        case measure => simp [intOf]; omega
                      replace h_bo := Classical.not_not.1 h_bo
                      subst h_bo
                      by_cases h_bn : ¬ bn = bn'
                      · have t_bn : ¬ bn.toList = bn'.toList := fun h => h_bn ((ba_iff _ _).1 h)
                        go_wp2_with fail
                        go_quiet (fail)
                        go_wp2_with fail
                        go_roundw
                        case rel => exact ⟨q + 1, false, by go_num, rfl, by omega, by omega, HNX, hid (below_drewN HBI2.out _)⟩
                        case measure => simp [intOf]; omega
                      replace h_bn := Classical.not_not.1 h_bn
                      subst h_bn
                      exact absurd rfl hxy
                · have HQ : Hid (q = min 40 cn) := hid (by omega)
                  have HIN : Hid (t = true) := hid (HT.out.yes (by
                    have e : xl.take q = xl.take 40 := by rw [HQ.out, ← HLX.out, List.take_eq_take_iff]; omega
                    rw [e]; exact HMEM.out))
                  obtain rfl : t = true := HIN.out
                  have hxw : IntKind.i64.wrap (xa + 56) = xa + 56 := wrap_in _ (by omega)
                  have hx1 : ¬ xa + 56 < u := by omega
                  have hx2 : ¬ u ≤ now := by omega
                  by_cases hlt1 : q < cn
                  · have hq1 : (q : Int) < (cn : Int) := by omega
                    have hq2 : ¬ (q : Int) < 40 := by omega
                    clear hlt
                    go_wp2_with fail
                    go_quiet (fail)
                    go_wp2_with fail
                    go_roundw
                    case rel => exact ⟨p + 1, by omega, by go_num, hid (below_drewN (HBI5.out.trans (HBH.out.mono HBI5.out.size)) _)⟩
                    case measure => simp [intOf]; omega
                  · have hq1 : ¬ (q : Int) < (cn : Int) := by omega
                    clear hlt
                    go_wp2_with fail
                    go_quiet (fail)
                    go_wp2_with fail
                    go_roundw
                    case rel => exact ⟨p + 1, by omega, by go_num, hid (below_drewN (HBI5.out.trans (HBH.out.mono HBI5.out.size)) _)⟩
                    case measure => simp [intOf]; omega
            · have hp1 : ¬ (p : Int) < (na : Int) := by omega
              go_wp2_with fail
              refine (HLV.out wi).mono ?_
              rintro er w8 ⟨rfl, bl8⟩
              go_wp2_with fail
              go_ret
              exact ⟨rfl, HB4.out.trans ((HBI.out.mono HB4.out.size).trans (bl8.mono (Nat.le_trans HB4.out.size HBI.out.size)))⟩
  · have HNEW := hid (fun W => new_no o ho W)
    clear hdn hD
    go_enter Try.func4, Try.ntmps4
    go_wp2_with fail
    refine (HNEW.out w).mono ?_
    rintro er w2 ⟨rfl, hw⟩
    have hw2 : w = w2 := hw
    subst hw2
    go_wp2_with fail
    refine (HLV.out w).mono ?_
    rintro er w2 ⟨rfl, bl⟩
    go_wp2_with fail
    go_ret
    exact ⟨rfl, bl⟩
end Go.Proofs.Ytkimhdcngagmaaa.Sh
