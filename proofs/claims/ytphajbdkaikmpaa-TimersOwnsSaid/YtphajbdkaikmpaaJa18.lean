/-
  TimersOwns. Written by mk_tmlaws_b.py.
-/
import Derived.Test.YtphajbdkaikmpaaJa17
set_option linter.unusedVariables false
set_option linter.unusedSimpArgs false
namespace Go.Proofs.Ytphajbdkaikmpaa.Sh
open Go Go.RowKit

set_option linter.unusedSimpArgs false
set_option linter.unusedVariables false
set_option maxRecDepth 100000
set_option maxHeartbeats 16000000 in
theorem timersOwns_walk (DA : Option Addr) (xs : List D3) (dn dc : Nat) (hdn : xs.length = dn) (w : World) (hD : Els encD3 w w.heap.size DA xs) (h64 : ∀ x ∈ xs, In64 x.2.1) :
    Calls Try.prog 6 #[.slice DA dn dc] w fun e w' => e = .returned (.bool true) ∧ Below w.heap.size w w' := by
  have HLV := hid (fun W => lives14_any W)
  have HNEW := hid (fun W => newQ_any W)
  have HDN := hid hdn
  have H64 := hid h64
  have HDD := hid (fun W (hW : Below w.heap.size w W) => hD.below hW)
  clear hdn hD h64
  go_enter Try.func6, Try.ntmps6
  go_wp2_with fail
  refine (HNEW.out w).mono ?_
  rintro er w2 ⟨q, rfl, hbk, hb2⟩
  obtain ⟨w3, hw3⟩ : ∃ y, y = w2.alloc (.cells #[.slice none 0 0] 28) := ⟨_, rfl⟩
  have hbt := bthT_new hb2 hbk
  rw [← hw3] at hbt
  have HB3 : Hid (Below w.heap.size w w3) := hid (by rw [hw3]; exact hb2.alloc hb2.size _)
  have HBT := hid hbt
  have HW3 := hid hw3
  obtain ⟨r, hgr⟩ : ∃ x, x = w2.heap.size := ⟨_, rfl⟩
  rw [← hgr] at HBT
  clear hbt hw3 hbk hb2 HNEW
  go_upto_region 3 with fail
  rw [← HW3.out, ← hgr]
  clear hgr HW3
  go_wp2_with fail
  go_loopw [5] (fun i wr => ∃ k : Nat, k ≤ dn ∧ k ≤ 60 ∧ i = .int .i64 (k : Int) ∧ Hid (∃ (P R : Nat → Prop) (L : List Tm), Bth wr w.heap.size P R q r (500 * k) L) ∧ Hid (Below w.heap.size w wr)) (fun i _ => 60 - (intOf i).toNat)
  case atStart => exact ⟨0, Nat.zero_le _, Nat.zero_le _, rfl, hid ⟨_, _, _, HBT.out⟩, HB3⟩
  case round =>
    clear HBT HB3
    obtain ⟨wj, hwj⟩ : ∃ x, x = wr := ⟨_, rfl⟩
    subst hwj
    obtain ⟨k, hk, hkc, rfl, HEX, HB⟩ := hrel
    obtain ⟨P, R, L, hbt⟩ := HEX.out
    have HBT := hid hbt
    have hk0 : (0 : Int) ≤ (k : Int) := Int.natCast_nonneg _
    clear hbt HEX
    by_cases hlt : k < dn ∧ k < 60
    · obtain ⟨hl1, hl2⟩ := hlt
      obtain ⟨⟨op, kd, due⟩, hx⟩ : ∃ x, xs[k]? = some x := ⟨_, List.getElem?_eq_getElem (by rw [HDN.out]; exact hl1)⟩
      obtain ⟨ad, aj, hA, ea, e0, e1, e2⟩ := deed_at (HDD.out wj HB.out) hx
      subst hA
      have hi1 : (k : Int) < (dn : Int) := by omega
      have hi2 : (k : Int) < 60 := by omega
      have HDO := hid (doesT_any HBT.out HB.out.size op kd due (H64.out _ (List.mem_of_getElem? hx)) (by omega))
      simp only at e0 e1 e2
      clear hx
      go_wp2_with fail
      refine HDO.out.mono ?_
      rintro er w4 ⟨rfl, P2, R2, q1, q2⟩
      have HB4 := hid (HB.out.trans q2)
      have HBT4 := hid q1
      clear q1 q2 HDO e0 e1 e2

      go_wp2_with fail
      go_roundw
      case rel => exact ⟨k + 1, by omega, by omega, by go_num, hid ⟨_, _, _, by rw [show 500 * (k + 1) = 500 * k + 500 by omega]; exact HBT4.out⟩, HB4⟩
      case measure => simp [intOf]; omega
    · by_cases hl1 : k < dn
      · have hi1 : (k : Int) < (dn : Int) := by omega
        have hi2 : ¬ (k : Int) < 60 := by omega
        clear hlt
        have HAL := allQ_any HBT.out.p
        have hm64 := HBT.out.len
        obtain ⟨m, hm⟩ : ∃ m, L.length = m := ⟨_, rfl⟩
        rw [hm] at HAL hm64
        have HAL := hid HAL
        have HM := hid hm
        clear hm
        go_wp2_with fail
        refine HAL.out.mono ?_
        rintro er w6 ⟨A6, c6, rfl, o6, b6⟩
        have hc6 : m ≤ c6 ∧ c6 ≤ 9223372036854775807 := by
          obtain ⟨A', c', e, h1, h2, _⟩ := o6.els
          simp only [Value.slice.injEq] at e
          obtain ⟨-, -, rfl⟩ := e
          rw [HM.out] at h1
          exact ⟨h1, h2⟩
        have hrow : ∃ g tl, 0 < m → A6 = some ⟨g, 0, none⟩ ∧ wj.heap.size ≤ g ∧ RowE encT 37 w6 g tl L := by
          rcases Nat.eq_zero_or_pos m with h0 | h0
          · exact ⟨0, [], fun h => by omega⟩
          · obtain ⟨g, tl, e, hg, hr, _⟩ := Own.rowE o6 HM.out h0
            exact ⟨g, tl, fun _ => ⟨e, hg, hr⟩⟩
        obtain ⟨g, tl, hrow⟩ := hrow
        have HA6 := hid (fun h => (hrow h).1)
        have HG6 := hid (fun h => (hrow h).2.1)
        have HR6 : Hid (0 < m → ∃ l', l'.length = m ∧ RowE encT 37 w6 g tl l') := hid (fun h => ⟨L, HM.out, (hrow h).2.2⟩)
        have HBT6 := hid (HBT.out.below b6)
        have HB6 := hid (HB.out.trans (b6.mono HB.out.size))
        have HNG : Hid (0 < m → ¬ P g ∧ ¬ R g) := hid (fun h => ⟨fun hp => by have := HBT.out.p.dom g hp; have := HG6.out h; omega, fun hp => by have := HBT.out.r.dom g hp; have := HG6.out h; omega⟩)
        have HGW : Hid (0 < m → w.heap.size ≤ g) := hid (fun h => Nat.le_trans HB.out.size (HG6.out h))
        clear hrow o6 b6 HAL
        go_wp2_with fail
        go_loopw [7] (fun i wr => ∃ j : Nat, i = .int .i64 (j : Int) ∧ j ≤ m ∧ Hid (0 < m → ∃ l', l'.length = m ∧ RowE encT 37 wr g tl l') ∧ Hid (Bth wr w.heap.size P R q r (500 * k) L) ∧ Hid (Below w.heap.size w wr)) (fun i _ => m - (intOf i).toNat)
        case atStart => exact ⟨0, rfl, Nat.zero_le _, HR6, HBT6, HB6⟩
        case round =>
          clear HR6 HBT6 HB6
          obtain ⟨wi, hwi⟩ : ∃ x, x = wr := ⟨_, rfl⟩
          subst hwi
          obtain ⟨j, rfl, hj, HRJ, HBTJ, HBJ⟩ := hrel
          have hj0 : (0 : Int) ≤ (j : Int) := Int.natCast_nonneg _
          by_cases hlt2 : j < m
          · have h0m : 0 < m := by omega
            obtain ⟨l', hl', hr'⟩ := HRJ.out h0m
            obtain rfl := HA6.out h0m
            obtain ⟨⟨xd, xu⟩, hx⟩ : ∃ x, l'[j]? = some x := ⟨_, List.getElem?_eq_getElem (by rw [hl']; exact hlt2)⟩
            have z0 : wi.cell? ⟨g, j * 2, none⟩ = some (.int .i64 xd) := hr'.cell (i := 0) hx (by decide) rfl
            have z1 : wi.cell? ⟨g, j * 2 + 1, none⟩ = some (.int .i64 xu) := hr'.cell (i := 1) hx (by decide) rfl
            have f0 := hr'.f (j * 2)
            have f1 := hr'.f (j * 2 + 1)
            have aj := addr_rowT g (j * 2)
            have hj1 : (j : Int) < (m : Int) := by omega
            obtain ⟨w7, hw7⟩ : ∃ y, y = (wi.setCell ⟨g, j * 2, none⟩ (.int .i64 (-7))).setCell ⟨g, j * 2 + 1, none⟩ (.int .i64 7) := ⟨_, rfl⟩
            have hr7 : RowE encT 37 w7 g tl (l'.set j (-7, 7)) := by rw [hw7]; exact hr'.put (by rw [hl']; exact hlt2) (-7, 7)
            have hg7 : Grew wi w7 (fun x => x = g) := by rw [hw7]; exact (Grew.of_gro (X := fun x => x = g) (gro_set1 wi g _ _) rfl).trans (Grew.of_gro (gro_set1 _ g _ _) rfl)
            have HR7 : Hid (0 < m → ∃ l', l'.length = m ∧ RowE encT 37 w7 g tl l') := hid (fun _ => ⟨_, by rw [List.length_set]; exact hl', hr7⟩)
            have HBT7 := hid (HBTJ.out.far hg7 (fun x hX => by subst hX; exact HNG.out h0m))
            have HB7 : Hid (Below w.heap.size w w7) := hid (HBJ.out.trans (hg7.below HBJ.out.size (fun x hX => by subst hX; exact HGW.out h0m)))
            have HW7 := hid hw7
            clear hx hr' hr7 hg7 hw7
            go_wp2_with fail
            rw [← HW7.out]
            go_roundw
            case rel => exact ⟨j + 1, by go_num, by omega, HR7, HBT7, HB7⟩
            case measure => simp [intOf]; omega
          · obtain rfl : j = m := by omega
            have HLK := hid (likeT_any HBTJ.out)
            go_wp2_with fail
            refine HLK.out.mono ?_
            rintro er w7 ⟨rfl, b7⟩
            have HB7 := hid (HBJ.out.trans (b7.mono HBJ.out.size))
            clear b7 HLK
            go_wp2_with fail
            refine (HLV.out w7).mono ?_
            rintro er w8 ⟨rfl, b8⟩
            go_wp2_with fail
            go_ret
            exact ⟨rfl, HB7.out.trans (b8.mono HB7.out.size)⟩
      · have hi1 : ¬ (k : Int) < (dn : Int) := by omega
        clear hlt
        have HAL := allQ_any HBT.out.p
        have hm64 := HBT.out.len
        obtain ⟨m, hm⟩ : ∃ m, L.length = m := ⟨_, rfl⟩
        rw [hm] at HAL hm64
        have HAL := hid HAL
        have HM := hid hm
        clear hm
        go_wp2_with fail
        refine HAL.out.mono ?_
        rintro er w6 ⟨A6, c6, rfl, o6, b6⟩
        have hc6 : m ≤ c6 ∧ c6 ≤ 9223372036854775807 := by
          obtain ⟨A', c', e, h1, h2, _⟩ := o6.els
          simp only [Value.slice.injEq] at e
          obtain ⟨-, -, rfl⟩ := e
          rw [HM.out] at h1
          exact ⟨h1, h2⟩
        have hrow : ∃ g tl, 0 < m → A6 = some ⟨g, 0, none⟩ ∧ wj.heap.size ≤ g ∧ RowE encT 37 w6 g tl L := by
          rcases Nat.eq_zero_or_pos m with h0 | h0
          · exact ⟨0, [], fun h => by omega⟩
          · obtain ⟨g, tl, e, hg, hr, _⟩ := Own.rowE o6 HM.out h0
            exact ⟨g, tl, fun _ => ⟨e, hg, hr⟩⟩
        obtain ⟨g, tl, hrow⟩ := hrow
        have HA6 := hid (fun h => (hrow h).1)
        have HG6 := hid (fun h => (hrow h).2.1)
        have HR6 : Hid (0 < m → ∃ l', l'.length = m ∧ RowE encT 37 w6 g tl l') := hid (fun h => ⟨L, HM.out, (hrow h).2.2⟩)
        have HBT6 := hid (HBT.out.below b6)
        have HB6 := hid (HB.out.trans (b6.mono HB.out.size))
        have HNG : Hid (0 < m → ¬ P g ∧ ¬ R g) := hid (fun h => ⟨fun hp => by have := HBT.out.p.dom g hp; have := HG6.out h; omega, fun hp => by have := HBT.out.r.dom g hp; have := HG6.out h; omega⟩)
        have HGW : Hid (0 < m → w.heap.size ≤ g) := hid (fun h => Nat.le_trans HB.out.size (HG6.out h))
        clear hrow o6 b6 HAL
        go_wp2_with fail
        go_loopw [7] (fun i wr => ∃ j : Nat, i = .int .i64 (j : Int) ∧ j ≤ m ∧ Hid (0 < m → ∃ l', l'.length = m ∧ RowE encT 37 wr g tl l') ∧ Hid (Bth wr w.heap.size P R q r (500 * k) L) ∧ Hid (Below w.heap.size w wr)) (fun i _ => m - (intOf i).toNat)
        case atStart => exact ⟨0, rfl, Nat.zero_le _, HR6, HBT6, HB6⟩
        case round =>
          clear HR6 HBT6 HB6
          obtain ⟨wi, hwi⟩ : ∃ x, x = wr := ⟨_, rfl⟩
          subst hwi
          obtain ⟨j, rfl, hj, HRJ, HBTJ, HBJ⟩ := hrel
          have hj0 : (0 : Int) ≤ (j : Int) := Int.natCast_nonneg _
          by_cases hlt2 : j < m
          · have h0m : 0 < m := by omega
            obtain ⟨l', hl', hr'⟩ := HRJ.out h0m
            obtain rfl := HA6.out h0m
            obtain ⟨⟨xd, xu⟩, hx⟩ : ∃ x, l'[j]? = some x := ⟨_, List.getElem?_eq_getElem (by rw [hl']; exact hlt2)⟩
            have z0 : wi.cell? ⟨g, j * 2, none⟩ = some (.int .i64 xd) := hr'.cell (i := 0) hx (by decide) rfl
            have z1 : wi.cell? ⟨g, j * 2 + 1, none⟩ = some (.int .i64 xu) := hr'.cell (i := 1) hx (by decide) rfl
            have f0 := hr'.f (j * 2)
            have f1 := hr'.f (j * 2 + 1)
            have aj := addr_rowT g (j * 2)
            have hj1 : (j : Int) < (m : Int) := by omega
            obtain ⟨w7, hw7⟩ : ∃ y, y = (wi.setCell ⟨g, j * 2, none⟩ (.int .i64 (-7))).setCell ⟨g, j * 2 + 1, none⟩ (.int .i64 7) := ⟨_, rfl⟩
            have hr7 : RowE encT 37 w7 g tl (l'.set j (-7, 7)) := by rw [hw7]; exact hr'.put (by rw [hl']; exact hlt2) (-7, 7)
            have hg7 : Grew wi w7 (fun x => x = g) := by rw [hw7]; exact (Grew.of_gro (X := fun x => x = g) (gro_set1 wi g _ _) rfl).trans (Grew.of_gro (gro_set1 _ g _ _) rfl)
            have HR7 : Hid (0 < m → ∃ l', l'.length = m ∧ RowE encT 37 w7 g tl l') := hid (fun _ => ⟨_, by rw [List.length_set]; exact hl', hr7⟩)
            have HBT7 := hid (HBTJ.out.far hg7 (fun x hX => by subst hX; exact HNG.out h0m))
            have HB7 : Hid (Below w.heap.size w w7) := hid (HBJ.out.trans (hg7.below HBJ.out.size (fun x hX => by subst hX; exact HGW.out h0m)))
            have HW7 := hid hw7
            clear hx hr' hr7 hg7 hw7
            go_wp2_with fail
            rw [← HW7.out]
            go_roundw
            case rel => exact ⟨j + 1, by go_num, by omega, HR7, HBT7, HB7⟩
            case measure => simp [intOf]; omega
          · obtain rfl : j = m := by omega
            have HLK := hid (likeT_any HBTJ.out)
            go_wp2_with fail
            refine HLK.out.mono ?_
            rintro er w7 ⟨rfl, b7⟩
            have HB7 := hid (HBJ.out.trans (b7.mono HBJ.out.size))
            clear b7 HLK
            go_wp2_with fail
            refine (HLV.out w7).mono ?_
            rintro er w8 ⟨rfl, b8⟩
            go_wp2_with fail
            go_ret
            exact ⟨rfl, HB7.out.trans (b8.mono HB7.out.size)⟩
end Go.Proofs.Ytphajbdkaikmpaa.Sh
