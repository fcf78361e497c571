/-
  How many of a kind there are; set twice.
-/
import Derived.Test.YtphajbdkaikmpaaJa14
set_option linter.unusedVariables false
set_option linter.unusedSimpArgs false
namespace Go.Proofs.Ytphajbdkaikmpaa.Sh
open Go Go.RowKit

set_option linter.unusedSimpArgs false
set_option linter.unusedVariables false
def cntT (kd : Int) (l : List Tm) : Nat := (l.filter fun x => x.2 == kd).length
theorem cntT_snoc (kd : Int) (l : List Tm) (y : Tm) : cntT kd (l ++ [y]) = cntT kd l + if y.2 = kd then 1 else 0 := by
  unfold cntT
  rw [List.filter_append, List.length_append]
  by_cases h : y.2 = kd
  · rw [if_pos h]; simp [h]
  · rw [if_neg h]; simp [h]
theorem cntT_noT (kd : Int) (l : List Tm) : cntT kd l + (noT kd l).length = l.length := by
  induction l with
  | nil => rfl
  | cons y t ih =>
    unfold cntT noT at *
    by_cases h : y.2 = kd
    · rw [List.filter_cons_of_pos (by simp [h]), List.filter_cons_of_neg (by simp [h])]
      simp only [List.length_cons]; omega
    · rw [List.filter_cons_of_neg (by simp [h]), List.filter_cons_of_pos (by simp [h])]
      simp only [List.length_cons]; omega
theorem noT_noT (kd : Int) (l : List Tm) : noT kd (noT kd l) = noT kd l := noT_self (fun x hx => (mem_noT.1 hx).2)
theorem cntT_ins (kd d : Int) (l : List Tm) : cntT kd (insT (d, kd) (noT kd l)) = 1 := by
  have h1 : cntT kd (insT (d, kd) (noT kd l)) = cntT kd ((d, kd) :: noT kd l) := ((insT_perm _ _).filter _).length_eq
  have h2 := cntT_noT kd (noT kd l)
  rw [noT_noT] at h2
  have h3 : cntT kd ((d, kd) :: noT kd l) = cntT kd (noT kd l) + 1 := by unfold cntT; rw [List.filter_cons_of_pos (by simp)]; rfl
  omega
/-- Set twice: of the kind there is the last one, or none, for the queue is full. -/
theorem set_twice (L : List Tm) (kd a b : Int) (hn : (L.map (·.2)).Nodup) : ∃ (E : Int) (L1 L2 : List Tm) (n : Nat), setT kd a L = (E, L1) ∧ setT kd b L1 = (E, L2) ∧ cntT kd L2 = n ∧ (∀ x ∈ L2, x.2 = kd → x.1 = b) ∧ ((E = 12 ∧ n = 0) ∨ (E = 0 ∧ n = 1)) := by
  by_cases h : (noT kd L).length = L.length ∧ L.length = 64
  · have h1 := cntT_noT kd L
    refine ⟨12, L, L, cntT kd L, if_pos h, if_pos h, rfl, fun x hx he => ?_, .inl ⟨rfl, by omega⟩⟩
    rcases noT_lt (k := kd) hn with ⟨_, h2⟩ | ⟨h2, _⟩
    · exact absurd he (h2 x hx)
    · omega
  · have h1 := cntT_noT kd (insT (a, kd) (noT kd L))
    rw [cntT_ins] at h1
    refine ⟨0, insT (a, kd) (noT kd L), insT (b, kd) (noT kd (insT (a, kd) (noT kd L))), 1, if_neg h, if_neg (by omega), cntT_ins _ _ _, fun x hx he => ?_, .inr ⟨rfl, rfl⟩⟩
    rcases List.mem_cons.1 ((insT_perm _ _).mem_iff.1 hx) with rfl | hx
    · rfl
    · exact absurd he (mem_noT.1 hx).2
theorem LQ.max {w0 w : World} {N : Nat → Prop} {q k : Nat} {L : List Tm} (h : LQ w0 w N q k L) : L.length ≤ 64 := by
  obtain ⟨P, ⟨_, _, _, _, _, _, tq, _⟩, _⟩ := h
  exact tq.max
theorem Bth.far {w w' : World} {B : Nat} {P R X : Nat → Prop} {q r k : Nat} {L : List Tm} (h : Bth w B P R q r k L) (hg : Grew w w' X) (hx : ∀ x, X x → ¬ P x ∧ ¬ R x) : Bth w' B P R q r k L := ⟨h.p.grew hg (fun x hX => (hx x hX).1), h.r.grew hg (fun x hX => (hx x hX).2), h.dis, h.lowP, h.lowR⟩
end Go.Proofs.Ytphajbdkaikmpaa.Sh
/-
  TimersOne. Written by mk_tmlaws_b.py.
-/
namespace Go.Proofs.Ytphajbdkaikmpaa.Sh
open Go Go.RowKit

set_option linter.unusedSimpArgs false
set_option linter.unusedVariables false
set_option maxRecDepth 100000
set_option maxHeartbeats 16000000 in
theorem timersOne_walk (kind a b : Int) (hkd : In64 kind) (DA : Option Addr) (xs : List D3) (dn dc : Nat) (hdn : xs.length = dn) (w : World) (hD : Els encD3 w w.heap.size DA xs) (h64 : ∀ x ∈ xs, In64 x.2.1) :
    Calls Try.prog 5 #[.slice DA dn dc, .int .i64 kind, .int .i64 a, .int .i64 b] w fun e w' => e = .returned (.bool true) ∧ Below w.heap.size w w' := by
  have HLV := hid (fun W => lives14_any W)
  have HNEW := hid (fun W => newQ_any W)
  have HDN := hid hdn
  have H64 := hid h64
  have HDD := hid (fun W (hW : Below w.heap.size w W) => hD.below hW)
  have HKD := hid hkd
  clear hdn hD h64 hkd
  go_enter Try.func5, Try.ntmps5
  go_wp2_with fail
  refine (HNEW.out w).mono ?_
  rintro er w2 ⟨q, rfl, hbk, hb2⟩
  obtain ⟨w3, hw3⟩ : ∃ y, y = w2.alloc (.cells #[.slice none 0 0] 28) := ⟨_, rfl⟩
  have hbt := bthT_new hb2 hbk
  rw [← hw3] at hbt
  have HB3 : Hid (Below w.heap.size w w3) := hid (by rw [hw3]; exact hb2.alloc hb2.size _)
  have HBT := hid hbt
  have HW3 := hid hw3
  obtain ⟨r, hgr⟩ : ∃ x, x = w2.heap.size := ⟨_, rfl⟩
  rw [← hgr] at HBT
  clear hbt hw3 hbk hb2 HNEW
  go_upto_region 3 with fail
  rw [← HW3.out, ← hgr]
  clear hgr HW3
  go_wp2_with fail
  go_loopw [11] (fun i wr => ∃ k : Nat, k ≤ dn ∧ k ≤ 100 ∧ i = .int .i64 (k : Int) ∧ Hid (∃ (P R : Nat → Prop) (L : List Tm), Bth wr w.heap.size P R q r (500 * k) L) ∧ Hid (Below w.heap.size w wr)) (fun i _ => 100 - (intOf i).toNat)
  case atStart => exact ⟨0, Nat.zero_le _, Nat.zero_le _, rfl, hid ⟨_, _, _, HBT.out⟩, HB3⟩
  case round =>
    clear HBT HB3
    obtain ⟨wj, hwj⟩ : ∃ x, x = wr := ⟨_, rfl⟩
    subst hwj
    obtain ⟨k, hk, hkc, rfl, HEX, HB⟩ := hrel
    obtain ⟨P, R, L, hbt⟩ := HEX.out
    have HBT := hid hbt
    have hk0 : (0 : Int) ≤ (k : Int) := Int.natCast_nonneg _
    clear hbt HEX
    by_cases hlt : k < dn ∧ k < 100
    · obtain ⟨hl1, hl2⟩ := hlt
      obtain ⟨⟨op, kd, due⟩, hx⟩ : ∃ x, xs[k]? = some x := ⟨_, List.getElem?_eq_getElem (by rw [HDN.out]; exact hl1)⟩
      obtain ⟨ad, aj, hA, ea, e0, e1, e2⟩ := deed_at (HDD.out wj HB.out) hx
      subst hA
      have hi1 : (k : Int) < (dn : Int) := by omega
      have hi2 : (k : Int) < 100 := by omega
      have HDO := hid (doesT_any HBT.out HB.out.size op kd due (H64.out _ (List.mem_of_getElem? hx)) (by omega))
      simp only at e0 e1 e2
      clear hx
      go_wp2_with fail
      refine HDO.out.mono ?_
      rintro er w4 ⟨rfl, P2, R2, q1, q2⟩
      have HB4 := hid (HB.out.trans q2)
      have HBT4 := hid q1
      clear q1 q2 HDO e0 e1 e2

      go_wp2_with fail
      go_roundw
      case rel => exact ⟨k + 1, by omega, by omega, by go_num, hid ⟨_, _, _, by rw [show 500 * (k + 1) = 500 * k + 500 by omega]; exact HBT4.out⟩, HB4⟩
      case measure => simp [intOf]; omega
    · by_cases hl1 : k < dn
      · have hi1 : (k : Int) < (dn : Int) := by omega
        have hi2 : ¬ (k : Int) < 100 := by omega
        clear hlt
        obtain ⟨E, L1, L2, n, es1, es2, hcn, hdu, hEn⟩ := set_twice L kind a b HBT.out.nodup
        have HQ := hid (HBT.out.lq rfl HB.out)
        have HS1 := hid (HQ.out.setC kind a HKD.out (by omega) es1)
        have HE2 := hid es2
        have HCN := hid hcn
        have HDU := hid hdu
        clear es1 es2 hcn hdu
        go_wp2_with fail
        refine HS1.out.mono ?_
        rintro er w4 ⟨rfl, q4, -⟩
        have HS2 := hid (q4.setC kind b HKD.out (by omega) HE2.out)
        clear q4 HS1
        go_wp2_with fail
        refine HS2.out.mono ?_
        rintro er w5 ⟨rfl, q5, -⟩
        have hm64 := q5.max
        have HAL := q5.all
        obtain ⟨m, hm⟩ : ∃ m, L2.length = m := ⟨_, rfl⟩
        rw [hm] at HAL hm64
        have HAL := hid HAL
        have HM := hid hm
        clear hm q5 HS2
        go_wp2_with fail
        refine HAL.out.mono ?_
        rintro er w6 ⟨A6, c6, rfl, o6, q6, -⟩
        have hc6 : m ≤ c6 ∧ c6 ≤ 9223372036854775807 := by
          obtain ⟨A', c', e, h1, h2, _⟩ := o6.els
          simp only [Value.slice.injEq] at e
          obtain ⟨-, -, rfl⟩ := e
          rw [HM.out] at h1
          exact ⟨h1, h2⟩
        have HEL := hid (own_els o6)
        have HQ6 := hid q6
        have HSTO := q6.stop HKD.out (by omega)
        have hcl := cntT_noT kind L2
        rw [HCN.out, HM.out] at hcl
        have HSL : Hid (decide ((noT kind L2).length < L2.length) = decide (n = 1)) := hid (by rw [HM.out]; rcases hEn with ⟨_, rfl⟩ | ⟨_, rfl⟩ <;> simp <;> omega)
        have HSL2 : Hid (decide ((noT kind L2).length < (noT kind L2).length) = false) := hid (by simp)
        rw [HSL.out] at HSTO
        have HSTO := hid HSTO
        clear o6 q6 hcl HAL
        go_wp2_with fail
        go_loopw [14, 16] (fun v i wr => ∃ (j n' : Nat), v = .int .i64 (n' : Int) ∧ i = .int .i64 (j : Int) ∧ j ≤ m ∧ n' ≤ j ∧ Hid (cntT kind (L2.take j) = n') ∧ w6 = wr) (fun _ i _ => m - (intOf i).toNat)
        case atStart => exact ⟨0, 0, rfl, rfl, Nat.zero_le _, Nat.le_refl _, hid rfl, rfl⟩
        case round =>
          obtain ⟨j, n', rfl, rfl, hj, hnj, HCT, rfl⟩ := hrel
          have hj0 : (0 : Int) ≤ (j : Int) := Int.natCast_nonneg _
          by_cases hlt2 : j < m
          · obtain ⟨⟨xd, xu⟩, hx⟩ : ∃ x, L2[j]? = some x := ⟨_, List.getElem?_eq_getElem (by rw [HM.out]; exact hlt2)⟩
            obtain ⟨ad, aj, rfl, -, ea, -, f0, fs⟩ := HEL.out.get hx
            have ea : ad.add (j * 2) = aj := ea
            have z0 := f0 _ rfl
            have z1 := fs 1 _ (by decide) rfl
            have HX2 := hid (take_snoc_of hx)
            have HDX := hid (fun h => HDU.out (xd, xu) (List.mem_of_getElem? hx) h)
            simp only at z0 z1
            have hj1 : (j : Int) < (m : Int) := by omega
            clear hx f0 fs
            by_cases hk2 : xu = kind
            · subst hk2
              obtain rfl := HDX.out rfl
              have hkk : (xu == xu) = true := by simp
              have hdd : (xd != xd) = false := by simp
              have HC2 : Hid (cntT xu (L2.take (j + 1)) = n' + 1) := hid (by rw [HX2.out, cntT_snoc, if_pos rfl, HCT.out])
              go_wp2_with fail
              go_roundw
              case rel => exact ⟨j + 1, n' + 1, by go_num, by go_num, by omega, by omega, HC2, by first | rfl | trivial⟩
              case measure => simp [intOf]; omega
            · have hkk : (xu == kind) = false := beq_eq_false_iff_ne.2 hk2
              have HC2 : Hid (cntT kind (L2.take (j + 1)) = n') := hid (by rw [HX2.out, cntT_snoc, if_neg hk2, HCT.out]; rfl)
              go_wp2_with fail
              go_roundw
              case rel => exact ⟨j + 1, n', rfl, by go_num, by omega, by omega, HC2, by first | rfl | trivial⟩
              case measure => simp [intOf]; omega
          · obtain rfl : j = m := by omega
            have hn' : n' = n := by rw [← HCT.out, List.take_of_length_le (by rw [HM.out]; exact Nat.le_refl _)]; exact HCN.out
            have hm64' : ¬ (64 : Int) < (j : Int) := by omega
            rcases hEn with ⟨rfl, rfl⟩ | ⟨rfl, rfl⟩
            · subst hn'
              have HST := hid HSTO.out
              clear hnj HCT
              go_wp2_with fail
              refine HST.out.mono ?_
              rintro er w7 ⟨rfl, q7, -⟩
              have HST2 := q7.stop HKD.out (by omega)
              rw [noT_noT, HSL2.out] at HST2
              have HST2 := hid HST2
              clear q7
              go_wp2_with fail
              refine HST2.out.mono ?_
              rintro er w8 ⟨rfl, q8, -⟩
              have HB8 := hid q8.bel
              clear q8
              go_wp2_with fail
              refine (HLV.out w8).mono ?_
              rintro er w9 ⟨rfl, b9⟩
              go_wp2_with fail
              go_ret
              exact ⟨rfl, HB8.out.trans (b9.mono HB8.out.size)⟩
            · subst hn'
              have HST := hid HSTO.out
              clear hnj HCT
              go_wp2_with fail
              refine HST.out.mono ?_
              rintro er w7 ⟨rfl, q7, -⟩
              have HST2 := q7.stop HKD.out (by omega)
              rw [noT_noT, HSL2.out] at HST2
              have HST2 := hid HST2
              clear q7
              go_wp2_with fail
              refine HST2.out.mono ?_
              rintro er w8 ⟨rfl, q8, -⟩
              have HB8 := hid q8.bel
              clear q8
              go_wp2_with fail
              refine (HLV.out w8).mono ?_
              rintro er w9 ⟨rfl, b9⟩
              go_wp2_with fail
              go_ret
              exact ⟨rfl, HB8.out.trans (b9.mono HB8.out.size)⟩
      · have hi1 : ¬ (k : Int) < (dn : Int) := by omega
        clear hlt
        obtain ⟨E, L1, L2, n, es1, es2, hcn, hdu, hEn⟩ := set_twice L kind a b HBT.out.nodup
        have HQ := hid (HBT.out.lq rfl HB.out)
        have HS1 := hid (HQ.out.setC kind a HKD.out (by omega) es1)
        have HE2 := hid es2
        have HCN := hid hcn
        have HDU := hid hdu
        clear es1 es2 hcn hdu
        go_wp2_with fail
        refine HS1.out.mono ?_
        rintro er w4 ⟨rfl, q4, -⟩
        have HS2 := hid (q4.setC kind b HKD.out (by omega) HE2.out)
        clear q4 HS1
        go_wp2_with fail
        refine HS2.out.mono ?_
        rintro er w5 ⟨rfl, q5, -⟩
        have hm64 := q5.max
        have HAL := q5.all
        obtain ⟨m, hm⟩ : ∃ m, L2.length = m := ⟨_, rfl⟩
        rw [hm] at HAL hm64
        have HAL := hid HAL
        have HM := hid hm
        clear hm q5 HS2
        go_wp2_with fail
        refine HAL.out.mono ?_
        rintro er w6 ⟨A6, c6, rfl, o6, q6, -⟩
        have hc6 : m ≤ c6 ∧ c6 ≤ 9223372036854775807 := by
          obtain ⟨A', c', e, h1, h2, _⟩ := o6.els
          simp only [Value.slice.injEq] at e
          obtain ⟨-, -, rfl⟩ := e
          rw [HM.out] at h1
          exact ⟨h1, h2⟩
        have HEL := hid (own_els o6)
        have HQ6 := hid q6
        have HSTO := q6.stop HKD.out (by omega)
        have hcl := cntT_noT kind L2
        rw [HCN.out, HM.out] at hcl
        have HSL : Hid (decide ((noT kind L2).length < L2.length) = decide (n = 1)) := hid (by rw [HM.out]; rcases hEn with ⟨_, rfl⟩ | ⟨_, rfl⟩ <;> simp <;> omega)
        have HSL2 : Hid (decide ((noT kind L2).length < (noT kind L2).length) = false) := hid (by simp)
        rw [HSL.out] at HSTO
        have HSTO := hid HSTO
        clear o6 q6 hcl HAL
        go_wp2_with fail
        go_loopw [14, 16] (fun v i wr => ∃ (j n' : Nat), v = .int .i64 (n' : Int) ∧ i = .int .i64 (j : Int) ∧ j ≤ m ∧ n' ≤ j ∧ Hid (cntT kind (L2.take j) = n') ∧ w6 = wr) (fun _ i _ => m - (intOf i).toNat)
        case atStart => exact ⟨0, 0, rfl, rfl, Nat.zero_le _, Nat.le_refl _, hid rfl, rfl⟩
        case round =>
          obtain ⟨j, n', rfl, rfl, hj, hnj, HCT, rfl⟩ := hrel
          have hj0 : (0 : Int) ≤ (j : Int) := Int.natCast_nonneg _
          by_cases hlt2 : j < m
          · obtain ⟨⟨xd, xu⟩, hx⟩ : ∃ x, L2[j]? = some x := ⟨_, List.getElem?_eq_getElem (by rw [HM.out]; exact hlt2)⟩
            obtain ⟨ad, aj, rfl, -, ea, -, f0, fs⟩ := HEL.out.get hx
            have ea : ad.add (j * 2) = aj := ea
            have z0 := f0 _ rfl
            have z1 := fs 1 _ (by decide) rfl
            have HX2 := hid (take_snoc_of hx)
            have HDX := hid (fun h => HDU.out (xd, xu) (List.mem_of_getElem? hx) h)
            simp only at z0 z1
            have hj1 : (j : Int) < (m : Int) := by omega
            clear hx f0 fs
            by_cases hk2 : xu = kind
            · subst hk2
              obtain rfl := HDX.out rfl
              have hkk : (xu == xu) = true := by simp
              have hdd : (xd != xd) = false := by simp
              have HC2 : Hid (cntT xu (L2.take (j + 1)) = n' + 1) := hid (by rw [HX2.out, cntT_snoc, if_pos rfl, HCT.out])
              go_wp2_with fail
              go_roundw
              case rel => exact ⟨j + 1, n' + 1, by go_num, by go_num, by omega, by omega, HC2, by first | rfl | trivial⟩
              case measure => simp [intOf]; omega
            · have hkk : (xu == kind) = false := beq_eq_false_iff_ne.2 hk2
              have HC2 : Hid (cntT kind (L2.take (j + 1)) = n') := hid (by rw [HX2.out, cntT_snoc, if_neg hk2, HCT.out]; rfl)
              go_wp2_with fail
              go_roundw
              case rel => exact ⟨j + 1, n', rfl, by go_num, by omega, by omega, HC2, by first | rfl | trivial⟩
              case measure => simp [intOf]; omega
          · obtain rfl : j = m := by omega
            have hn' : n' = n := by rw [← HCT.out, List.take_of_length_le (by rw [HM.out]; exact Nat.le_refl _)]; exact HCN.out
            have hm64' : ¬ (64 : Int) < (j : Int) := by omega
            rcases hEn with ⟨rfl, rfl⟩ | ⟨rfl, rfl⟩
            · subst hn'
              have HST := hid HSTO.out
              clear hnj HCT
              go_wp2_with fail
              refine HST.out.mono ?_
              rintro er w7 ⟨rfl, q7, -⟩
              have HST2 := q7.stop HKD.out (by omega)
              rw [noT_noT, HSL2.out] at HST2
              have HST2 := hid HST2
              clear q7
              go_wp2_with fail
              refine HST2.out.mono ?_
              rintro er w8 ⟨rfl, q8, -⟩
              have HB8 := hid q8.bel
              clear q8
              go_wp2_with fail
              refine (HLV.out w8).mono ?_
              rintro er w9 ⟨rfl, b9⟩
              go_wp2_with fail
              go_ret
              exact ⟨rfl, HB8.out.trans (b9.mono HB8.out.size)⟩
            · subst hn'
              have HST := hid HSTO.out
              clear hnj HCT
              go_wp2_with fail
              refine HST.out.mono ?_
              rintro er w7 ⟨rfl, q7, -⟩
              have HST2 := q7.stop HKD.out (by omega)
              rw [noT_noT, HSL2.out] at HST2
              have HST2 := hid HST2
              clear q7
              go_wp2_with fail
              refine HST2.out.mono ?_
              rintro er w8 ⟨rfl, q8, -⟩
              have HB8 := hid q8.bel
              clear q8
              go_wp2_with fail
              refine (HLV.out w8).mono ?_
              rintro er w9 ⟨rfl, b9⟩
              go_wp2_with fail
              go_ret
              exact ⟨rfl, HB8.out.trans (b9.mono HB8.out.size)⟩
end Go.Proofs.Ytphajbdkaikmpaa.Sh
