/-
  LeaseWanes: as time goes on, with nothing learned, no more is held, and nothing is fresh again. Written by mk_lelawc.py.
-/
import Derived.Test.YtkimhdcngagmaaaJa33
set_option linter.unusedVariables false
set_option linter.unusedSimpArgs false
namespace Go.Proofs.Ytkimhdcngagmaaa.Sh
open Go Go.RowKit

set_option linter.unusedSimpArgs false
set_option linter.unusedVariables false
theorem overB_mono {lo hi : Int} (h : lo ≤ hi) {u : Int} (ho : overB lo u = true) : overB hi u = true := by
  unfold overB at ho ⊢
  have := tk_mono h
  simp at ho ⊢
  omega
theorem held_sub (b : LB) {lo hi : Int} (h : lo ≤ hi) : (b.held hi).Sublist (b.held lo) := by
  have e : b.held hi = (b.held lo).filter fun x => !overB hi x.u := by
    unfold LB.held liveL
    rw [List.filter_filter]
    congr 1
    funext x
    cases h1 : overB lo x.u
    · simp
    · rw [overB_mono h h1]; rfl
  rw [e]
  exact List.filter_sublist
theorem fresh_mono (b : LB) {lo hi : Int} (h : lo ≤ hi) (d : Int) (hf : b.fresh d hi = true) : b.fresh d lo = true := by
  unfold LB.fresh at hf ⊢
  by_cases hd : d = b.own
  · simp [hd]
  · rw [decide_eq_false hd, Bool.false_or] at hf ⊢
    cases hs : b.st d with
    | none => rw [hs] at hf; cases hf
    | some a =>
      rw [hs] at hf
      simp only at hf ⊢
      cases h1 : overB lo (addT a 48)
      · rfl
      · rw [overB_mono h h1] at hf; cases hf
theorem drop_at {α : Type} {l : List α} {j : Nat} {x : α} (h : l[j]? = some x) : l.drop j = x :: l.drop (j + 1) := by
  obtain ⟨hk, hx⟩ := List.getElem?_eq_some_iff.1 h
  rw [← hx, List.getElem_cons_drop]
set_option maxHeartbeats 32000000 in
theorem leaseWanes_walk (o now later : Int) (DA : Option Addr) (xs : List Dd) (dn dc : Nat) (hdn : xs.length = dn) (w : World) (hD : DeedsAt w w.heap.size DA xs) :
    Calls Try.prog 5 #[.int .i64 o, .slice DA dn dc, .int .i64 now, .int .i64 later] w fun e w' => e = .returned (.bool true) ∧ Below w.heap.size w w' := by
  have HLV := hid (fun W => lives_any W)
  by_cases ho : 1 ≤ o ∧ o ≤ 16
  · have HO : Hid (1 ≤ o ∧ o ≤ 16) := hid ho
    obtain ⟨ho1, ho2⟩ := ho
    have HDN := hid hdn
    have HDD := hid (fun W (hW : Below w.heap.size w W) => hD.below hW)
    clear hdn hD
    by_cases hsw : later < now
    · have hlh : later ≤ now := by omega
      obtain ⟨lo, rfl⟩ : ∃ lo, lo = later := ⟨_, rfl⟩
      obtain ⟨hi, rfl⟩ : ∃ hi, hi = now := ⟨_, rfl⟩
      have HNEW := hid (fun W => new_yes o ⟨ho1, ho2⟩ W)
      go_enter Try.func5, Try.ntmps5
      go_wp2_with fail
      refine (HNEW.out w).mono ?_
      rintro er w2 ⟨gs, rfl, hbk, hb2⟩
      obtain ⟨w3, hw3⟩ : ∃ y, y = w2.alloc (.cells #[.int .i64 o, .slice none 0 0, .slice none 0 0] 32) := ⟨_, rfl⟩
      have hbt := bth_new HO.out hb2 hbk
      rw [← hw3] at hbt
      have HB3 : Hid (Below w.heap.size w w3) := hid (by rw [hw3]; exact hb2.alloc hb2.size _)
      have HBT := hid hbt
      have HW3 := hid hw3
      obtain ⟨gr, hgr⟩ : ∃ x, x = w2.heap.size := ⟨_, rfl⟩
      rw [← hgr] at HBT
      clear hbt hw3 hbk hb2 HNEW
      go_upto_region 7 with fail
      rw [← HW3.out, ← hgr]
      clear hgr HW3
      go_wp2_with fail
      go_loopw [11] (fun i wr => ∃ k : Nat, k ≤ dn ∧ k ≤ 20 ∧ i = .int .i64 (k : Int) ∧ Hid (∃ (P R : Nat → Prop) (b : LB) (r : RB), Bth wr w.heap.size P R gs gr (2 * k) b r) ∧ Hid (Below w.heap.size w wr)) (fun i _ => 20 - (intOf i).toNat)
      case atStart => exact ⟨0, Nat.zero_le _, Nat.zero_le _, rfl, hid ⟨_, _, _, _, HBT.out⟩, HB3⟩
      case round =>
        clear HBT HB3
        obtain ⟨wj, hwj⟩ : ∃ x, x = wr := ⟨_, rfl⟩
        subst hwj
        obtain ⟨k, hk, hk20, rfl, HEX, HB⟩ := hrel
        obtain ⟨P, R, b, r, hbt⟩ := HEX.out
        have HBT := hid hbt
        have hk0 : (0 : Int) ≤ (k : Int) := Int.natCast_nonneg _
        clear hbt HEX
        by_cases hlt : k < dn ∧ k < 20
        · obtain ⟨hl1, hl2⟩ := hlt
          obtain ⟨x, hx⟩ : ∃ x, xs[k]? = some x := ⟨_, List.getElem?_eq_getElem (by rw [HDN.out]; exact hl1)⟩
          obtain ⟨ad, aj, CA, cn, cc, hA, -, ea, -, e0, e1, e2, e3, hcl, hcn, hcm, hce⟩ := (HDD.out wj HB.out).get hx
          subst hA
          have hi1 : (k : Int) < (dn : Int) := by omega
          have hi2 : (k : Int) < 20 := by omega
          have HDO := hid (does_any HBT.out HB.out.size (by omega) x.kind x.d x.a CA x.l cn cc hcl hcn hcm (has_counts _) (hce.elsQ HB.out.size) (fun y hy hp => by have := HBT.out.low y hp; omega))
          obtain ⟨xk, xd, xa, xl⟩ := x
          simp only at e0 e1 e2 e3 HDO
          clear hx hcl hce
          go_wp2_with fail
          refine HDO.out.mono ?_
          rintro er w4 ⟨rfl, P2, R2, q1, q2, q3⟩
          have HB4 := hid (HB.out.trans (HBT.out.blw HB.out.size q3))
          have HBT4 := hid q1
          clear q1 q2 q3 HDO e0 e1 e2 e3
          go_wp2_with fail
          go_roundw
          case rel => exact ⟨k + 1, by omega, by omega, by go_num, hid ⟨_, _, _, _, by rw [show 2 * (k + 1) = 2 * k + 2 by omega]; exact HBT4.out⟩, HB4⟩
          case measure => simp [intOf]; omega
        · by_cases hl1 : k < dn
          · have hi1 : (k : Int) < (dn : Int) := by omega
            have hi2 : ¬ (k : Int) < 20 := by omega
            clear hlt
            have HA0 := hid (held_any HBT.out.s HBT.out.inv.le lo)
            have HLS := hid (held_sub b hlh)
            go_wp2_with fail
            refine HA0.out.mono ?_
            rintro er w4 ⟨A4, na, c4, rfl, hna, hc4, hm4, hb4, ho4, bl4⟩
            have HBT4 := hid (HBT.out.below bl4)
            have HB4 := hid (HB.out.trans (bl4.mono HB.out.size))
            have HE4 := hid ((show Own (E := encL) w4 wj.heap.size 55 (.slice A4 (b.held lo).length c4) (b.held lo) from by rw [hna]; exact ho4) |> own_els)
            have HNA := hid hna
            have HC0 := hid (held_any HBT4.out.s HBT4.out.inv.le hi)
            clear hna ho4 bl4 HA0
            go_wp2_with fail
            refine HC0.out.mono ?_
            rintro er w5 ⟨A5, nc, c5, rfl, hnc, hc5, hm5, hb5, ho5, bl5⟩
            have HBT5 := hid (HBT4.out.below bl5)
            have HB5 := hid (HB4.out.trans (bl5.mono HB4.out.size))
            have HEA := hid ((HE4.out.below bl5).more bl5.size)
            have HEC := hid ((show Own (E := encL) w5 w4.heap.size 55 (.slice A5 (b.held hi).length c5) (b.held hi) from by rw [hnc]; exact ho5) |> own_els)
            have HNC := hid hnc
            clear hnc ho5 bl5 HC0
            obtain ⟨la, hla⟩ : ∃ x, b.held lo = x := ⟨_, rfl⟩
            obtain ⟨lc, hlc⟩ : ∃ x, b.held hi = x := ⟨_, rfl⟩
            rw [hla] at HNA HEA HLS
            rw [hlc] at HNC HEC HLS
            clear hla hlc HE4 HBT4 HB4
            have HB55 := hid (Below.refl w5.heap.size w5)
            go_wp2_with fail
            go_loopw [14, 15] (fun kk i wr => ∃ p j : Nat, kk = .int .i64 (p : Int) ∧ i = .int .i64 (j : Int) ∧ p ≤ na ∧ j ≤ nc ∧ Hid ((lc.drop j).Sublist (la.drop p)) ∧ Hid (Below w5.heap.size w5 wr)) (fun _ i _ => nc - (intOf i).toNat)
            case atStart => exact ⟨0, 0, rfl, rfl, Nat.zero_le _, Nat.zero_le _, hid (by simpa using HLS.out), HB55⟩
            case round =>
              obtain ⟨wi, hwi⟩ : ∃ x, x = wr := ⟨_, rfl⟩
              subst hwi
              obtain ⟨p, j, rfl, rfl, hp, hj, HSB, HBJ⟩ := hrel
              have hj0 : (0 : Int) ≤ (j : Int) := Int.natCast_nonneg _
              by_cases hjn : j < nc
              · have hj1 : (j : Int) < (nc : Int) := by omega
                obtain ⟨x, hx⟩ : ∃ x, lc[j]? = some x := ⟨_, List.getElem?_eq_getElem (by rw [HNC.out]; exact hjn)⟩
                have HDX := hid (drop_at hx)
                go_wp2_with fail
                go_loopw [14] (fun kk wr => ∃ q : Nat, q ≤ na ∧ kk = .int .i64 (q : Int) ∧ Hid ((lc.drop j).Sublist (la.drop q)) ∧ Hid (Below w5.heap.size w5 wr)) (fun kk _ => na - (intOf kk).toNat)
                case atStart => exact ⟨p, hp, rfl, HSB, HBJ⟩
                case round =>
                  clear HSB HBJ
                  obtain ⟨wh, hwh⟩ : ∃ x, x = wr := ⟨_, rfl⟩
                  subst hwh
                  obtain ⟨q, hq, rfl, HSB, HBI⟩ := hrel
                  have hq0 : (0 : Int) ≤ (q : Int) := Int.natCast_nonneg _
                  have hqn : q < na := by
                    rcases Nat.lt_or_ge q na with h | h
                    · exact h
                    · have h1 := HSB.out
                      have hnil : la.drop q = [] := List.drop_eq_nil_of_le (by rw [HNA.out]; exact h)
                      rw [HDX.out, hnil] at h1
                      exact absurd h1 (by simp)
                  have hq1 : (q : Int) < (na : Int) := by omega
                  obtain ⟨y, hy⟩ : ∃ y, la[q]? = some y := ⟨_, List.getElem?_eq_getElem (by rw [HNA.out]; exact hqn)⟩
                  have HDY := hid (drop_at hy)
                  obtain ⟨ad, aj, hA, -, ea, -, f0, fs⟩ := ((HEA.out.below HBI.out).more HBI.out.size).get hy
                  obtain ⟨ad', aj', hA', -, ea', -, f0', fs'⟩ := ((HEC.out.below HBI.out).more HBI.out.size).get hx
                  subst hA hA'
                  have ea : ad.add (q * 10) = aj := ea
                  have ea' : ad'.add (j * 10) = aj' := ea'
                  have d0 := f0 _ rfl
                  have d1 := fs 1 _ (by omega) rfl
                  have d2 := fs 2 _ (by omega) rfl
                  have d3 := fs 3 _ (by omega) rfl
                  have d4 := fs 4 _ (by omega) rfl
                  have d5 := fs 5 _ (by omega) rfl
                  have d6 := fs 6 _ (by omega) rfl
                  have d7 := fs 7 _ (by omega) rfl
                  have d8 := fs 8 _ (by omega) rfl
                  have d9 := fs 9 _ (by omega) rfl
                  have e0 := f0' _ rfl
                  have e1 := fs' 1 _ (by omega) rfl
                  have e2 := fs' 2 _ (by omega) rfl
                  have e3 := fs' 3 _ (by omega) rfl
                  have e4 := fs' 4 _ (by omega) rfl
                  have e5 := fs' 5 _ (by omega) rfl
                  have e6 := fs' 6 _ (by omega) rfl
                  have e7 := fs' 7 _ (by omega) rfl
                  have e8 := fs' 8 _ (by omega) rfl
                  have e9 := fs' 9 _ (by omega) rfl
                  by_cases hxy : y = x
                  · subst hxy
                    obtain ⟨⟨d, q2, nm, kd, wh2, ao, an, bo, bn⟩, u⟩ := y
                    simp only at d0 d1 d2 d3 d4 d5 d6 d7 d8 d9 e0 e1 e2 e3 e4 e5 e6 e7 e8 e9
                    clear f0 fs f0' fs' hy
                    go_wp2_with fail
                    go_quiet (fail)
                    have hne : ((q : Int) == (na : Int)) = false := beq_eq_false_iff_ne.2 (by omega)
                    go_wp2_with fail
                    go_roundw
                    case rel => exact ⟨q, j + 1, rfl, by go_num, by omega, by omega, hid (by
                      have h1 := HSB.out
                      rw [HDX.out] at h1
                      exact (List.sublist_cons_self _ _).trans h1), hid (below_drewN HBI.out _)⟩
                    case measure => simp [intOf]; omega
                  · have HSB2 : Hid ((lc.drop j).Sublist (la.drop (q + 1))) := hid (by
                      have h1 := HSB.out
                      rw [HDX.out, HDY.out] at h1
                      rw [HDX.out]
                      cases h1 with
                      | cons _ h => exact h
                      | cons_cons _ h => exact absurd rfl hxy)
                    obtain ⟨⟨d, q2, nm, kd, wh2, ao, an, bo, bn⟩, u⟩ := y
                    obtain ⟨⟨d', q2', nm', kd', wh2', ao', an', bo', bn'⟩, u'⟩ := x
                    simp only at d0 d1 d2 d3 d4 d5 d6 d7 d8 d9 e0 e1 e2 e3 e4 e5 e6 e7 e8 e9
                    clear f0 fs f0' fs' hy hx HDX HDY HSB
                    by_cases h_d : ¬ d = d'
                    · have b_d : (d == d') = false := beq_eq_false_iff_ne.2 h_d
                      go_wp2_with fail
                      go_quiet (fail)
                      go_wp2_with fail
                      go_roundw
                      case rel => exact ⟨q + 1, by omega, by go_num, HSB2, hid (below_drewN HBI.out _)⟩
                      case measure => simp [intOf]; omega
                    replace h_d := Classical.not_not.1 h_d
                    subst h_d
                    by_cases h_q : ¬ q2 = q2'
                    · have b_q : (q2 == q2') = false := beq_eq_false_iff_ne.2 h_q
                      go_wp2_with fail
                      go_quiet (fail)
                      go_wp2_with fail
                      go_roundw
                      case rel => exact ⟨q + 1, by omega, by go_num, HSB2, hid (below_drewN HBI.out _)⟩
                      case measure => simp [intOf]; omega
                    replace h_q := Classical.not_not.1 h_q
                    subst h_q
                    by_cases h_nm : ¬ nm = nm'
                    · have t_nm : ¬ nm.toList = nm'.toList := fun h => h_nm ((ba_iff _ _).1 h)
                      go_wp2_with fail
                      go_quiet (fail)
                      go_wp2_with fail
                      go_roundw
                      case rel => exact ⟨q + 1, by omega, by go_num, HSB2, hid (below_drewN HBI.out _)⟩
                      case measure => simp [intOf]; omega
                    replace h_nm := Classical.not_not.1 h_nm
                    subst h_nm
                    by_cases h_kd : ¬ kd = kd'
                    · have b_kd : (kd == kd') = false := beq_eq_false_iff_ne.2 h_kd
                      go_wp2_with fail
                      go_quiet (fail)
                      go_wp2_with fail
                      go_roundw
                      case rel => exact ⟨q + 1, by omega, by go_num, HSB2, hid (below_drewN HBI.out _)⟩
                      case measure => simp [intOf]; omega
                    replace h_kd := Classical.not_not.1 h_kd
                    subst h_kd
                    by_cases h_wh : ¬ wh2 = wh2'
                    · have t_wh : ¬ wh2.toList = wh2'.toList := fun h => h_wh ((ba_iff _ _).1 h)
                      go_wp2_with fail
                      go_quiet (fail)
                      go_wp2_with fail
                      go_roundw
                      case rel => exact ⟨q + 1, by omega, by go_num, HSB2, hid (below_drewN HBI.out _)⟩
                      case measure => simp [intOf]; omega
                    replace h_wh := Classical.not_not.1 h_wh
                    subst h_wh
                    by_cases h_ao : ¬ ao = ao'
                    · have t_ao : ¬ ao.toList = ao'.toList := fun h => h_ao ((ba_iff _ _).1 h)
                      go_wp2_with fail
                      go_quiet (fail)
                      go_wp2_with fail
                      go_roundw
                      case rel => exact ⟨q + 1, by omega, by go_num, HSB2, hid (below_drewN HBI.out _)⟩
                      case measure => simp [intOf]; omega
                    replace h_ao := Classical.not_not.1 h_ao
                    subst h_ao
                    by_cases h_an : ¬ an = an'
                    · have t_an : ¬ an.toList = an'.toList := fun h => h_an ((ba_iff _ _).1 h)
                      go_wp2_with fail
                      go_quiet (fail)
                      go_wp2_with fail
                      go_roundw
                      case rel => exact ⟨q + 1, by omega, by go_num, HSB2, hid (below_drewN HBI.out _)⟩
                      case measure => simp [intOf]; omega
                    replace h_an := Classical.not_not.1 h_an
                    subst h_an
                    by_cases h_bo : ¬ bo = bo'
                    · have t_bo : ¬ bo.toList = bo'.toList := fun h => h_bo ((ba_iff _ _).1 h)
                      go_wp2_with fail
                      go_quiet (fail)
                      go_wp2_with fail
                      go_roundw
                      case rel => exact ⟨q + 1, by omega, by go_num, HSB2, hid (below_drewN HBI.out _)⟩
                      case measure => simp [intOf]; omega
                    replace h_bo := Classical.not_not.1 h_bo
                    subst h_bo
                    by_cases h_bn : ¬ bn = bn'
                    · have t_bn : ¬ bn.toList = bn'.toList := fun h => h_bn ((ba_iff _ _).1 h)
                      go_wp2_with fail
                      go_quiet (fail)
                      go_wp2_with fail
                      go_roundw
                      case rel => exact ⟨q + 1, by omega, by go_num, HSB2, hid (below_drewN HBI.out _)⟩
                      case measure => simp [intOf]; omega
                    replace h_bn := Classical.not_not.1 h_bn
                    subst h_bn
                    by_cases h_u : ¬ u = u'
                    · have b_u : (u == u') = false := beq_eq_false_iff_ne.2 h_u
                      go_wp2_with fail
                      go_quiet (fail)
                      go_wp2_with fail
                      go_roundw
                      case rel => exact ⟨q + 1, by omega, by go_num, HSB2, hid (below_drewN HBI.out _)⟩
                      case measure => simp [intOf]; omega
                    replace h_u := Classical.not_not.1 h_u
                    subst h_u
                    exact absurd rfl hxy
              · obtain rfl : j = nc := by omega
                have hj1 : ¬ (j : Int) < (j : Int) := by omega
                clear HSB HEA HEC HLS
                have HBT6 := hid (HBT5.out.below HBJ.out)
                have HB6 := hid (HB5.out.trans (HBJ.out.mono HB5.out.size))
                clear HBT5 HB5 HBJ
                go_wp2_with fail
                go_loopw [16] (fun i wr => ∃ j : Nat, j ≤ 16 ∧ i = .int .i64 ((j : Int) + 1) ∧ Hid (Bth wr w.heap.size P R gs gr (2 * k) b r) ∧ Hid (Below w.heap.size w wr)) (fun i _ => 18 - (intOf i).toNat)
                case atStart => exact ⟨0, by omega, rfl, HBT6, HB6⟩
                case round =>
                  clear HBT6 HB6
                  obtain ⟨wh, hwh⟩ : ∃ x, x = wr := ⟨_, rfl⟩
                  subst hwh
                  obtain ⟨j', hjj, rfl, HBTJ, HBJ⟩ := hrel
                  have hj0' : (0 : Int) ≤ (j' : Int) := Int.natCast_nonneg _
                  by_cases hjl : j' < 16
                  · have hj2 : (j' : Int) + 1 ≤ 16 := by omega
                    have HF1 := hid (fresh_any HBTJ.out.s ((j' : Int) + 1) hi (by unfold In64; omega))
                    have HF2 := hid (fresh_any HBTJ.out.s ((j' : Int) + 1) lo (by unfold In64; omega))
                    have HFM := hid (fresh_mono b hlh ((j' : Int) + 1))
                    obtain ⟨v, hv⟩ : ∃ v, b.fresh ((j' : Int) + 1) hi = v := ⟨_, rfl⟩
                    obtain ⟨u, hu⟩ : ∃ v, b.fresh ((j' : Int) + 1) lo = v := ⟨_, rfl⟩
                    rw [hv] at HF1 HFM
                    rw [hu] at HF2 HFM
                    have e1 : IntKind.i64.wrap ((j' : Int) + 1) = (j' : Int) + 1 := wrap_in _ (by omega)
                    clear hv hu
                    cases v
                    · go_wp2_with fail
                      refine HF1.out.mono ?_
                      rintro er w6 ⟨rfl, hw⟩
                      have hw6 : wh = w6 := hw
                      subst hw6
                      clear hw
                      go_wp2_with fail
                      go_roundw
                      case rel => exact ⟨j' + 1, by omega, by go_num, HBTJ, HBJ⟩
                      case measure => simp [intOf]; omega
                    · obtain rfl : u = true := HFM.out rfl
                      go_wp2_with fail
                      refine HF1.out.mono ?_
                      rintro er w6 ⟨rfl, hw⟩
                      have hw6 : wh = w6 := hw
                      subst hw6
                      clear hw
                      go_wp2_with fail
                      refine HF2.out.mono ?_
                      rintro er w6 ⟨rfl, hw⟩
                      have hw6 : wh = w6 := hw
                      subst hw6
                      clear hw
                      go_wp2_with fail
                      go_roundw
                      case rel => exact ⟨j' + 1, by omega, by go_num, HBTJ, HBJ⟩
                      case measure => simp [intOf]; omega
                  · obtain rfl : j' = 16 := by omega
                    have hj2 : ¬ ((16 : Nat) : Int) + 1 ≤ 16 := by omega
                    go_wp2_with fail
                    refine (HLV.out wh).mono ?_
                    rintro er w8 ⟨rfl, bl8⟩
                    go_wp2_with fail
                    go_ret
                    exact ⟨rfl, HBJ.out.trans (bl8.mono HBJ.out.size)⟩
          · have hi1 : ¬ (k : Int) < (dn : Int) := by omega
            clear hlt
            have HA0 := hid (held_any HBT.out.s HBT.out.inv.le lo)
            have HLS := hid (held_sub b hlh)
            go_wp2_with fail
            refine HA0.out.mono ?_
            rintro er w4 ⟨A4, na, c4, rfl, hna, hc4, hm4, hb4, ho4, bl4⟩
            have HBT4 := hid (HBT.out.below bl4)
            have HB4 := hid (HB.out.trans (bl4.mono HB.out.size))
            have HE4 := hid ((show Own (E := encL) w4 wj.heap.size 55 (.slice A4 (b.held lo).length c4) (b.held lo) from by rw [hna]; exact ho4) |> own_els)
            have HNA := hid hna
            have HC0 := hid (held_any HBT4.out.s HBT4.out.inv.le hi)
            clear hna ho4 bl4 HA0
            go_wp2_with fail
            refine HC0.out.mono ?_
            rintro er w5 ⟨A5, nc, c5, rfl, hnc, hc5, hm5, hb5, ho5, bl5⟩
            have HBT5 := hid (HBT4.out.below bl5)
            have HB5 := hid (HB4.out.trans (bl5.mono HB4.out.size))
            have HEA := hid ((HE4.out.below bl5).more bl5.size)
            have HEC := hid ((show Own (E := encL) w5 w4.heap.size 55 (.slice A5 (b.held hi).length c5) (b.held hi) from by rw [hnc]; exact ho5) |> own_els)
            have HNC := hid hnc
            clear hnc ho5 bl5 HC0
            obtain ⟨la, hla⟩ : ∃ x, b.held lo = x := ⟨_, rfl⟩
            obtain ⟨lc, hlc⟩ : ∃ x, b.held hi = x := ⟨_, rfl⟩
            rw [hla] at HNA HEA HLS
            rw [hlc] at HNC HEC HLS
            clear hla hlc HE4 HBT4 HB4
            have HB55 := hid (Below.refl w5.heap.size w5)
            go_wp2_with fail
            go_loopw [14, 15] (fun kk i wr => ∃ p j : Nat, kk = .int .i64 (p : Int) ∧ i = .int .i64 (j : Int) ∧ p ≤ na ∧ j ≤ nc ∧ Hid ((lc.drop j).Sublist (la.drop p)) ∧ Hid (Below w5.heap.size w5 wr)) (fun _ i _ => nc - (intOf i).toNat)
            case atStart => exact ⟨0, 0, rfl, rfl, Nat.zero_le _, Nat.zero_le _, hid (by simpa using HLS.out), HB55⟩
            case round =>
              obtain ⟨wi, hwi⟩ : ∃ x, x = wr := ⟨_, rfl⟩
              subst hwi
              obtain ⟨p, j, rfl, rfl, hp, hj, HSB, HBJ⟩ := hrel
              have hj0 : (0 : Int) ≤ (j : Int) := Int.natCast_nonneg _
              by_cases hjn : j < nc
              · have hj1 : (j : Int) < (nc : Int) := by omega
                obtain ⟨x, hx⟩ : ∃ x, lc[j]? = some x := ⟨_, List.getElem?_eq_getElem (by rw [HNC.out]; exact hjn)⟩
                have HDX := hid (drop_at hx)
                go_wp2_with fail
                go_loopw [14] (fun kk wr => ∃ q : Nat, q ≤ na ∧ kk = .int .i64 (q : Int) ∧ Hid ((lc.drop j).Sublist (la.drop q)) ∧ Hid (Below w5.heap.size w5 wr)) (fun kk _ => na - (intOf kk).toNat)
                case atStart => exact ⟨p, hp, rfl, HSB, HBJ⟩
                case round =>
                  clear HSB HBJ
                  obtain ⟨wh, hwh⟩ : ∃ x, x = wr := ⟨_, rfl⟩
                  subst hwh
                  obtain ⟨q, hq, rfl, HSB, HBI⟩ := hrel
                  have hq0 : (0 : Int) ≤ (q : Int) := Int.natCast_nonneg _
                  have hqn : q < na := by
                    rcases Nat.lt_or_ge q na with h | h
                    · exact h
                    · have h1 := HSB.out
                      have hnil : la.drop q = [] := List.drop_eq_nil_of_le (by rw [HNA.out]; exact h)
                      rw [HDX.out, hnil] at h1
                      exact absurd h1 (by simp)
                  have hq1 : (q : Int) < (na : Int) := by omega
                  obtain ⟨y, hy⟩ : ∃ y, la[q]? = some y := ⟨_, List.getElem?_eq_getElem (by rw [HNA.out]; exact hqn)⟩
                  have HDY := hid (drop_at hy)
                  obtain ⟨ad, aj, hA, -, ea, -, f0, fs⟩ := ((HEA.out.below HBI.out).more HBI.out.size).get hy
                  obtain ⟨ad', aj', hA', -, ea', -, f0', fs'⟩ := ((HEC.out.below HBI.out).more HBI.out.size).get hx
                  subst hA hA'
                  have ea : ad.add (q * 10) = aj := ea
                  have ea' : ad'.add (j * 10) = aj' := ea'
                  have d0 := f0 _ rfl
                  have d1 := fs 1 _ (by omega) rfl
                  have d2 := fs 2 _ (by omega) rfl
                  have d3 := fs 3 _ (by omega) rfl
                  have d4 := fs 4 _ (by omega) rfl
                  have d5 := fs 5 _ (by omega) rfl
                  have d6 := fs 6 _ (by omega) rfl
                  have d7 := fs 7 _ (by omega) rfl
                  have d8 := fs 8 _ (by omega) rfl
                  have d9 := fs 9 _ (by omega) rfl
                  have e0 := f0' _ rfl
                  have e1 := fs' 1 _ (by omega) rfl
                  have e2 := fs' 2 _ (by omega) rfl
                  have e3 := fs' 3 _ (by omega) rfl
                  have e4 := fs' 4 _ (by omega) rfl
                  have e5 := fs' 5 _ (by omega) rfl
                  have e6 := fs' 6 _ (by omega) rfl
                  have e7 := fs' 7 _ (by omega) rfl
                  have e8 := fs' 8 _ (by omega) rfl
                  have e9 := fs' 9 _ (by omega) rfl
                  by_cases hxy : y = x
                  · subst hxy
                    obtain ⟨⟨d, q2, nm, kd, wh2, ao, an, bo, bn⟩, u⟩ := y
                    simp only at d0 d1 d2 d3 d4 d5 d6 d7 d8 d9 e0 e1 e2 e3 e4 e5 e6 e7 e8 e9
                    clear f0 fs f0' fs' hy
                    go_wp2_with fail
                    go_quiet (fail)
                    have hne : ((q : Int) == (na : Int)) = false := beq_eq_false_iff_ne.2 (by omega)
                    go_wp2_with fail
                    go_roundw
                    case rel => exact ⟨q, j + 1, rfl, by go_num, by omega, by omega, hid (by
                      have h1 := HSB.out
                      rw [HDX.out] at h1
                      exact (List.sublist_cons_self _ _).trans h1), hid (below_drewN HBI.out _)⟩
                    case measure => simp [intOf]; omega
                  · have HSB2 : Hid ((lc.drop j).Sublist (la.drop (q + 1))) := hid (by
                      have h1 := HSB.out
                      rw [HDX.out, HDY.out] at h1
                      rw [HDX.out]
                      cases h1 with
                      | cons _ h => exact h
                      | cons_cons _ h => exact absurd rfl hxy)
                    obtain ⟨⟨d, q2, nm, kd, wh2, ao, an, bo, bn⟩, u⟩ := y
                    obtain ⟨⟨d', q2', nm', kd', wh2', ao', an', bo', bn'⟩, u'⟩ := x
                    simp only at d0 d1 d2 d3 d4 d5 d6 d7 d8 d9 e0 e1 e2 e3 e4 e5 e6 e7 e8 e9
                    clear f0 fs f0' fs' hy hx HDX HDY HSB
                    by_cases h_d : ¬ d = d'
                    · have b_d : (d == d') = false := beq_eq_false_iff_ne.2 h_d
                      go_wp2_with fail
                      go_quiet (fail)
                      go_wp2_with fail
                      go_roundw
                      case rel => exact ⟨q + 1, by omega, by go_num, HSB2, hid (below_drewN HBI.out _)⟩
                      case measure => simp [intOf]; omega
                    replace h_d := Classical.not_not.1 h_d
                    subst h_d
                    by_cases h_q : ¬ q2 = q2'
                    · have b_q : (q2 == q2') = false := beq_eq_false_iff_ne.2 h_q
                      go_wp2_with fail
                      go_quiet (fail)
                      go_wp2_with fail
                      go_roundw
                      case rel => exact ⟨q + 1, by omega, by go_num, HSB2, hid (below_drewN HBI.out _)⟩
                      case measure => simp [intOf]; omega
                    replace h_q := Classical.not_not.1 h_q
                    subst h_q
                    by_cases h_nm : ¬ nm = nm'
                    · have t_nm : ¬ nm.toList = nm'.toList := fun h => h_nm ((ba_iff _ _).1 h)
                      go_wp2_with fail
                      go_quiet (fail)
                      go_wp2_with fail
                      go_roundw
                      case rel => exact ⟨q + 1, by omega, by go_num, HSB2, hid (below_drewN HBI.out _)⟩
                      case measure => simp [intOf]; omega
                    replace h_nm := Classical.not_not.1 h_nm
                    subst h_nm
                    by_cases h_kd : ¬ kd = kd'
                    · have b_kd : (kd == kd') = false := beq_eq_false_iff_ne.2 h_kd
                      go_wp2_with fail
                      go_quiet (fail)
                      go_wp2_with fail
                      go_roundw
                      case rel => exact ⟨q + 1, by omega, by go_num, HSB2, hid (below_drewN HBI.out _)⟩
                      case measure => simp [intOf]; omega
                    replace h_kd := Classical.not_not.1 h_kd
                    subst h_kd
                    by_cases h_wh : ¬ wh2 = wh2'
                    · have t_wh : ¬ wh2.toList = wh2'.toList := fun h => h_wh ((ba_iff _ _).1 h)
                      go_wp2_with fail
                      go_quiet (fail)
                      go_wp2_with fail
                      go_roundw
                      case rel => exact ⟨q + 1, by omega, by go_num, HSB2, hid (below_drewN HBI.out _)⟩
                      case measure => simp [intOf]; omega
                    replace h_wh := Classical.not_not.1 h_wh
                    subst h_wh
                    by_cases h_ao : ¬ ao = ao'
                    · have t_ao : ¬ ao.toList = ao'.toList := fun h => h_ao ((ba_iff _ _).1 h)
                      go_wp2_with fail
                      go_quiet (fail)
                      go_wp2_with fail
                      go_roundw
                      case rel => exact ⟨q + 1, by omega, by go_num, HSB2, hid (below_drewN HBI.out _)⟩
                      case measure => simp [intOf]; omega
                    replace h_ao := Classical.not_not.1 h_ao
                    subst h_ao
                    by_cases h_an : ¬ an = an'
                    · have t_an : ¬ an.toList = an'.toList := fun h => h_an ((ba_iff _ _).1 h)
                      go_wp2_with fail
                      go_quiet (fail)
                      go_wp2_with fail
                      go_roundw
                      case rel => exact ⟨q + 1, by omega, by go_num, HSB2, hid (below_drewN HBI.out _)⟩
                      case measure => simp [intOf]; omega
                    replace h_an := Classical.not_not.1 h_an
                    subst h_an
                    by_cases h_bo : ¬ bo = bo'
                    · have t_bo : ¬ bo.toList = bo'.toList := fun h => h_bo ((ba_iff _ _).1 h)
                      go_wp2_with fail
                      go_quiet (fail)
                      go_wp2_with fail
                      go_roundw
                      case rel => exact ⟨q + 1, by omega, by go_num, HSB2, hid (below_drewN HBI.out _)⟩
                      case measure => simp [intOf]; omega
                    replace h_bo := Classical.not_not.1 h_bo
                    subst h_bo
                    by_cases h_bn : ¬ bn = bn'
                    · have t_bn : ¬ bn.toList = bn'.toList := fun h => h_bn ((ba_iff _ _).1 h)
                      go_wp2_with fail
                      go_quiet (fail)
                      go_wp2_with fail
                      go_roundw
                      case rel => exact ⟨q + 1, by omega, by go_num, HSB2, hid (below_drewN HBI.out _)⟩
                      case measure => simp [intOf]; omega
                    replace h_bn := Classical.not_not.1 h_bn
                    subst h_bn
                    by_cases h_u : ¬ u = u'
                    · have b_u : (u == u') = false := beq_eq_false_iff_ne.2 h_u
                      go_wp2_with fail
                      go_quiet (fail)
                      go_wp2_with fail
                      go_roundw
                      case rel => exact ⟨q + 1, by omega, by go_num, HSB2, hid (below_drewN HBI.out _)⟩
                      case measure => simp [intOf]; omega
                    replace h_u := Classical.not_not.1 h_u
                    subst h_u
                    exact absurd rfl hxy
              · obtain rfl : j = nc := by omega
                have hj1 : ¬ (j : Int) < (j : Int) := by omega
                clear HSB HEA HEC HLS
                have HBT6 := hid (HBT5.out.below HBJ.out)
                have HB6 := hid (HB5.out.trans (HBJ.out.mono HB5.out.size))
                clear HBT5 HB5 HBJ
                go_wp2_with fail
                go_loopw [16] (fun i wr => ∃ j : Nat, j ≤ 16 ∧ i = .int .i64 ((j : Int) + 1) ∧ Hid (Bth wr w.heap.size P R gs gr (2 * k) b r) ∧ Hid (Below w.heap.size w wr)) (fun i _ => 18 - (intOf i).toNat)
                case atStart => exact ⟨0, by omega, rfl, HBT6, HB6⟩
                case round =>
                  clear HBT6 HB6
                  obtain ⟨wh, hwh⟩ : ∃ x, x = wr := ⟨_, rfl⟩
                  subst hwh
                  obtain ⟨j', hjj, rfl, HBTJ, HBJ⟩ := hrel
                  have hj0' : (0 : Int) ≤ (j' : Int) := Int.natCast_nonneg _
                  by_cases hjl : j' < 16
                  · have hj2 : (j' : Int) + 1 ≤ 16 := by omega
                    have HF1 := hid (fresh_any HBTJ.out.s ((j' : Int) + 1) hi (by unfold In64; omega))
                    have HF2 := hid (fresh_any HBTJ.out.s ((j' : Int) + 1) lo (by unfold In64; omega))
                    have HFM := hid (fresh_mono b hlh ((j' : Int) + 1))
                    obtain ⟨v, hv⟩ : ∃ v, b.fresh ((j' : Int) + 1) hi = v := ⟨_, rfl⟩
                    obtain ⟨u, hu⟩ : ∃ v, b.fresh ((j' : Int) + 1) lo = v := ⟨_, rfl⟩
                    rw [hv] at HF1 HFM
                    rw [hu] at HF2 HFM
                    have e1 : IntKind.i64.wrap ((j' : Int) + 1) = (j' : Int) + 1 := wrap_in _ (by omega)
                    clear hv hu
                    cases v
                    · go_wp2_with fail
                      refine HF1.out.mono ?_
                      rintro er w6 ⟨rfl, hw⟩
                      have hw6 : wh = w6 := hw
                      subst hw6
                      clear hw
                      go_wp2_with fail
                      go_roundw
                      case rel => exact ⟨j' + 1, by omega, by go_num, HBTJ, HBJ⟩
                      case measure => simp [intOf]; omega
                    · obtain rfl : u = true := HFM.out rfl
                      go_wp2_with fail
                      refine HF1.out.mono ?_
                      rintro er w6 ⟨rfl, hw⟩
                      have hw6 : wh = w6 := hw
                      subst hw6
                      clear hw
                      go_wp2_with fail
                      refine HF2.out.mono ?_
                      rintro er w6 ⟨rfl, hw⟩
                      have hw6 : wh = w6 := hw
                      subst hw6
                      clear hw
                      go_wp2_with fail
                      go_roundw
                      case rel => exact ⟨j' + 1, by omega, by go_num, HBTJ, HBJ⟩
                      case measure => simp [intOf]; omega
                  · obtain rfl : j' = 16 := by omega
                    have hj2 : ¬ ((16 : Nat) : Int) + 1 ≤ 16 := by omega
                    go_wp2_with fail
                    refine (HLV.out wh).mono ?_
                    rintro er w8 ⟨rfl, bl8⟩
                    go_wp2_with fail
                    go_ret
                    exact ⟨rfl, HBJ.out.trans (bl8.mono HBJ.out.size)⟩
    · have hlh : now ≤ later := by omega
      obtain ⟨lo, rfl⟩ : ∃ lo, lo = now := ⟨_, rfl⟩
      obtain ⟨hi, rfl⟩ : ∃ hi, hi = later := ⟨_, rfl⟩
      have HNEW := hid (fun W => new_yes o ⟨ho1, ho2⟩ W)
      go_enter Try.func5, Try.ntmps5
      go_wp2_with fail
      refine (HNEW.out w).mono ?_
      rintro er w2 ⟨gs, rfl, hbk, hb2⟩
      obtain ⟨w3, hw3⟩ : ∃ y, y = w2.alloc (.cells #[.int .i64 o, .slice none 0 0, .slice none 0 0] 32) := ⟨_, rfl⟩
      have hbt := bth_new HO.out hb2 hbk
      rw [← hw3] at hbt
      have HB3 : Hid (Below w.heap.size w w3) := hid (by rw [hw3]; exact hb2.alloc hb2.size _)
      have HBT := hid hbt
      have HW3 := hid hw3
      obtain ⟨gr, hgr⟩ : ∃ x, x = w2.heap.size := ⟨_, rfl⟩
      rw [← hgr] at HBT
      clear hbt hw3 hbk hb2 HNEW
      go_upto_region 7 with fail
      rw [← HW3.out, ← hgr]
      clear hgr HW3
      go_wp2_with fail
      go_loopw [11] (fun i wr => ∃ k : Nat, k ≤ dn ∧ k ≤ 20 ∧ i = .int .i64 (k : Int) ∧ Hid (∃ (P R : Nat → Prop) (b : LB) (r : RB), Bth wr w.heap.size P R gs gr (2 * k) b r) ∧ Hid (Below w.heap.size w wr)) (fun i _ => 20 - (intOf i).toNat)
      case atStart => exact ⟨0, Nat.zero_le _, Nat.zero_le _, rfl, hid ⟨_, _, _, _, HBT.out⟩, HB3⟩
      case round =>
        clear HBT HB3
        obtain ⟨wj, hwj⟩ : ∃ x, x = wr := ⟨_, rfl⟩
        subst hwj
        obtain ⟨k, hk, hk20, rfl, HEX, HB⟩ := hrel
        obtain ⟨P, R, b, r, hbt⟩ := HEX.out
        have HBT := hid hbt
        have hk0 : (0 : Int) ≤ (k : Int) := Int.natCast_nonneg _
        clear hbt HEX
        by_cases hlt : k < dn ∧ k < 20
        · obtain ⟨hl1, hl2⟩ := hlt
          obtain ⟨x, hx⟩ : ∃ x, xs[k]? = some x := ⟨_, List.getElem?_eq_getElem (by rw [HDN.out]; exact hl1)⟩
          obtain ⟨ad, aj, CA, cn, cc, hA, -, ea, -, e0, e1, e2, e3, hcl, hcn, hcm, hce⟩ := (HDD.out wj HB.out).get hx
          subst hA
          have hi1 : (k : Int) < (dn : Int) := by omega
          have hi2 : (k : Int) < 20 := by omega
          have HDO := hid (does_any HBT.out HB.out.size (by omega) x.kind x.d x.a CA x.l cn cc hcl hcn hcm (has_counts _) (hce.elsQ HB.out.size) (fun y hy hp => by have := HBT.out.low y hp; omega))
          obtain ⟨xk, xd, xa, xl⟩ := x
          simp only at e0 e1 e2 e3 HDO
          clear hx hcl hce
          go_wp2_with fail
          refine HDO.out.mono ?_
          rintro er w4 ⟨rfl, P2, R2, q1, q2, q3⟩
          have HB4 := hid (HB.out.trans (HBT.out.blw HB.out.size q3))
          have HBT4 := hid q1
          clear q1 q2 q3 HDO e0 e1 e2 e3
          go_wp2_with fail
          go_roundw
          case rel => exact ⟨k + 1, by omega, by omega, by go_num, hid ⟨_, _, _, _, by rw [show 2 * (k + 1) = 2 * k + 2 by omega]; exact HBT4.out⟩, HB4⟩
          case measure => simp [intOf]; omega
        · by_cases hl1 : k < dn
          · have hi1 : (k : Int) < (dn : Int) := by omega
            have hi2 : ¬ (k : Int) < 20 := by omega
            clear hlt
            have HA0 := hid (held_any HBT.out.s HBT.out.inv.le lo)
            have HLS := hid (held_sub b hlh)
            go_wp2_with fail
            refine HA0.out.mono ?_
            rintro er w4 ⟨A4, na, c4, rfl, hna, hc4, hm4, hb4, ho4, bl4⟩
            have HBT4 := hid (HBT.out.below bl4)
            have HB4 := hid (HB.out.trans (bl4.mono HB.out.size))
            have HE4 := hid ((show Own (E := encL) w4 wj.heap.size 55 (.slice A4 (b.held lo).length c4) (b.held lo) from by rw [hna]; exact ho4) |> own_els)
            have HNA := hid hna
            have HC0 := hid (held_any HBT4.out.s HBT4.out.inv.le hi)
            clear hna ho4 bl4 HA0
            go_wp2_with fail
            refine HC0.out.mono ?_
            rintro er w5 ⟨A5, nc, c5, rfl, hnc, hc5, hm5, hb5, ho5, bl5⟩
            have HBT5 := hid (HBT4.out.below bl5)
            have HB5 := hid (HB4.out.trans (bl5.mono HB4.out.size))
            have HEA := hid ((HE4.out.below bl5).more bl5.size)
            have HEC := hid ((show Own (E := encL) w5 w4.heap.size 55 (.slice A5 (b.held hi).length c5) (b.held hi) from by rw [hnc]; exact ho5) |> own_els)
            have HNC := hid hnc
            clear hnc ho5 bl5 HC0
            obtain ⟨la, hla⟩ : ∃ x, b.held lo = x := ⟨_, rfl⟩
            obtain ⟨lc, hlc⟩ : ∃ x, b.held hi = x := ⟨_, rfl⟩
            rw [hla] at HNA HEA HLS
            rw [hlc] at HNC HEC HLS
            clear hla hlc HE4 HBT4 HB4
            have HB55 := hid (Below.refl w5.heap.size w5)
            go_wp2_with fail
            go_loopw [14, 15] (fun kk i wr => ∃ p j : Nat, kk = .int .i64 (p : Int) ∧ i = .int .i64 (j : Int) ∧ p ≤ na ∧ j ≤ nc ∧ Hid ((lc.drop j).Sublist (la.drop p)) ∧ Hid (Below w5.heap.size w5 wr)) (fun _ i _ => nc - (intOf i).toNat)
            case atStart => exact ⟨0, 0, rfl, rfl, Nat.zero_le _, Nat.zero_le _, hid (by simpa using HLS.out), HB55⟩
            case round =>
              obtain ⟨wi, hwi⟩ : ∃ x, x = wr := ⟨_, rfl⟩
              subst hwi
              obtain ⟨p, j, rfl, rfl, hp, hj, HSB, HBJ⟩ := hrel
              have hj0 : (0 : Int) ≤ (j : Int) := Int.natCast_nonneg _
              by_cases hjn : j < nc
              · have hj1 : (j : Int) < (nc : Int) := by omega
                obtain ⟨x, hx⟩ : ∃ x, lc[j]? = some x := ⟨_, List.getElem?_eq_getElem (by rw [HNC.out]; exact hjn)⟩
                have HDX := hid (drop_at hx)
                go_wp2_with fail
                go_loopw [14] (fun kk wr => ∃ q : Nat, q ≤ na ∧ kk = .int .i64 (q : Int) ∧ Hid ((lc.drop j).Sublist (la.drop q)) ∧ Hid (Below w5.heap.size w5 wr)) (fun kk _ => na - (intOf kk).toNat)
                case atStart => exact ⟨p, hp, rfl, HSB, HBJ⟩
                case round =>
                  clear HSB HBJ
                  obtain ⟨wh, hwh⟩ : ∃ x, x = wr := ⟨_, rfl⟩
                  subst hwh
                  obtain ⟨q, hq, rfl, HSB, HBI⟩ := hrel
                  have hq0 : (0 : Int) ≤ (q : Int) := Int.natCast_nonneg _
                  have hqn : q < na := by
                    rcases Nat.lt_or_ge q na with h | h
                    · exact h
                    · have h1 := HSB.out
                      have hnil : la.drop q = [] := List.drop_eq_nil_of_le (by rw [HNA.out]; exact h)
                      rw [HDX.out, hnil] at h1
                      exact absurd h1 (by simp)
                  have hq1 : (q : Int) < (na : Int) := by omega
                  obtain ⟨y, hy⟩ : ∃ y, la[q]? = some y := ⟨_, List.getElem?_eq_getElem (by rw [HNA.out]; exact hqn)⟩
                  have HDY := hid (drop_at hy)
                  obtain ⟨ad, aj, hA, -, ea, -, f0, fs⟩ := ((HEA.out.below HBI.out).more HBI.out.size).get hy
                  obtain ⟨ad', aj', hA', -, ea', -, f0', fs'⟩ := ((HEC.out.below HBI.out).more HBI.out.size).get hx
                  subst hA hA'
                  have ea : ad.add (q * 10) = aj := ea
                  have ea' : ad'.add (j * 10) = aj' := ea'
                  have d0 := f0 _ rfl
                  have d1 := fs 1 _ (by omega) rfl
                  have d2 := fs 2 _ (by omega) rfl
                  have d3 := fs 3 _ (by omega) rfl
                  have d4 := fs 4 _ (by omega) rfl
                  have d5 := fs 5 _ (by omega) rfl
                  have d6 := fs 6 _ (by omega) rfl
                  have d7 := fs 7 _ (by omega) rfl
                  have d8 := fs 8 _ (by omega) rfl
                  have d9 := fs 9 _ (by omega) rfl
                  have e0 := f0' _ rfl
                  have e1 := fs' 1 _ (by omega) rfl
                  have e2 := fs' 2 _ (by omega) rfl
                  have e3 := fs' 3 _ (by omega) rfl
                  have e4 := fs' 4 _ (by omega) rfl
                  have e5 := fs' 5 _ (by omega) rfl
                  have e6 := fs' 6 _ (by omega) rfl
                  have e7 := fs' 7 _ (by omega) rfl
                  have e8 := fs' 8 _ (by omega) rfl
                  have e9 := fs' 9 _ (by omega) rfl
                  by_cases hxy : y = x
                  · subst hxy
                    obtain ⟨⟨d, q2, nm, kd, wh2, ao, an, bo, bn⟩, u⟩ := y
                    simp only at d0 d1 d2 d3 d4 d5 d6 d7 d8 d9 e0 e1 e2 e3 e4 e5 e6 e7 e8 e9
                    clear f0 fs f0' fs' hy
                    go_wp2_with fail
                    go_quiet (fail)
                    have hne : ((q : Int) == (na : Int)) = false := beq_eq_false_iff_ne.2 (by omega)
                    go_wp2_with fail
                    go_roundw
                    case rel => exact ⟨q, j + 1, rfl, by go_num, by omega, by omega, hid (by
                      have h1 := HSB.out
                      rw [HDX.out] at h1
                      exact (List.sublist_cons_self _ _).trans h1), hid (below_drewN HBI.out _)⟩
                    case measure => simp [intOf]; omega
                  · have HSB2 : Hid ((lc.drop j).Sublist (la.drop (q + 1))) := hid (by
                      have h1 := HSB.out
                      rw [HDX.out, HDY.out] at h1
                      rw [HDX.out]
                      cases h1 with
                      | cons _ h => exact h
                      | cons_cons _ h => exact absurd rfl hxy)
                    obtain ⟨⟨d, q2, nm, kd, wh2, ao, an, bo, bn⟩, u⟩ := y
                    obtain ⟨⟨d', q2', nm', kd', wh2', ao', an', bo', bn'⟩, u'⟩ := x
                    simp only at d0 d1 d2 d3 d4 d5 d6 d7 d8 d9 e0 e1 e2 e3 e4 e5 e6 e7 e8 e9
                    clear f0 fs f0' fs' hy hx HDX HDY HSB
                    by_cases h_d : ¬ d = d'
                    · have b_d : (d == d') = false := beq_eq_false_iff_ne.2 h_d
                      go_wp2_with fail
                      go_quiet (fail)
                      go_wp2_with fail
                      go_roundw
                      case rel => exact ⟨q + 1, by omega, by go_num, HSB2, hid (below_drewN HBI.out _)⟩
                      case measure => simp [intOf]; omega
                    replace h_d := Classical.not_not.1 h_d
                    subst h_d
                    by_cases h_q : ¬ q2 = q2'
                    · have b_q : (q2 == q2') = false := beq_eq_false_iff_ne.2 h_q
                      go_wp2_with fail
                      go_quiet (fail)
                      go_wp2_with fail
                      go_roundw
                      case rel => exact ⟨q + 1, by omega, by go_num, HSB2, hid (below_drewN HBI.out _)⟩
                      case measure => simp [intOf]; omega
                    replace h_q := Classical.not_not.1 h_q
                    subst h_q
                    by_cases h_nm : ¬ nm = nm'
                    · have t_nm : ¬ nm.toList = nm'.toList := fun h => h_nm ((ba_iff _ _).1 h)
                      go_wp2_with fail
                      go_quiet (fail)
                      go_wp2_with fail
                      go_roundw
                      case rel => exact ⟨q + 1, by omega, by go_num, HSB2, hid (below_drewN HBI.out _)⟩
                      case measure => simp [intOf]; omega
                    replace h_nm := Classical.not_not.1 h_nm
                    subst h_nm
                    by_cases h_kd : ¬ kd = kd'
                    · have b_kd : (kd == kd') = false := beq_eq_false_iff_ne.2 h_kd
                      go_wp2_with fail
                      go_quiet (fail)
                      go_wp2_with fail
                      go_roundw
                      case rel => exact ⟨q + 1, by omega, by go_num, HSB2, hid (below_drewN HBI.out _)⟩
                      case measure => simp [intOf]; omega
                    replace h_kd := Classical.not_not.1 h_kd
                    subst h_kd
                    by_cases h_wh : ¬ wh2 = wh2'
                    · have t_wh : ¬ wh2.toList = wh2'.toList := fun h => h_wh ((ba_iff _ _).1 h)
                      go_wp2_with fail
                      go_quiet (fail)
                      go_wp2_with fail
                      go_roundw
                      case rel => exact ⟨q + 1, by omega, by go_num, HSB2, hid (below_drewN HBI.out _)⟩
                      case measure => simp [intOf]; omega
                    replace h_wh := Classical.not_not.1 h_wh
                    subst h_wh
                    by_cases h_ao : ¬ ao = ao'
                    · have t_ao : ¬ ao.toList = ao'.toList := fun h => h_ao ((ba_iff _ _).1 h)
                      go_wp2_with fail
                      go_quiet (fail)
                      go_wp2_with fail
                      go_roundw
                      case rel => exact ⟨q + 1, by omega, by go_num, HSB2, hid (below_drewN HBI.out _)⟩
                      case measure => simp [intOf]; omega
                    replace h_ao := Classical.not_not.1 h_ao
                    subst h_ao
                    by_cases h_an : ¬ an = an'
                    · have t_an : ¬ an.toList = an'.toList := fun h => h_an ((ba_iff _ _).1 h)
                      go_wp2_with fail
                      go_quiet (fail)
                      go_wp2_with fail
                      go_roundw
                      case rel => exact ⟨q + 1, by omega, by go_num, HSB2, hid (below_drewN HBI.out _)⟩
                      case measure => simp [intOf]; omega
                    replace h_an := Classical.not_not.1 h_an
                    subst h_an
                    by_cases h_bo : ¬ bo = bo'
                    · have t_bo : ¬ bo.toList = bo'.toList := fun h => h_bo ((ba_iff _ _).1 h)
                      go_wp2_with fail
                      go_quiet (fail)
                      go_wp2_with fail
                      go_roundw
                      case rel => exact ⟨q + 1, by omega, by go_num, HSB2, hid (below_drewN HBI.out _)⟩
                      case measure => simp [intOf]; omega
                    replace h_bo := Classical.not_not.1 h_bo
                    subst h_bo
                    by_cases h_bn : ¬ bn = bn'
                    · have t_bn : ¬ bn.toList = bn'.toList := fun h => h_bn ((ba_iff _ _).1 h)
                      go_wp2_with fail
                      go_quiet (fail)
                      go_wp2_with fail
                      go_roundw
                      case rel => exact ⟨q + 1, by omega, by go_num, HSB2, hid (below_drewN HBI.out _)⟩
                      case measure => simp [intOf]; omega
                    replace h_bn := Classical.not_not.1 h_bn
                    subst h_bn
                    by_cases h_u : ¬ u = u'
                    · have b_u : (u == u') = false := beq_eq_false_iff_ne.2 h_u
                      go_wp2_with fail
                      go_quiet (fail)
                      go_wp2_with fail
                      go_roundw
                      case rel => exact ⟨q + 1, by omega, by go_num, HSB2, hid (below_drewN HBI.out _)⟩
                      case measure => simp [intOf]; omega
                    replace h_u := Classical.not_not.1 h_u
                    subst h_u
                    exact absurd rfl hxy
              · obtain rfl : j = nc := by omega
                have hj1 : ¬ (j : Int) < (j : Int) := by omega
                clear HSB HEA HEC HLS
                have HBT6 := hid (HBT5.out.below HBJ.out)
                have HB6 := hid (HB5.out.trans (HBJ.out.mono HB5.out.size))
                clear HBT5 HB5 HBJ
                go_wp2_with fail
                go_loopw [16] (fun i wr => ∃ j : Nat, j ≤ 16 ∧ i = .int .i64 ((j : Int) + 1) ∧ Hid (Bth wr w.heap.size P R gs gr (2 * k) b r) ∧ Hid (Below w.heap.size w wr)) (fun i _ => 18 - (intOf i).toNat)
                case atStart => exact ⟨0, by omega, rfl, HBT6, HB6⟩
                case round =>
                  clear HBT6 HB6
                  obtain ⟨wh, hwh⟩ : ∃ x, x = wr := ⟨_, rfl⟩
                  subst hwh
                  obtain ⟨j', hjj, rfl, HBTJ, HBJ⟩ := hrel
                  have hj0' : (0 : Int) ≤ (j' : Int) := Int.natCast_nonneg _
                  by_cases hjl : j' < 16
                  · have hj2 : (j' : Int) + 1 ≤ 16 := by omega
                    have HF1 := hid (fresh_any HBTJ.out.s ((j' : Int) + 1) hi (by unfold In64; omega))
                    have HF2 := hid (fresh_any HBTJ.out.s ((j' : Int) + 1) lo (by unfold In64; omega))
                    have HFM := hid (fresh_mono b hlh ((j' : Int) + 1))
                    obtain ⟨v, hv⟩ : ∃ v, b.fresh ((j' : Int) + 1) hi = v := ⟨_, rfl⟩
                    obtain ⟨u, hu⟩ : ∃ v, b.fresh ((j' : Int) + 1) lo = v := ⟨_, rfl⟩
                    rw [hv] at HF1 HFM
                    rw [hu] at HF2 HFM
                    have e1 : IntKind.i64.wrap ((j' : Int) + 1) = (j' : Int) + 1 := wrap_in _ (by omega)
                    clear hv hu
                    cases v
                    · go_wp2_with fail
                      refine HF1.out.mono ?_
                      rintro er w6 ⟨rfl, hw⟩
                      have hw6 : wh = w6 := hw
                      subst hw6
                      clear hw
                      go_wp2_with fail
                      go_roundw
                      case rel => exact ⟨j' + 1, by omega, by go_num, HBTJ, HBJ⟩
                      case measure => simp [intOf]; omega
                    · obtain rfl : u = true := HFM.out rfl
                      go_wp2_with fail
                      refine HF1.out.mono ?_
                      rintro er w6 ⟨rfl, hw⟩
                      have hw6 : wh = w6 := hw
                      subst hw6
                      clear hw
                      go_wp2_with fail
                      refine HF2.out.mono ?_
                      rintro er w6 ⟨rfl, hw⟩
                      have hw6 : wh = w6 := hw
                      subst hw6
                      clear hw
                      go_wp2_with fail
                      go_roundw
                      case rel => exact ⟨j' + 1, by omega, by go_num, HBTJ, HBJ⟩
                      case measure => simp [intOf]; omega
                  · obtain rfl : j' = 16 := by omega
                    have hj2 : ¬ ((16 : Nat) : Int) + 1 ≤ 16 := by omega
                    go_wp2_with fail
                    refine (HLV.out wh).mono ?_
                    rintro er w8 ⟨rfl, bl8⟩
                    go_wp2_with fail
                    go_ret
                    exact ⟨rfl, HBJ.out.trans (bl8.mono HBJ.out.size)⟩
          · have hi1 : ¬ (k : Int) < (dn : Int) := by omega
            clear hlt
            have HA0 := hid (held_any HBT.out.s HBT.out.inv.le lo)
            have HLS := hid (held_sub b hlh)
            go_wp2_with fail
            refine HA0.out.mono ?_
            rintro er w4 ⟨A4, na, c4, rfl, hna, hc4, hm4, hb4, ho4, bl4⟩
            have HBT4 := hid (HBT.out.below bl4)
            have HB4 := hid (HB.out.trans (bl4.mono HB.out.size))
            have HE4 := hid ((show Own (E := encL) w4 wj.heap.size 55 (.slice A4 (b.held lo).length c4) (b.held lo) from by rw [hna]; exact ho4) |> own_els)
            have HNA := hid hna
            have HC0 := hid (held_any HBT4.out.s HBT4.out.inv.le hi)
            clear hna ho4 bl4 HA0
            go_wp2_with fail
            refine HC0.out.mono ?_
            rintro er w5 ⟨A5, nc, c5, rfl, hnc, hc5, hm5, hb5, ho5, bl5⟩
            have HBT5 := hid (HBT4.out.below bl5)
            have HB5 := hid (HB4.out.trans (bl5.mono HB4.out.size))
            have HEA := hid ((HE4.out.below bl5).more bl5.size)
            have HEC := hid ((show Own (E := encL) w5 w4.heap.size 55 (.slice A5 (b.held hi).length c5) (b.held hi) from by rw [hnc]; exact ho5) |> own_els)
            have HNC := hid hnc
            clear hnc ho5 bl5 HC0
            obtain ⟨la, hla⟩ : ∃ x, b.held lo = x := ⟨_, rfl⟩
            obtain ⟨lc, hlc⟩ : ∃ x, b.held hi = x := ⟨_, rfl⟩
            rw [hla] at HNA HEA HLS
            rw [hlc] at HNC HEC HLS
            clear hla hlc HE4 HBT4 HB4
            have HB55 := hid (Below.refl w5.heap.size w5)
            go_wp2_with fail
            go_loopw [14, 15] (fun kk i wr => ∃ p j : Nat, kk = .int .i64 (p : Int) ∧ i = .int .i64 (j : Int) ∧ p ≤ na ∧ j ≤ nc ∧ Hid ((lc.drop j).Sublist (la.drop p)) ∧ Hid (Below w5.heap.size w5 wr)) (fun _ i _ => nc - (intOf i).toNat)
            case atStart => exact ⟨0, 0, rfl, rfl, Nat.zero_le _, Nat.zero_le _, hid (by simpa using HLS.out), HB55⟩
            case round =>
              obtain ⟨wi, hwi⟩ : ∃ x, x = wr := ⟨_, rfl⟩
              subst hwi
              obtain ⟨p, j, rfl, rfl, hp, hj, HSB, HBJ⟩ := hrel
              have hj0 : (0 : Int) ≤ (j : Int) := Int.natCast_nonneg _
              by_cases hjn : j < nc
              · have hj1 : (j : Int) < (nc : Int) := by omega
                obtain ⟨x, hx⟩ : ∃ x, lc[j]? = some x := ⟨_, List.getElem?_eq_getElem (by rw [HNC.out]; exact hjn)⟩
                have HDX := hid (drop_at hx)
                go_wp2_with fail
                go_loopw [14] (fun kk wr => ∃ q : Nat, q ≤ na ∧ kk = .int .i64 (q : Int) ∧ Hid ((lc.drop j).Sublist (la.drop q)) ∧ Hid (Below w5.heap.size w5 wr)) (fun kk _ => na - (intOf kk).toNat)
                case atStart => exact ⟨p, hp, rfl, HSB, HBJ⟩
                case round =>
                  clear HSB HBJ
                  obtain ⟨wh, hwh⟩ : ∃ x, x = wr := ⟨_, rfl⟩
                  subst hwh
                  obtain ⟨q, hq, rfl, HSB, HBI⟩ := hrel
                  have hq0 : (0 : Int) ≤ (q : Int) := Int.natCast_nonneg _
                  have hqn : q < na := by
                    rcases Nat.lt_or_ge q na with h | h
                    · exact h
                    · have h1 := HSB.out
                      have hnil : la.drop q = [] := List.drop_eq_nil_of_le (by rw [HNA.out]; exact h)
                      rw [HDX.out, hnil] at h1
                      exact absurd h1 (by simp)
                  have hq1 : (q : Int) < (na : Int) := by omega
                  obtain ⟨y, hy⟩ : ∃ y, la[q]? = some y := ⟨_, List.getElem?_eq_getElem (by rw [HNA.out]; exact hqn)⟩
                  have HDY := hid (drop_at hy)
                  obtain ⟨ad, aj, hA, -, ea, -, f0, fs⟩ := ((HEA.out.below HBI.out).more HBI.out.size).get hy
                  obtain ⟨ad', aj', hA', -, ea', -, f0', fs'⟩ := ((HEC.out.below HBI.out).more HBI.out.size).get hx
                  subst hA hA'
                  have ea : ad.add (q * 10) = aj := ea
                  have ea' : ad'.add (j * 10) = aj' := ea'
                  have d0 := f0 _ rfl
                  have d1 := fs 1 _ (by omega) rfl
                  have d2 := fs 2 _ (by omega) rfl
                  have d3 := fs 3 _ (by omega) rfl
                  have d4 := fs 4 _ (by omega) rfl
                  have d5 := fs 5 _ (by omega) rfl
                  have d6 := fs 6 _ (by omega) rfl
                  have d7 := fs 7 _ (by omega) rfl
                  have d8 := fs 8 _ (by omega) rfl
                  have d9 := fs 9 _ (by omega) rfl
                  have e0 := f0' _ rfl
                  have e1 := fs' 1 _ (by omega) rfl
                  have e2 := fs' 2 _ (by omega) rfl
                  have e3 := fs' 3 _ (by omega) rfl
                  have e4 := fs' 4 _ (by omega) rfl
                  have e5 := fs' 5 _ (by omega) rfl
                  have e6 := fs' 6 _ (by omega) rfl
                  have e7 := fs' 7 _ (by omega) rfl
                  have e8 := fs' 8 _ (by omega) rfl
                  have e9 := fs' 9 _ (by omega) rfl
                  by_cases hxy : y = x
                  · subst hxy
                    obtain ⟨⟨d, q2, nm, kd, wh2, ao, an, bo, bn⟩, u⟩ := y
                    simp only at d0 d1 d2 d3 d4 d5 d6 d7 d8 d9 e0 e1 e2 e3 e4 e5 e6 e7 e8 e9
                    clear f0 fs f0' fs' hy
                    go_wp2_with fail
                    go_quiet (fail)
                    have hne : ((q : Int) == (na : Int)) = false := beq_eq_false_iff_ne.2 (by omega)
                    go_wp2_with fail
                    go_roundw
                    case rel => exact ⟨q, j + 1, rfl, by go_num, by omega, by omega, hid (by
                      have h1 := HSB.out
                      rw [HDX.out] at h1
                      exact (List.sublist_cons_self _ _).trans h1), hid (below_drewN HBI.out _)⟩
                    case measure => simp [intOf]; omega
                  · have HSB2 : Hid ((lc.drop j).Sublist (la.drop (q + 1))) := hid (by
                      have h1 := HSB.out
                      rw [HDX.out, HDY.out] at h1
                      rw [HDX.out]
                      cases h1 with
                      | cons _ h => exact h
                      | cons_cons _ h => exact absurd rfl hxy)
                    obtain ⟨⟨d, q2, nm, kd, wh2, ao, an, bo, bn⟩, u⟩ := y
                    obtain ⟨⟨d', q2', nm', kd', wh2', ao', an', bo', bn'⟩, u'⟩ := x
                    simp only at d0 d1 d2 d3 d4 d5 d6 d7 d8 d9 e0 e1 e2 e3 e4 e5 e6 e7 e8 e9
                    clear f0 fs f0' fs' hy hx HDX HDY HSB
                    by_cases h_d : ¬ d = d'
                    · have b_d : (d == d') = false := beq_eq_false_iff_ne.2 h_d
                      go_wp2_with fail
                      go_quiet (fail)
                      go_wp2_with fail
                      go_roundw
                      case rel => exact ⟨q + 1, by omega, by go_num, HSB2, hid (below_drewN HBI.out _)⟩
                      case measure => simp [intOf]; omega
                    replace h_d := Classical.not_not.1 h_d
                    subst h_d
                    by_cases h_q : ¬ q2 = q2'
                    · have b_q : (q2 == q2') = false := beq_eq_false_iff_ne.2 h_q
                      go_wp2_with fail
                      go_quiet (fail)
                      go_wp2_with fail
                      go_roundw
                      case rel => exact ⟨q + 1, by omega, by go_num, HSB2, hid (below_drewN HBI.out _)⟩
                      case measure => simp [intOf]; omega
                    replace h_q := Classical.not_not.1 h_q
                    subst h_q
                    by_cases h_nm : ¬ nm = nm'
                    · have t_nm : ¬ nm.toList = nm'.toList := fun h => h_nm ((ba_iff _ _).1 h)
                      go_wp2_with fail
                      go_quiet (fail)
                      go_wp2_with fail
                      go_roundw
                      case rel => exact ⟨q + 1, by omega, by go_num, HSB2, hid (below_drewN HBI.out _)⟩
                      case measure => simp [intOf]; omega
                    replace h_nm := Classical.not_not.1 h_nm
                    subst h_nm
                    by_cases h_kd : ¬ kd = kd'
                    · have b_kd : (kd == kd') = false := beq_eq_false_iff_ne.2 h_kd
                      go_wp2_with fail
                      go_quiet (fail)
                      go_wp2_with fail
                      go_roundw
                      case rel => exact ⟨q + 1, by omega, by go_num, HSB2, hid (below_drewN HBI.out _)⟩
                      case measure => simp [intOf]; omega
                    replace h_kd := Classical.not_not.1 h_kd
                    subst h_kd
                    by_cases h_wh : ¬ wh2 = wh2'
                    · have t_wh : ¬ wh2.toList = wh2'.toList := fun h => h_wh ((ba_iff _ _).1 h)
                      go_wp2_with fail
                      go_quiet (fail)
                      go_wp2_with fail
                      go_roundw
                      case rel => exact ⟨q + 1, by omega, by go_num, HSB2, hid (below_drewN HBI.out _)⟩
                      case measure => simp [intOf]; omega
                    replace h_wh := Classical.not_not.1 h_wh
                    subst h_wh
                    by_cases h_ao : ¬ ao = ao'
                    · have t_ao : ¬ ao.toList = ao'.toList := fun h => h_ao ((ba_iff _ _).1 h)
                      go_wp2_with fail
                      go_quiet (fail)
                      go_wp2_with fail
                      go_roundw
                      case rel => exact ⟨q + 1, by omega, by go_num, HSB2, hid (below_drewN HBI.out _)⟩
                      case measure => simp [intOf]; omega
                    replace h_ao := Classical.not_not.1 h_ao
                    subst h_ao
                    by_cases h_an : ¬ an = an'
                    · have t_an : ¬ an.toList = an'.toList := fun h => h_an ((ba_iff _ _).1 h)
                      go_wp2_with fail
                      go_quiet (fail)
                      go_wp2_with fail
                      go_roundw
                      case rel => exact ⟨q + 1, by omega, by go_num, HSB2, hid (below_drewN HBI.out _)⟩
                      case measure => simp [intOf]; omega
                    replace h_an := Classical.not_not.1 h_an
                    subst h_an
                    by_cases h_bo : ¬ bo = bo'
                    · have t_bo : ¬ bo.toList = bo'.toList := fun h => h_bo ((ba_iff _ _).1 h)
                      go_wp2_with fail
                      go_quiet (fail)
                      go_wp2_with fail
                      go_roundw
                      case rel => exact ⟨q + 1, by omega, by go_num, HSB2, hid (below_drewN HBI.out _)⟩
                      case measure => simp [intOf]; omega
                    replace h_bo := Classical.not_not.1 h_bo
                    subst h_bo
                    by_cases h_bn : ¬ bn = bn'
                    · have t_bn : ¬ bn.toList = bn'.toList := fun h => h_bn ((ba_iff _ _).1 h)
                      go_wp2_with fail
                      go_quiet (fail)
                      go_wp2_with fail
                      go_roundw
                      case rel => exact ⟨q + 1, by omega, by go_num, HSB2, hid (below_drewN HBI.out _)⟩
                      case measure => simp [intOf]; omega
                    replace h_bn := Classical.not_not.1 h_bn
                    subst h_bn
                    by_cases h_u : ¬ u = u'
                    · have b_u : (u == u') = false := beq_eq_false_iff_ne.2 h_u
                      go_wp2_with fail
                      go_quiet (fail)
                      go_wp2_with fail
                      go_roundw
                      case rel => exact ⟨q + 1, by omega, by go_num, HSB2, hid (below_drewN HBI.out _)⟩
                      case measure => simp [intOf]; omega
                    replace h_u := Classical.not_not.1 h_u
                    subst h_u
                    exact absurd rfl hxy
              · obtain rfl : j = nc := by omega
                have hj1 : ¬ (j : Int) < (j : Int) := by omega
                clear HSB HEA HEC HLS
                have HBT6 := hid (HBT5.out.below HBJ.out)
                have HB6 := hid (HB5.out.trans (HBJ.out.mono HB5.out.size))
                clear HBT5 HB5 HBJ
                go_wp2_with fail
                go_loopw [16] (fun i wr => ∃ j : Nat, j ≤ 16 ∧ i = .int .i64 ((j : Int) + 1) ∧ Hid (Bth wr w.heap.size P R gs gr (2 * k) b r) ∧ Hid (Below w.heap.size w wr)) (fun i _ => 18 - (intOf i).toNat)
                case atStart => exact ⟨0, by omega, rfl, HBT6, HB6⟩
                case round =>
                  clear HBT6 HB6
                  obtain ⟨wh, hwh⟩ : ∃ x, x = wr := ⟨_, rfl⟩
                  subst hwh
                  obtain ⟨j', hjj, rfl, HBTJ, HBJ⟩ := hrel
                  have hj0' : (0 : Int) ≤ (j' : Int) := Int.natCast_nonneg _
                  by_cases hjl : j' < 16
                  · have hj2 : (j' : Int) + 1 ≤ 16 := by omega
                    have HF1 := hid (fresh_any HBTJ.out.s ((j' : Int) + 1) hi (by unfold In64; omega))
                    have HF2 := hid (fresh_any HBTJ.out.s ((j' : Int) + 1) lo (by unfold In64; omega))
                    have HFM := hid (fresh_mono b hlh ((j' : Int) + 1))
                    obtain ⟨v, hv⟩ : ∃ v, b.fresh ((j' : Int) + 1) hi = v := ⟨_, rfl⟩
                    obtain ⟨u, hu⟩ : ∃ v, b.fresh ((j' : Int) + 1) lo = v := ⟨_, rfl⟩
                    rw [hv] at HF1 HFM
                    rw [hu] at HF2 HFM
                    have e1 : IntKind.i64.wrap ((j' : Int) + 1) = (j' : Int) + 1 := wrap_in _ (by omega)
                    clear hv hu
                    cases v
                    · go_wp2_with fail
                      refine HF1.out.mono ?_
                      rintro er w6 ⟨rfl, hw⟩
                      have hw6 : wh = w6 := hw
                      subst hw6
                      clear hw
                      go_wp2_with fail
                      go_roundw
                      case rel => exact ⟨j' + 1, by omega, by go_num, HBTJ, HBJ⟩
                      case measure => simp [intOf]; omega
                    · obtain rfl : u = true := HFM.out rfl
                      go_wp2_with fail
                      refine HF1.out.mono ?_
                      rintro er w6 ⟨rfl, hw⟩
                      have hw6 : wh = w6 := hw
                      subst hw6
                      clear hw
                      go_wp2_with fail
                      refine HF2.out.mono ?_
                      rintro er w6 ⟨rfl, hw⟩
                      have hw6 : wh = w6 := hw
                      subst hw6
                      clear hw
                      go_wp2_with fail
                      go_roundw
                      case rel => exact ⟨j' + 1, by omega, by go_num, HBTJ, HBJ⟩
                      case measure => simp [intOf]; omega
                  · obtain rfl : j' = 16 := by omega
                    have hj2 : ¬ ((16 : Nat) : Int) + 1 ≤ 16 := by omega
                    go_wp2_with fail
                    refine (HLV.out wh).mono ?_
                    rintro er w8 ⟨rfl, bl8⟩
                    go_wp2_with fail
                    go_ret
                    exact ⟨rfl, HBJ.out.trans (bl8.mono HBJ.out.size)⟩
  · have HNEW := hid (fun W => new_no o ho W)
    clear hdn hD
    go_enter Try.func5, Try.ntmps5
    go_wp2_with fail
    refine (HNEW.out w).mono ?_
    rintro er w2 ⟨rfl, hw⟩
    have hw2 : w = w2 := hw
    subst hw2
    go_wp2_with fail
    refine (HLV.out w).mono ?_
    rintro er w2 ⟨rfl, bl⟩
    go_wp2_with fail
    go_ret
    exact ⟨rfl, bl⟩
end Go.Proofs.Ytkimhdcngagmaaa.Sh
