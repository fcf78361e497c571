/-
  The document's tape: Write.
-/
import Derived.Test.YtdigfbgjefffiaaTpSet
namespace Go.Proofs.Ytdigfbgjefffiaa.Sh
open Go Go.RowKit

set_option linter.unusedSimpArgs false
set_option linter.unusedVariables false
theorem unitsW_snoc {sd : Int} {l : List UInt8} {k : Nat} {x : UInt8} (h : l[k]? = some x) : TS.unitsW sd (l.take (k + 1)) = TS.unitsW sd (l.take k) ++ [(sd, -1, x)] := by
  rw [take_succ_of h]
  unfold TS.unitsW
  rw [List.map_append]; rfl
theorem size_setQ (w : World) (p : Addr) (v : Value) : (w.setCell p v).heap.size = w.heap.size := by simp
set_option maxHeartbeats 8000000 in
theorem refWrite_any {w : World} {P : Nat → Prop} {q : Nat} {S : TS} (e : TapR w P q S) (hu : S.us.length ≤ 900000) (sd : Int) (A : Option Addr) (l : List UInt8) (n c : Nat) (hn : l.length = n) (hnm : n ≤ 70000) (hA : ∀ W, Grew w W P → Byt W W.heap.size A l) :
    Calls Try.prog 26 #[.pointer (some ⟨q, 0, none⟩), .int .i64 sd, .slice A n c] w fun er w' => er = .returned (.int .i64 (S.write sd l).2) ∧ TapR w' (plusQ P w.heap.size w'.heap.size) q (S.write sd l).1 ∧ Grew w w' P := by
  have HRD := hid (refReady_any e sd)
  have HOKW := hid (TS.write_ok (sd := sd) (l := l) e.1)
  by_cases hr : S.ready sd = 0
  · have hs := (TS.ready_zero hr).1
    have HNW := hid (refNow_any e (by omega) sd hs)
    obtain ⟨hok, s, A0, A1, UA, c0, c1, uc, e⟩ := e
    obtain ⟨m, hm⟩ : ∃ m, (S.now sd).length = m := ⟨_, rfl⟩
    rw [hm] at HNW
    have hm6 := hok.now sd
    rw [hm] at hm6
    rw [hr] at HRD
    by_cases hroom : 65536 < m + n
    · have HWR : Hid (S.write sd l = (S, 42)) := hid (by unfold TS.write; rw [if_neg (by simp [hr]), hm, hn, if_pos hroom])
      have hroom' : (65536 : Int) < (m : Int) + (n : Int) := by omega
      have HE := hid (fun W hW => e.below (w' := W) hW)
      have HOK := hid hok
      clear e hok hr hs hm hroom HOKW hA hn
      go_enter Try.func26, Try.ntmps26
      go_wp2_with fail
      refine HRD.out.mono ?_
      rintro er w1 ⟨rfl, rfl⟩
      go_wp2_with fail
      refine HNW.out.mono ?_
      rintro er w1 ⟨A3, m3, c3, rfl, h1, rfl, h3, h4⟩
      have HB := hid h4
      clear h1 h3 h4
      go_wp2_with fail
      go_ret
      exact ⟨by rw [HWR.out]; rfl, by rw [HWR.out]; exact TapR.plus ⟨HOK.out, _, _, _, _, _, _, _, HE.out _ HB.out⟩, Grew.of_below HB.out⟩
    · have HWR : Hid (S.write sd l = ({ S.burn with us := S.us ++ TS.unitsW sd l }, 0)) := hid (by unfold TS.write; rw [if_neg (by simp [hr]), hm, hn, if_neg hroom])
      have hroom' : ¬ (65536 : Int) < (m : Int) + (n : Int) := by omega
      have HBU := hid (fun (W : World) (hW : Below w.heap.size w W) => refBurn_any (e.below hW) ⟨hok.lf0, hok.lf1⟩)
      have HN := hid hn
      have HAA := hid hA
      have HBUS := hid S.burn_us
      have HUS := hid hu
      clear e hok hr hs hm hroom hA hn hu
      go_enter Try.func26, Try.ntmps26
      go_wp2_with fail
      refine HRD.out.mono ?_
      rintro er w1 ⟨rfl, rfl⟩
      go_wp2_with fail
      refine HNW.out.mono ?_
      rintro er w1 ⟨A3, m3, c3, rfl, h1, rfl, h3, h4⟩
      have HB := hid h4
      clear h1 h3 h4
      go_wp2_with fail
      refine (HBU.out w1 HB.out).mono ?_
      rintro er w2 ⟨rfl, e2, g2⟩
      have HG2 := hid ((Grew.of_below HB.out).trans g2)
      have HE2 := hid e2
      clear e2 g2
      go_wp2_with fail
      go_loopw [8] (fun i wr => ∃ (j : Nat) (UAj : Option Addr) (ucj : Nat), i = .int .i64 (j : Int) ∧ j ≤ n ∧ Hid (TapE wr (plusQ P w.heap.size wr.heap.size) q s A0 A1 UAj c0 c1 ucj ⟨S.burn.s0, S.burn.s1, S.us ++ TS.unitsW sd (l.take j), S.burn.bn, S.burn.lf⟩) ∧ Hid (Grew w wr P)) (fun i _ => n - (intOf i).toNat)
      case atStart =>
        refine ⟨0, UA, uc, rfl, Nat.zero_le _, hid ?_, HG2⟩
        have E0 : TS.mk S.burn.s0 S.burn.s1 (S.us ++ TS.unitsW sd (l.take 0)) S.burn.bn S.burn.lf = S.burn := by
          show TS.mk S.burn.s0 S.burn.s1 (S.us ++ []) S.burn.bn S.burn.lf = S.burn
          rw [List.append_nil, ← HBUS.out]
        rw [E0]
        exact HE2.out.imp (fun _ hx => .inl hx) (fun y hy => hy.elim (HE2.out.dom y) (·.2))
      case round =>
        obtain ⟨wj, hwj⟩ : ∃ x, x = wr := ⟨_, rfl⟩
        subst hwj
        obtain ⟨j, UAj, ucj, rfl, hj, HE, HG⟩ := hrel
        have hj0 : (0 : Int) ≤ (j : Int) := Int.natCast_nonneg _
        by_cases hlt : j < n
        · obtain ⟨ad, x, rfl, had, hx, hcell⟩ := (HAA.out wj HG.out).get (k := j) (by rw [HN.out]; exact hlt)
          have hx8 := lt8 x
          have hj1 : (j : Int) < (n : Int) := by omega
          have HX := hid (unitsW_snoc (sd := sd) hx)
          have hfl : (S.us ++ TS.unitsW sd (l.take j)).length ≤ 1000000000000 := by
            rw [List.length_append, TS.unitsW_length, List.length_take, HN.out]
            have := HUS.out
            omega
          obtain ⟨V, hV⟩ : ∃ V, S.us ++ TS.unitsW sd (l.take j) = V := ⟨_, rfl⟩
          rw [hV] at HE hfl
          have HVV : Hid (S.us ++ TS.unitsW sd (l.take (j + 1)) = V ++ [(sd, -1, x)]) := hid (by rw [HX.out, ← List.append_assoc, hV])
          have eD := HE.out.below (below_drew1 wj)
          have hbC : Below wj.drew.heap.size wj.drew (wj.drew.alloc (.cells #[.int .i64 sd, .int .i64 (-1), .int .u8 (x.toNat : Int)] 64)) := (Below.refl _ _).alloc (Nat.le_refl _) _
          have eC := eD.below hbC
          have cD1 := ((eD.cells _ (Below.refl _ _)).1).2.1
          have cC1 : (wj.alloc (.cells #[.int .i64 sd, .int .i64 (-1), .int .u8 (x.toNat : Int)] 64)).cell? ⟨q, 1, none⟩ = _ := ((eC.cells _ (Below.refl _ _)).1).2.1
          have xD : wj.drew.cell? (ad.add j) = some (.int .u8 x.toNat) := hcell
          have HOC := hid eC.own
          have HRU := hid (reads_new wj.drew #[.int .i64 sd, .int .i64 (-1), .int .u8 (x.toNat : Int)] 64 (0, 0))
          have HAP := hid (fun (A' : Option Addr) (c' : Nat) (w4 : World) ho hg hl => eC.app (u := (sd, -1, x)) (A' := A') (c' := c') (w' := w4) ho hg hl)
          have hq4 : ∀ (w4 : World), (wj.drew.alloc (.cells #[.int .i64 sd, .int .i64 (-1), .int .u8 (x.toNat : Int)] 64)).grownBy w4 (Value.slice UAj V.length ucj).ownBlock → w4.heap[q]? = some _ := fun w4 hg => (hg.block q (eC.dom q eC.p0) (fun e2 => (eC.ob q e2.symm).2.1 rfl)).trans eC.row
          have HQ4 := hid hq4
          obtain ⟨U, hU⟩ : ∃ U, V.length = U := ⟨_, rfl⟩
          simp only at cD1 cC1
          rw [hU] at cD1 cC1 HOC HAP HQ4
          have HU := hid hU
          have HSZ := hid eC.dom
          have HSC : Hid ((wj.drew.alloc (.cells #[.int .i64 sd, .int .i64 (-1), .int .u8 (x.toNat : Int)] 64)).heap.size = wj.heap.size + 1) := hid (by rw [World.size_alloc]; rfl)
          have hus : U ≤ 9223372036854775807 := by omega
          have HGC := hid ((HG.out.trans (Grew.of_below (below_drew1 wj))).trans (Grew.of_below hbC))
          clear eD eC hbC hx hU hq4 hcell hV
          go_wp2_with fail
          go_region_law ((first | (refine step_app1 (E := encU) (by rfl) slUn (.tmp 35) (.tmp 42) (by rfl) (B := 0) (v := .slice UAj U ucj) (l := V) HOC.out (by rfl) (ad := ⟨wj.heap.size, 0, none⟩) (c := 1) (sd, -1, x) (by rfl) HRU.out hfl (by omega) (Nat.zero_le _) ?_; intro A' c' w4 ho4 hg4 hl4; have hr4 := HQ4.out w4 hg4; have c14 : w4.cell? ⟨q, 1, none⟩ = some (.slice UAj U ucj) := (by rw [cell_of_row _ _ 1 _ _ (0, 0) hr4]; rfl); have f14 : w4.frozen? ⟨q, 1, none⟩ = false := frozen_of_row w4 q 1 _ _ hr4; have HFIN := hid (HAP.out A' c' w4 (by rw [HU.out] at ho4; exact ho4) hg4 (by rw [HU.out] at hl4; exact hl4)); have HS4 := hid hg4.size; clear ho4 hg4 hl4 hr4)))
          all_goals
            rw [HU.out]
            have HGF := hid (HGC.out.thenQ HFIN.out.2)
            have HEF := hid (HFIN.out.1.imp (Q := plusQ P w.heap.size (w4.setCell ⟨q, 1, none⟩ (.slice A' (U + 1) c')).heap.size) (fun y hy => by
              rw [size_setQ]
              refine plusQ_twice ?_ ?_ y hy
              · exact HGC.out.size
              · have h4 : (wj.drew.alloc (.cells #[.int .i64 sd, .int .i64 (-1), .int .u8 (x.toNat : Int)] 64)).heap.size ≤ w4.heap.size := HS4.out
                have := HSC.out
                omega) (fun y hy => hy.elim (fun hp => HFIN.out.1.dom y (.inl (.inl hp))) (·.2)))
            go_wp2
            go_roundw
            case rel => exact ⟨j + 1, A', c', by go_num, by omega, hid (by rw [HVV.out]; exact HEF.out), HGF⟩
            case measure => simp [intOf]; omega
        · obtain rfl : j = n := by omega
          have HL : Hid (l.take j = l) := hid (List.take_of_length_le (by rw [HN.out]; exact Nat.le_refl _))
          rw [HL.out] at HE
          go_wp2_with fail
          go_ret
          rw [HWR.out] at HOKW
          exact ⟨by rw [HWR.out]; rfl, by rw [HWR.out]; exact ⟨HOKW.out, _, _, _, _, _, _, _, HE.out⟩, HG.out⟩
  · have HWR : Hid (S.write sd l = (S, S.ready sd)) := hid (by unfold TS.write; rw [if_pos hr])
    have HE := hid e
    obtain ⟨r, hrr⟩ : ∃ r, S.ready sd = r := ⟨_, rfl⟩
    rw [hrr] at HRD HWR hr
    have hb : (r != 0) = true := by simp [hr]
    clear hrr e HOKW hA hn
    go_enter Try.func26, Try.ntmps26
    go_wp2_with fail
    refine HRD.out.mono ?_
    rintro er w1 ⟨rfl, rfl⟩
    go_wp2_with fail
    go_ret
    exact ⟨by rw [HWR.out]; rfl, by rw [HWR.out]; exact HE.out.plus, Grew.refl _ _⟩
end Go.Proofs.Ytdigfbgjefffiaa.Sh
