/-
  The walk of TapeSynced. Written by mk_tpsynced.py.
-/
import Derived.Test.YtdigfbgjefffiaaTpSyM
import Derived.Deep.DeepCutAuto
import Derived.Deep.CutBlock
namespace Go.Proofs.Ytdigfbgjefffiaa.Sh
open Go Go.RowKit

set_option linter.unusedSimpArgs false
set_option linter.unusedVariables false
theorem TS.sync_flat {S : TS} (h : S.sync.2 = 0) : S.sync.1.us = [] := by
  unfold TS.sync at h ⊢
  split
  · rename_i hr
    rw [if_pos hr] at h
    exact absurd h hr
  · rfl
set_option maxHeartbeats 16000000 in
set_option maxRecDepth 100000 in
theorem tapeSynced_walk (A : Option Addr) (xs : List Dt) (n c : Nat) (hn : xs.length = n) (hc : n ≤ c) (hc2 : c ≤ 9223372036854775807) (A' : Option Addr) (ys : List Dt) (n' c' : Nat) (hn' : ys.length = n') (hc' : n' ≤ c') (hc2' : c' ≤ 9223372036854775807)
    (zz : Int) (hz0 : -9223372036854775808 ≤ zz) (hz1 : zz < 9223372036854775808) (w : World) (h : Deeds4 w w.heap.size A xs) (h' : Deeds4 w w.heap.size A' ys) :
    Calls Try.prog 5 #[.slice A n c, .slice A' n' c', .int .i64 zz] w fun e w' => e = .returned (.bool true) ∧ Below w.heap.size w w' := by
  have HN' := hid hn'
  have HDD' := hid (fun W (hW : Below w.heap.size w W) => h'.below hW (Nat.le_refl _))
  have HN := hid hn
  have HDD := hid (fun W (hW : Below w.heap.size w W) => h.below hW (Nat.le_refl _))
  have H1 := hid (newP_any w)
  have H2 := hid (fun W => refNew_any W)
  clear h hn h' hn'
  go_enter Try.func5, Try.ntmps5
  go_wp2_with fail
  refine H1.out.mono ?_
  rintro er w1 ⟨gs, rfl, -, p1, b1⟩
  have HP1 := hid p1
  have HB1 := hid b1
  clear p1 b1
  go_wp2_with fail
  refine (H2.out w1).mono ?_
  rintro er w2 ⟨gr, rfl, -, r2, b2⟩
  have HX := hid (BthX.start w (P := fun _ => False) (R := fun _ => False) HP1.out HB1.out r2 b2)
  clear r2 b2
  go_upto_block 0 with fail
  go_cut [] (fun wx => ∃ S, Hid (S.us.length ≤ 1800) ∧ Hid (LT w wx (fun b => b < w.heap.size) gs S))
  case first =>
    go_wp2_with fail
    go_loopw [9] (fun i wr => ∃ (k : Nat), k ≤ n ∧ k ≤ 30 ∧ i = .int .i64 (k : Int) ∧ Hid (BthX w wr gs gr (stepsT xs k))) (fun i _ => n - (intOf i).toNat)
    case atStart => exact ⟨0, by omega, by omega, rfl, HX⟩
    case round =>
      obtain ⟨wj, hwj⟩ : ∃ x, x = wr := ⟨_, rfl⟩
      subst hwj
      obtain ⟨k, hk, hk6, rfl, HBX⟩ := hrel
      have hk0 : (0 : Int) ≤ (k : Int) := Int.natCast_nonneg _
      by_cases hlt : k < n
      · have hk1 : (k : Int) < (n : Int) := by omega
        by_cases hl6 : k < 30
        · have hk2 : (k : Int) < 30 := by omega
          obtain ⟨ad, aj, dh, x, hx, rfl, had, ea, HA, c0, c1, c2, c3⟩ := (HDD.out wj HBX.out.2).at (i := k) (by rw [HN.out]; exact hlt)
          have HST := hid (stepsT_succ hx)
          obtain ⟨⟨P, R, hb, hP⟩, hbel⟩ := HBX.out
          have hu := stepsT_us xs k
          have HDO := hid (does_any hb (by omega) dh.kind dh.sd dh.z HA.k0 HA.k1 HA.z0 HA.z1 dh.A x.2.2.2 dh.n dh.c HA.n HA.nc HA.c (fun b => b < w.heap.size) HA.el (fun b hb2 => ⟨fun hp => by have := hP b (.inl hp); omega, fun hp => by have := hP b (.inr hp); omega⟩))
          have ex : ((dh.kind, dh.sd, dh.z, x.2.2.2) : Dt) = x := by rw [HA.kind, HA.sd, HA.z]
          rw [ex] at HDO
          have HPP := hid hP
          have HBL := hid hbel
          clear hb hP hbel hx HA ex hu had
          go_wp2_with fail
          refine HDO.out.mono ?_
          rintro er w3 ⟨rfl, did⟩
          have HD3 := hid (BthX.did HBL.out HPP.out did)
          clear did
          rw [← HST.out] at HD3
          go_wp2_with fail
          go_roundw
          case rel => exact ⟨k + 1, by omega, by omega, by go_num, HD3⟩
          case measure => simp [intOf]; omega
        · have hk2 : ¬ (k : Int) < 30 := by omega
          have HU := hid (show (stepsT xs k).us.length ≤ 1800 by have := stepsT_us xs k; omega)
          go_wp2_with fail
          go_meet
          case rel => exact ⟨_, HU, hid HBX.out.lt⟩
      · obtain rfl : k = n := by omega
        have HU := hid (show (stepsT xs k).us.length ≤ 1800 by have := stepsT_us xs k; omega)
        go_wp2_with fail
        go_meet
        case rel => exact ⟨_, HU, hid HBX.out.lt⟩
  case rest =>
    obtain ⟨S, HU, HL⟩ := hcut
    obtain ⟨wd, hwd⟩ : ∃ x, x = wc := ⟨_, rfl⟩
    subst hwd
    have HSY := hid (HL.out.sync (by have := HU.out; omega))
    have HCR := hid (fun (W : World) (L : LT w W (fun b => b < w.heap.size) gs S.sync.1) => L.crash (by have := HU.out; have := S.sync_us; omega) zz hz0 hz1)
    obtain ⟨e, he⟩ : ∃ e, S.sync.2 = e := ⟨_, rfl⟩
    have HE := hid he
    rw [he] at HSY
    clear he
    go_upto_if 44 with (first | (go_at_call 18; refine HSY.out.mono ?_; rintro er w3 ⟨rfl, l3, s3⟩; have HL3 := hid l3; clear l3 s3))
    go_cut [] (fun wx => ∃ S1 : TS, Hid (S1.us = []) ∧ Hid (LT w wx (fun b => b < w.heap.size) gs S1))
    case first =>
      by_cases h0 : e = 0
      · have hb : (e != 0) = false := by simp [h0]
        have HF : Hid (S.sync.1.us = []) := hid (TS.sync_flat (HE.out.trans h0))
        clear h0
        go_wp2_with fail
        go_meet
        case rel => exact ⟨_, HF, HL3⟩
      · have hb : (e != 0) = true := by simp [h0]
        have HC3 := hid (HCR.out w3 HL3.out)
        clear h0
        go_wp2_with fail
        refine HC3.out.mono ?_
        rintro er w4 ⟨rfl, l4, s4⟩
        have HL4 := hid l4
        clear l4 s4
        go_wp2_with fail
        go_meet
        case rel => exact ⟨_, hid rfl, HL4⟩
    case rest =>
      obtain ⟨S1, HF, HL1⟩ := hcut
      obtain ⟨we, hwe⟩ : ∃ x, x = wc := ⟨_, rfl⟩
      subst hwe
      clear HSY HCR HE HL HU HL3 HDD HN HX HP1 HB1
      -- the two arrays
      obtain ⟨w4, hw4⟩ : ∃ x, x = (we.alloc (.cells #[.slice none 0 0, .slice none 0 0] 44)).alloc (.cells #[.slice none 0 0, .slice none 0 0] 44) := ⟨_, rfl⟩
      obtain ⟨bw, hbw⟩ : ∃ x, x = we.heap.size := ⟨_, rfl⟩
      obtain ⟨ba, hba⟩ : ∃ x, x = bw + 1 := ⟨_, rfl⟩
      obtain ⟨wx, hwx⟩ : ∃ x, x = we.alloc (.cells #[.slice none 0 0, .slice none 0 0] 44) := ⟨_, rfl⟩
      rw [← hwx] at hw4
      have bx1 : Below we.heap.size we wx := by rw [hwx]; exact (Below.refl _ _).alloc (Nat.le_refl _) _
      have bx2 : Below wx.heap.size wx w4 := by rw [hw4]; exact (Below.refl _ _).alloc (Nat.le_refl _) _
      have sx1 : wx.heap.size = we.heap.size + 1 := by rw [hwx]; simp
      have sx2 : w4.heap.size = wx.heap.size + 1 := by rw [hw4]; simp
      have rx1 : w4.heap[bw]? = some (.cells #[.slice none 0 0, .slice none 0 0] 44 (0, 0)) := by rw [hbw, bx2.block _ (by omega), hwx]; exact heap_alloc_new we _
      have rx2 : w4.heap[ba]? = some (.cells #[.slice none 0 0, .slice none 0 0] 44 (0, 0)) := by rw [hba, hbw, ← sx1, hw4]; exact heap_alloc_new wx _
      have hwz := HL1.out.bel.size
      have bx4 : Below we.heap.size we w4 := bx1.trans (bx2.mono bx1.size)
      have sy4 : Sy w w4 (fun x => x < w.heap.size ∨ (we.heap.size ≤ x ∧ x < w4.heap.size)) gs bw ba 44 S1 (.slice none 0 0) (.slice none 0 0) (.slice none 0 0) (.slice none 0 0) [] [] :=
        ⟨(HL1.out.made bx4).1, fun x hx => .inl hx, .inr ⟨by omega, by omega⟩, .inr ⟨by omega, by omega⟩, by omega, by omega, by omega, rx1, rx2, OwnB.nil _ _, OwnB.nil _ _, fun g e => by simp [Value.ownBlock] at e, fun g e => by simp [Value.ownBlock] at e, fun g e => by simp [Value.ownBlock] at e⟩
      have HSY4 := hid sy4
      have HOK1 := hid HL1.out.ok
      have HUS1 : Hid (S1.us.length ≤ 900000) := hid (by rw [HF.out]; simp)
      have HW4 := hid hw4
      have HWX := hid hwx
      have HBW := hid hbw
      have HBA := hid hba
      clear bx1 bx2 sx1 sx2 rx1 rx2 hwz bx4 sy4 hw4 hwx hbw hba
      go_upto_region 13 with fail
      rw [← HWX.out, ← HW4.out, ← HBW.out, ← HBA.out]
      go_wp2_with fail
      go_loopw [12] (fun i wr => ∃ (y : Nat), y ≤ 2 ∧ i = .int .i64 (y : Int) ∧ Hid (Sy2 w wr gs bw ba 44 S1 y)) (fun i _ => 2 - (intOf i).toNat)
      case atStart => exact ⟨0, by omega, rfl, hid ⟨_, _, _, _, _, _, _, HSY4.out, fun _ => ⟨rfl, rfl⟩, fun _ => ⟨rfl, rfl⟩, fun h => by omega, fun h => by omega⟩⟩
      case round =>
        obtain ⟨wr0, hwr0⟩ : ∃ x, x = wr := ⟨_, rfl⟩
        subst hwr0
        obtain ⟨y, hy, rfl, HS2⟩ := hrel
        obtain ⟨N, V0, V1, U0, U1, l0, l1, hsy, h0', h1', h2', h3'⟩ := HS2.out
        have HSY := hid hsy
        have HDM := hid hsy.lt.dom
        rcases (by omega : y = 0 ∨ y = 1 ∨ y = 2) with rfl | rfl | rfl
        · obtain ⟨hU, hl⟩ := h0' rfl
          clear hsy h2' h3' h0' HS2
          by_cases hr0 : S1.ready 0 = 0
          · skip
            have HRD := hid (HSY.out.lt.read HUS1.out 0)
            have hread : S1.read 0 = (S1.now 0, 0) := by unfold TS.read; rw [if_neg (by simp [hr0])]
            have HLN := hid (HOK1.out.now 0)
            rw [hread] at HRD
            clear hread
            go_wp2_with fail
            refine HRD.out.mono ?_
            rintro er w5 ⟨A5, n5, c5, rfl, l5, e5, o5, L5, s5⟩
            have sy5 := HSY.out.made (fun x hx => .inl hx) L5 s5
            have hwb : bw < wr0.heap.size := HDM.out bw HSY.out.nw
            have f19 := frozen_of_row w5 bw 0 _ _ sy5.rw'
            have k19 := cell_of_row w5 bw 0 _ _ (0, 0) sy5.rw'
            have sy6 := sy5.setW 0 (.slice A5 n5 c5)
            obtain ⟨w6, hw6⟩ : ∃ x, x = w5.setCell ⟨bw, 0, none⟩ (.slice A5 n5 c5) := ⟨_, rfl⟩
            rw [← hw6] at sy6
            have o6 : OwnB w6 wr0.heap.size (.slice A5 n5 c5) n5 (S1.now 0) := o5.kept' (fun g e hl => by rw [hw6]; exact heap_setCell_other w5 ⟨bw, 0, none⟩ g _ (fun e2 => by have e3 : g = bw := e2; have := (o5.lt g e).1; omega))
            have HRD6 := hid o6.byt.reads
            have hlen := o6.len
            have hn5 : n5 ≤ 65536 := by have := HLN.out; omega
            have k20 : w6.cell? ⟨ba, 0, none⟩ = some (.slice none 0 0) := by rw [cell_of_row w6 ba 0 _ _ (0, 0) sy6.ra, hU]; rfl
            have HSY6 := hid sy6
            have HDM6 : Hid (w.heap.size ≤ w6.heap.size) := hid sy6.lt.bel.size
            have HLEN := hid hlen
            have HW6 := hid hw6
            clear o5 L5 s5 e5 l5 sy5 hwb sy6 o6 hw6 hlen
            go_upto_region 20 with fail
            rw [← HW6.out]
            clear k19 f19
            go_wp2_with (at_builtin; (refine wpList_appB2 rfl (.tmp 71) (.tmp 72) rfl w.heap.size (.slice none 0 0) 0 [] (OwnB.nil _ _) rfl A5 n5 c5 (S1.now 0) rfl HLEN.out HRD6.out (by omega) HDM6.out w6 (Below.refl _ _) n5 (by omega) ?_; intro A7 c7 w7 o7 g7 b7 d7; have sy8 := HSY6.out.setU0 (k := S1.now 0) (by rw [hl]; exact o7) (by rw [hU]; exact g7) (by rw [hU]; exact d7); have hra7 := (g7.block ba (HSY6.out.lt.dom _ HSY6.out.na) (fun e => by cases e)).trans HSY6.out.ra; have f20 := frozen_of_row w7 ba 0 _ _ hra7; have k20' := cell_of_row w7 ba 0 _ _ (0, 0) hra7; rw [hl] at sy8; have HSY8 := hid sy8; clear o7 g7 b7 d7 sy8 hra7))
            go_roundw
            case rel =>
              refine ⟨1, by omega, rfl, hid ⟨_, _, _, _, _, _, _, HSY8.out, ?_, ?_, ?_, ?_⟩⟩
              · intro h; omega
              · exact fun _ => h1' (by omega)
              · exact fun _ => ⟨hr0, by simp, A5, c5, by simp [HLEN.out]⟩
              · intro h; omega
            case measure => simp [intOf]
          · have hr4 := ready_down hr0
            have HRD := hid (HSY.out.lt.read HUS1.out 0)
            have hread : (S1.read 0).2 = 40 := by unfold TS.read; rw [if_pos hr0]; exact hr4
            rw [hread] at HRD
            clear hread
            go_wp2_with fail
            refine HRD.out.mono ?_
            rintro er w5 ⟨A5, n5, c5, rfl, l5, e5, o5, L5, s5⟩
            have HB5 := hid L5.bel
            clear l5 e5 o5 L5 s5
            go_wp2_with fail
            refine (lives_any _).mono ?_
            rintro er w9 ⟨rfl, b9⟩
            have HBG := hid (HB5.out.trans (b9.mono HB5.out.size))
            go_wp2
            go_ret
            exact ⟨rfl, HBG.out⟩
        · obtain ⟨hU, hl⟩ := h1' (by omega)
          obtain ⟨hr0, hl0, Av, cv, hV0⟩ := h2' (by omega)
          clear hsy h2' h3' h0' h1' HS2
          have HRD := hid (HSY.out.lt.read HUS1.out 1)
          have hread : S1.read 1 = (S1.now 1, 0) := by unfold TS.read; rw [if_neg (by rw [ready_one hr0]; simp)]
          have HLN := hid (HOK1.out.now 1)
          rw [hread] at HRD
          clear hread
          go_wp2_with fail
          refine HRD.out.mono ?_
          rintro er w5 ⟨A5, n5, c5, rfl, l5, e5, o5, L5, s5⟩
          have sy5 := HSY.out.made (fun x hx => .inl hx) L5 s5
          have hwb : bw < wr0.heap.size := HDM.out bw HSY.out.nw
          have f19 := frozen_of_row w5 bw 1 _ _ sy5.rw'
          have k19 := cell_of_row w5 bw 1 _ _ (0, 0) sy5.rw'
          have sy6 := sy5.setW 1 (.slice A5 n5 c5)
          obtain ⟨w6, hw6⟩ : ∃ x, x = w5.setCell ⟨bw, 1, none⟩ (.slice A5 n5 c5) := ⟨_, rfl⟩
          rw [← hw6] at sy6
          have o6 : OwnB w6 wr0.heap.size (.slice A5 n5 c5) n5 (S1.now 1) := o5.kept' (fun g e hl => by rw [hw6]; exact heap_setCell_other w5 ⟨bw, 1, none⟩ g _ (fun e2 => by have e3 : g = bw := e2; have := (o5.lt g e).1; omega))
          have HRD6 := hid o6.byt.reads
          have hlen := o6.len
          have hn5 : n5 ≤ 65536 := by have := HLN.out; omega
          have k20 : w6.cell? ⟨ba, 1, none⟩ = some (.slice none 0 0) := by rw [cell_of_row w6 ba 1 _ _ (0, 0) sy6.ra, hU]; rfl
          have HSY6 := hid sy6
          have HDM6 : Hid (w.heap.size ≤ w6.heap.size) := hid sy6.lt.bel.size
          have HLEN := hid hlen
          have HW6 := hid hw6
          clear o5 L5 s5 e5 l5 sy5 hwb sy6 o6 hw6 hlen
          go_upto_region 20 with fail
          rw [← HW6.out]
          clear k19 f19
          go_wp2_with (at_builtin; (refine wpList_appB2 rfl (.tmp 71) (.tmp 72) rfl w.heap.size (.slice none 0 0) 0 [] (OwnB.nil _ _) rfl A5 n5 c5 (S1.now 1) rfl HLEN.out HRD6.out (by omega) HDM6.out w6 (Below.refl _ _) n5 (by omega) ?_; intro A7 c7 w7 o7 g7 b7 d7; have sy8 := HSY6.out.setU1 (k := S1.now 1) (by rw [hl]; exact o7) (by rw [hU]; exact g7) (by rw [hU]; exact d7); have hra7 := (g7.block ba (HSY6.out.lt.dom _ HSY6.out.na) (fun e => by cases e)).trans HSY6.out.ra; have f20 := frozen_of_row w7 ba 1 _ _ hra7; have k20' := cell_of_row w7 ba 1 _ _ (0, 0) hra7; rw [hl] at sy8; have HSY8 := hid sy8; clear o7 g7 b7 d7 sy8 hra7))
          go_roundw
          case rel =>
            refine ⟨2, by omega, rfl, hid ⟨_, _, _, _, _, _, _, HSY8.out, ?_, ?_, ?_, ?_⟩⟩
            · intro h; omega
            · intro h; omega
            · exact fun _ => ⟨hr0, hl0, Av, cv, by simpa using hV0⟩
            · exact fun _ => ⟨by simp, A5, c5, by simp [HLEN.out]⟩
          case measure => simp [intOf]
        · obtain ⟨hr0, hl0, Av0, cv0, hV0⟩ := h2' (by omega)
          obtain ⟨hl1, Av1, cv1, hV1⟩ := h3' (by omega)
          subst hl0 hl1
          have HV0 := hid hV0
          have HV1 := hid hV1
          have HW0 : Hid (Wr S1 (S1.now 0) (S1.now 1)) := hid (Wr.flat HF.out)
          clear hsy h2' h3' h0' h1' HS2 hV0 hV1 HDM
          go_upto_block 4 with fail
          go_cut [] (fun wx => ∃ (S : TS) (N : Nat → Prop) (U0 U1 : Value), Hid (Sy w wx N gs bw ba 44 S V0 V1 U0 U1 (S.now 0) (S.now 1)) ∧ Hid (Wr S (S1.now 0) (S1.now 1)) ∧ Hid (S.us.length ≤ 1000))
          case first =>
            have HST0 : Hid True := hid trivial
            go_wp2_with fail
            go_loopw [15] (fun i wr => ∃ (k : Nat), k ≤ n' ∧ k ≤ 15 ∧ i = .int .i64 (k : Int) ∧ Hid (∃ (S : TS) (N : Nat → Prop) (U0 U1 : Value), Sy w wr N gs bw ba 44 S V0 V1 U0 U1 (S.now 0) (S.now 1) ∧ Wr S (S1.now 0) (S1.now 1) ∧ S.us.length ≤ 60 * k)) (fun i _ => n' - (intOf i).toNat)
            case atStart => exact ⟨0, by omega, by omega, rfl, hid ⟨S1, N, U0, U1, HSY.out, HW0.out, by rw [HF.out]; simp⟩⟩
            case round =>
              obtain ⟨wj, hwj⟩ : ∃ x, x = wr := ⟨_, rfl⟩
              subst hwj
              clear HST0
              obtain ⟨k, hk, hk6, rfl, HREL⟩ := hrel
              have hk0 : (0 : Int) ≤ (k : Int) := Int.natCast_nonneg _
              clear HSY
              obtain ⟨S, N, U0, U1, hsy, hwr, huk⟩ := HREL.out
              obtain ⟨l0', hnow0⟩ : ∃ l, S.now 0 = l := ⟨_, rfl⟩
              obtain ⟨l1', hnow1⟩ : ∃ l, S.now 1 = l := ⟨_, rfl⟩
              have HLM : Hid (True ∧ l0'.length ≤ 65536 ∧ l1'.length ≤ 65536) := hid ⟨trivial, by rw [← hnow0]; exact hsy.lt.ok.now 0, by rw [← hnow1]; exact hsy.lt.ok.now 1⟩
              rw [hnow0, hnow1] at hsy
              have HSY := hid hsy
              have HWRR := hid hwr
              have HUK := hid huk
              have HUS : Hid (S.us.length ≤ 900000) := hid (by omega)
              clear hsy hwr huk HREL
              by_cases hlt : k < n'
              · have hk1 : (k : Int) < (n' : Int) := by omega
                by_cases hl6 : k < 15
                · have hk2 : (k : Int) < 15 := by omega
                  obtain ⟨ad2, aj2, dy, x2, hx2, rfl, had2, ea2, HA2, c0, c1, c2, c3⟩ := (HDD'.out wj HSY.out.lt.bel).at (i := k) (by rw [HN'.out]; exact hlt)
                  obtain ⟨yl, hyl2⟩ : ∃ yl, x2.2.2.2 = yl := ⟨_, rfl⟩
                  have hel := HA2.el
                  have hnl := HA2.n
                  rw [hyl2] at hel hnl
                  have hdc := HA2.nc
                  obtain ⟨my, hmy⟩ : ∃ my, min 60 dy.n = my := ⟨_, rfl⟩
                  have HYL : Hid ((yl.take 60).length = my) := hid (by rw [List.length_take, hnl, hmy])
                  have hmyc : my ≤ dy.c := by omega
                  have hmy6 : my ≤ 60 := by omega
                  have HPK := hid (pick_any dy.sd HA2.s0 HA2.s1 2 (by omega) (by omega) wj)
                  have HFEW := hid (fun W => few16_any dy.A dy.n dy.c hdc W)
                  rw [hmy] at HFEW
                  have HBQ : Hid ((∀ x, x < w.heap.size → N x) → BytQ wj N dy.A (yl.take 60)) := hid (fun hN => ((hel.imp (fun b hb _ => hN b hb)).take 60))
                  have hbwj := HSY.out.lt.bel
                  have HBD : Hid (∀ W, Below w.heap.size w W → BytQ W (fun b => b < w.heap.size) dy.A yl) := hid (fun W hW => by
                    obtain ⟨_, aj3, dy3, x3, hx3, e3, _, ea3, HA3, d0, d1, d2, d3⟩ := (HDD'.out W hW).at (i := k) (by rw [HN'.out]; exact hlt)
                    exact hel.keptB hbwj hW)
                  have HCC : Hid (∀ W, Below w.heap.size w W → W.cell? aj2 = some (.int .i64 dy.kind) ∧ W.cell? ⟨aj2.block, aj2.off + 1, none⟩ = some (.int .i64 dy.sd) ∧ W.cell? ⟨aj2.block, aj2.off + 2, none⟩ = some (.int .i64 dy.z) ∧ W.cell? ⟨aj2.block, aj2.off + 3, none⟩ = some (.slice dy.A dy.n dy.c)) := hid (fun W hW => by
                    have hlt2 : aj2.block < w.heap.size := by rw [← ea2, block_add]; exact had2
                    have hh : W.heap[aj2.block]? = wj.heap[aj2.block]? := (hW.block _ hlt2).trans (hbwj.block _ hlt2).symm
                    refine ⟨?_, ?_, ?_, ?_⟩
                    · rw [← c0]; unfold World.cell?; rw [hh]
                    · rw [← c1]; unfold World.cell?; rw [hh]
                    · rw [← c2]; unfold World.cell?; rw [hh]
                    · rw [← c3]; unfold World.cell?; rw [hh])
                  clear hx2 had2 HA2 hyl2 hel hnl hbwj
                  rcases pk2 dy.sd with hp | hp
                  · rw [hp] at HPK
                    clear hp
                    have HNA : Hid (S.now 0 = l0') := hid (by rw [hnow0])
                    have HWR := hid (HSY.out.lt.write HUS.out 0 HYL.out hmyc (by omega) (HBQ.out HSY.out.inn) (c := dy.c))
                    obtain ⟨E, hE⟩ : ∃ E, (S.write 0 (yl.take 60)).2 = E := ⟨_, rfl⟩
                    have HEE := hid hE
                    rw [hE] at HWR
                    clear hE
                    by_cases hE0 : E = 0
                    · have hEb : (E == 0) = true := by simp [hE0]
                      have hnw := TS.write_now (HEE.out.trans hE0)
                      have HN1 : Hid ((S.write 0 (yl.take 60)).1.now 0 = l0' ++ yl.take 60) := hid (by rw [hnw.1, hnow0])
                      have HN2 : Hid ((S.write 0 (yl.take 60)).1.now 1 = l1') := hid (by rw [hnw.2 1 (by omega), hnow1])
                      clear hnw hE0
                      go_wp2_with (first | (go_at_call 14; refine HPK.out.mono ?_; rintro er w5 ⟨rfl, rfl⟩) | (go_at_call 20; refine (HFEW.out _).mono ?_; rintro er w5 ⟨rfl, rfl⟩) | (go_at_call 15; refine HWR.out.mono ?_; rintro er w6 ⟨rfl, l6, s6⟩; have HSY6 := hid (HSY.out.call l6 s6); have HC6 := hid (HCC.out w6 HSY6.out.lt.bel); clear l6 s6))
                      have syd := HSY6.out.made (M := fun x => N x) (fun x hx => hx) ((HSY6.out.lt.below (below_drew1 w6)).1) (HSY6.out.lt.below (below_drew1 w6)).2
                      have HSYD := hid syd
                      obtain ⟨Au, mu, cu, hUe, hmu⟩ : ∃ Au mu cu, U0 = .slice Au mu cu ∧ l0'.length = mu := by
                        obtain ⟨Au, cu, e, _⟩ := own_slice syd.u0
                        exact ⟨Au, _, cu, e, rfl⟩
                      have k26 : w6.drew.cell? ⟨ba, 0, none⟩ = some (.slice Au mu cu) := by rw [cell_of_row w6.drew ba 0 _ _ (0, 0) syd.ra, ← hUe]; rfl
                      obtain ⟨d0, d1, d2, d3⟩ := HC6.out
                      have d3' : w6.drew.cell? ⟨aj2.block, aj2.off + 3, none⟩ = some (.slice dy.A dy.n dy.c) := d3
                      have HOW : Hid (OwnB w6.drew w.heap.size (.slice Au mu cu) mu l0') := hid (by have := syd.u0; rw [hUe, hmu] at this; exact this)
                      have HRDY := hid (((HBD.out w6.drew syd.lt.bel).take 60).byt.reads)
                      have hmm : mu ≤ 65536 := by have := HLM.out.2.1; omega
                      have HUE := hid hUe
                      have HDW : Hid (w.heap.size ≤ w6.drew.heap.size) := hid syd.lt.bel.size
                      have hra := syd.ra
                      have HRAD := hid hra
                      have HBAD := hid (syd.lt.dom _ syd.na)
                      have HOB := hid syd.o0
                      clear syd hra hUe d0 d1 d2 hmu
                      go_wp2_with fail
                      go_region_law ((first
                        | (refine step_callG (by rfl) (f := 20) (by rfl) _ (by simp [Act.eval, Act.put]) (HFEW.out _) (enters_of Try.func20 (by kernel_rfl) rfl) ?_; rintro er w7 ⟨rfl, hw⟩; subst hw; refine ⟨_, rfl, ?_⟩)
                        | (refine step_appB2 (by rfl) (.tmp 104) (.tmp 110) (by rfl) w.heap.size (.slice Au mu cu) mu l0' HOW.out (by rfl) dy.A my dy.c (yl.take 60) (by rfl) HYL.out HRDY.out (by omega) HDW.out (mu + my) rfl ?_; intro A8 c8 w8 o8 g8 e8; have sy9 := HSYD.out.setU0 (k := yl.take 60) o8 (by rw [HUE.out]; exact g8) (by rw [HUE.out]; exact e8); have hr8 := (g8.block ba HBAD.out (fun e => (HOB.out ba (by rw [HUE.out]; exact e.symm)).2.2 rfl)).trans HRAD.out; have f8 := frozen_of_row w8 ba 0 _ _ hr8; have k8 : w8.cell? ⟨ba, 0, none⟩ = some (.slice Au mu cu) := (by rw [cell_of_row w8 ba 0 _ _ (0, 0) hr8, ← HUE.out]; rfl); have HSY9 := hid sy9; clear o8 g8 e8 sy9 hr8)))
                      all_goals
                        go_wp2
                        go_roundw
                        case rel => (repeat apply Exists.intro); exact ⟨⟨k + 1, by omega, by omega, by go_num, hid ⟨_, _, _, _, (by rw [HN1.out, HN2.out]; exact HSY9.out), HWRR.out.write 0 _, by have := TS.write_us (S := S) (sd := 0) (l := yl.take 60); have := HUK.out; have := HYL.out; omega⟩⟩, rfl⟩
                        case measure => simp [intOf]; omega
                    · have hEb : (E == 0) = false := by simp [hE0]
                      have HSN := hid (TS.write_no (fun h => hE0 (HEE.out.symm.trans h)))
                      clear hE0
                      go_wp2_with (first | (go_at_call 14; refine HPK.out.mono ?_; rintro er w5 ⟨rfl, rfl⟩) | (go_at_call 20; refine (HFEW.out _).mono ?_; rintro er w5 ⟨rfl, rfl⟩) | (go_at_call 15; refine HWR.out.mono ?_; rintro er w6 ⟨rfl, l6, s6⟩; have HSY6 := hid (HSY.out.call l6 s6); clear l6 s6))
                      rw [HSN.out] at HSY6
                      go_roundw
                      case rel => (repeat apply Exists.intro); exact ⟨⟨k + 1, by omega, by omega, by go_num, hid ⟨S, _, _, _, (by rw [hnow0, hnow1]; exact HSY6.out), HWRR.out, by have := HUK.out; omega⟩⟩, rfl⟩
                      case measure => simp [intOf]; omega
                  · rw [hp] at HPK
                    clear hp
                    have HNA : Hid (S.now 1 = l1') := hid (by rw [hnow1])
                    have HWR := hid (HSY.out.lt.write HUS.out 1 HYL.out hmyc (by omega) (HBQ.out HSY.out.inn) (c := dy.c))
                    obtain ⟨E, hE⟩ : ∃ E, (S.write 1 (yl.take 60)).2 = E := ⟨_, rfl⟩
                    have HEE := hid hE
                    rw [hE] at HWR
                    clear hE
                    by_cases hE0 : E = 0
                    · have hEb : (E == 0) = true := by simp [hE0]
                      have hnw := TS.write_now (HEE.out.trans hE0)
                      have HN1 : Hid ((S.write 1 (yl.take 60)).1.now 1 = l1' ++ yl.take 60) := hid (by rw [hnw.1, hnow1])
                      have HN2 : Hid ((S.write 1 (yl.take 60)).1.now 0 = l0') := hid (by rw [hnw.2 0 (by omega), hnow0])
                      clear hnw hE0
                      go_wp2_with (first | (go_at_call 14; refine HPK.out.mono ?_; rintro er w5 ⟨rfl, rfl⟩) | (go_at_call 20; refine (HFEW.out _).mono ?_; rintro er w5 ⟨rfl, rfl⟩) | (go_at_call 15; refine HWR.out.mono ?_; rintro er w6 ⟨rfl, l6, s6⟩; have HSY6 := hid (HSY.out.call l6 s6); have HC6 := hid (HCC.out w6 HSY6.out.lt.bel); clear l6 s6))
                      have syd := HSY6.out.made (M := fun x => N x) (fun x hx => hx) ((HSY6.out.lt.below (below_drew1 w6)).1) (HSY6.out.lt.below (below_drew1 w6)).2
                      have HSYD := hid syd
                      obtain ⟨Au, mu, cu, hUe, hmu⟩ : ∃ Au mu cu, U1 = .slice Au mu cu ∧ l1'.length = mu := by
                        obtain ⟨Au, cu, e, _⟩ := own_slice syd.u1
                        exact ⟨Au, _, cu, e, rfl⟩
                      have k26 : w6.drew.cell? ⟨ba, 1, none⟩ = some (.slice Au mu cu) := by rw [cell_of_row w6.drew ba 1 _ _ (0, 0) syd.ra, ← hUe]; rfl
                      obtain ⟨d0, d1, d2, d3⟩ := HC6.out
                      have d3' : w6.drew.cell? ⟨aj2.block, aj2.off + 3, none⟩ = some (.slice dy.A dy.n dy.c) := d3
                      have HOW : Hid (OwnB w6.drew w.heap.size (.slice Au mu cu) mu l1') := hid (by have := syd.u1; rw [hUe, hmu] at this; exact this)
                      have HRDY := hid (((HBD.out w6.drew syd.lt.bel).take 60).byt.reads)
                      have hmm : mu ≤ 65536 := by have := HLM.out.2.2; omega
                      have HUE := hid hUe
                      have HDW : Hid (w.heap.size ≤ w6.drew.heap.size) := hid syd.lt.bel.size
                      have hra := syd.ra
                      have HRAD := hid hra
                      have HBAD := hid (syd.lt.dom _ syd.na)
                      have HOB := hid syd.o1
                      clear syd hra hUe d0 d1 d2 hmu
                      go_wp2_with fail
                      go_region_law ((first
                        | (refine step_callG (by rfl) (f := 20) (by rfl) _ (by simp [Act.eval, Act.put]) (HFEW.out _) (enters_of Try.func20 (by kernel_rfl) rfl) ?_; rintro er w7 ⟨rfl, hw⟩; subst hw; refine ⟨_, rfl, ?_⟩)
                        | (refine step_appB2 (by rfl) (.tmp 104) (.tmp 110) (by rfl) w.heap.size (.slice Au mu cu) mu l1' HOW.out (by rfl) dy.A my dy.c (yl.take 60) (by rfl) HYL.out HRDY.out (by omega) HDW.out (mu + my) rfl ?_; intro A8 c8 w8 o8 g8 e8; have sy9 := HSYD.out.setU1 (k := yl.take 60) o8 (by rw [HUE.out]; exact g8) (by rw [HUE.out]; exact e8); have hr8 := (g8.block ba HBAD.out (fun e => (HOB.out ba (by rw [HUE.out]; exact e.symm)).2.2 rfl)).trans HRAD.out; have f8 := frozen_of_row w8 ba 1 _ _ hr8; have k8 : w8.cell? ⟨ba, 1, none⟩ = some (.slice Au mu cu) := (by rw [cell_of_row w8 ba 1 _ _ (0, 0) hr8, ← HUE.out]; rfl); have HSY9 := hid sy9; clear o8 g8 e8 sy9 hr8)))
                      all_goals
                        go_wp2
                        go_roundw
                        case rel => (repeat apply Exists.intro); exact ⟨⟨k + 1, by omega, by omega, by go_num, hid ⟨_, _, _, _, (by rw [HN1.out, HN2.out]; exact HSY9.out), HWRR.out.write 1 _, by have := TS.write_us (S := S) (sd := 1) (l := yl.take 60); have := HUK.out; have := HYL.out; omega⟩⟩, rfl⟩
                        case measure => simp [intOf]; omega
                    · have hEb : (E == 0) = false := by simp [hE0]
                      have HSN := hid (TS.write_no (fun h => hE0 (HEE.out.symm.trans h)))
                      clear hE0
                      go_wp2_with (first | (go_at_call 14; refine HPK.out.mono ?_; rintro er w5 ⟨rfl, rfl⟩) | (go_at_call 20; refine (HFEW.out _).mono ?_; rintro er w5 ⟨rfl, rfl⟩) | (go_at_call 15; refine HWR.out.mono ?_; rintro er w6 ⟨rfl, l6, s6⟩; have HSY6 := hid (HSY.out.call l6 s6); clear l6 s6))
                      rw [HSN.out] at HSY6
                      go_roundw
                      case rel => (repeat apply Exists.intro); exact ⟨⟨k + 1, by omega, by omega, by go_num, hid ⟨S, _, _, _, (by rw [hnow0, hnow1]; exact HSY6.out), HWRR.out, by have := HUK.out; omega⟩⟩, rfl⟩
                      case measure => simp [intOf]; omega
                · have hk2 : ¬ (k : Int) < 15 := by omega
                  subst hnow0 hnow1
                  have HU9 : Hid (S.us.length ≤ 1000) := hid (by have := HUK.out; omega)
                  go_wp2_with fail
                  go_meet
                  case rel => exact ⟨S, N, U0, U1, HSY, HWRR, HU9⟩
              · obtain rfl : k = n' := by omega
                subst hnow0 hnow1
                have HU9 : Hid (S.us.length ≤ 1000) := hid (by have := HUK.out; omega)
                go_wp2_with fail
                go_meet
                case rel => exact ⟨S, N, U0, U1, HSY, HWRR, HU9⟩
          case rest =>
            clear HSY
            obtain ⟨S, N, U0, U1, HSY0, HWRR, HU9⟩ := hcut
            obtain ⟨wf, hwf⟩ : ∃ x, x = wc := ⟨_, rfl⟩
            subst hwf
            have HCR := hid (HSY0.out.lt.crash (by have := HU9.out; omega) zz hz0 hz1)
            have HOKS := hid HSY0.out.lt.ok
            have HSAFE : Hid (S.s0 = S1.now 0 ∧ S.s1 = S1.now 1) := hid ⟨HWRR.out.s0, HWRR.out.s1⟩
            go_wp2_with fail
            refine HCR.out.mono ?_
            rintro er wg ⟨rfl, lg, sg⟩
            have HSYG := hid (HSY0.out.call lg sg)
            clear lg sg
            go_wp2_with fail
            go_loopw [17] (fun i wr => ∃ (y : Nat), y ≤ 2 ∧ i = .int .i64 (y : Int) ∧ Hid (∃ N : Nat → Prop, Sy w wr N gs bw ba 44 (S.crash zz) V0 V1 U0 U1 (S.now 0) (S.now 1))) (fun i _ => 2 - (intOf i).toNat)
            case atStart => exact ⟨0, by omega, rfl, hid ⟨N, HSYG.out⟩⟩
            case round =>
              obtain ⟨wk, hwk⟩ : ∃ x, x = wr := ⟨_, rfl⟩
              subst hwk
              obtain ⟨y, hy, rfl, HS4⟩ := hrel
              obtain ⟨M, hsy⟩ := HS4.out
              have HSY := hid hsy
              clear hsy HS4
              rcases (by omega : y = 0 ∨ y = 1 ∨ y = 2) with rfl | rfl | rfl
              · skip
                have HRD := hid (HSY.out.lt.read (by show ([] : List Un).length ≤ 900000; simp) 0)
                rw [TS.crash_read _ _ _ (.inl rfl)] at HRD
                obtain ⟨t1, t2, ht1, ht2⟩ := HWRR.out.prefix 0 (S.keep zz)
                have HOKR := hid (HOKS.out.len 0 (S.keep zz))
                go_wp2_with fail
                refine HRD.out.mono ?_
                rintro er w5 ⟨A5, n5, c5, rfl, l5, e5, o5, L5, s5⟩
                have sy5 := HSY.out.made (fun x hx => .inl hx) L5 s5
                obtain ⟨Au, mu, cu, hUe, hmu⟩ : ∃ Au mu cu, U0 = .slice Au mu cu ∧ (S.now 0).length = mu := by
                  obtain ⟨Au, cu, e, _⟩ := own_slice sy5.u0
                  exact ⟨Au, _, cu, e, rfl⟩
                have kw : w5.cell? ⟨bw, 0, none⟩ = some (.slice Av0 (S1.now 0).length cv0) := by rw [cell_of_row w5 bw 0 _ _ (0, 0) sy5.rw', HV0.out]; rfl
                have ka : w5.cell? ⟨ba, 0, none⟩ = some (.slice Au mu cu) := by rw [cell_of_row w5 ba 0 _ _ (0, 0) sy5.ra, ← hUe]; rfl
                have hsafe : S.safe 0 = S1.now 0 := (by show S.s0 = _; exact HSAFE.out.1)
                obtain ⟨na, hna⟩ : ∃ na, (S1.now 0).length = na := ⟨_, rfl⟩
                rw [hna] at kw
                have hle1 : na ≤ n5 := by
                  have := o5.len
                  rw [ht1, hsafe, List.length_append, hna] at this
                  omega
                have hle1i : (na : Int) ≤ (n5 : Int) := by omega
                have hle : n5 ≤ mu := by
                  have := o5.len
                  rw [ht2, List.length_append] at hmu
                  omega
                have hle2i : (n5 : Int) ≤ (mu : Int) := by omega
                have ou : OwnB w5 w.heap.size (.slice Au mu cu) mu (S.now 0) := by have := sy5.u0; rw [hUe, hmu] at this; exact this
                have hcu := own_cap ou
                have htk : (S.now 0).take n5 = S.done 0 (S.keep zz) := by rw [ht2, List.take_append_of_le_length (by rw [o5.len]; exact Nat.le_refl _), List.take_of_length_le (by rw [o5.len]; exact Nat.le_refl _)]
                have HSM := hid (same_eq A5 Au (S.done 0 (S.keep zz)) n5 c5 cu o5.len (by have := HOKR.out; rw [o5.len] at this; omega) w5 o5.byt (by have := ou.byt.head (hi := n5); rw [htk] at this; exact this))
                have hn0 : (0 : Int) ≤ (n5 : Int) := Int.natCast_nonneg _
                have hncu : (n5 : Int) ≤ (cu : Int) := by omega
                have HSY5 := hid sy5
                clear o5 L5 s5 e5 l5 sy5 ou htk ht1 ht2 hsafe hna hmu hUe
                go_wp2_with fail
                refine HSM.out.mono ?_
                rintro er w6 ⟨rfl, q6, rfl⟩
                have HSY7 := hid (HSY5.out.made (fun x hx => .inl hx) (HSY5.out.lt.made (below_drewN (Below.refl _ _) q6)).1 (HSY5.out.lt.made (below_drewN (Below.refl _ _) q6)).2)
                clear kw ka
                go_wp2_with fail
                go_roundw
                case rel => exact ⟨1, by omega, rfl, hid ⟨_, HSY7.out⟩⟩
                case measure => simp [intOf]
              · skip
                have HRD := hid (HSY.out.lt.read (by show ([] : List Un).length ≤ 900000; simp) 1)
                rw [TS.crash_read _ _ _ (.inr rfl)] at HRD
                obtain ⟨t1, t2, ht1, ht2⟩ := HWRR.out.prefix 1 (S.keep zz)
                have HOKR := hid (HOKS.out.len 1 (S.keep zz))
                go_wp2_with fail
                refine HRD.out.mono ?_
                rintro er w5 ⟨A5, n5, c5, rfl, l5, e5, o5, L5, s5⟩
                have sy5 := HSY.out.made (fun x hx => .inl hx) L5 s5
                obtain ⟨Au, mu, cu, hUe, hmu⟩ : ∃ Au mu cu, U1 = .slice Au mu cu ∧ (S.now 1).length = mu := by
                  obtain ⟨Au, cu, e, _⟩ := own_slice sy5.u1
                  exact ⟨Au, _, cu, e, rfl⟩
                have kw : w5.cell? ⟨bw, 1, none⟩ = some (.slice Av1 (S1.now 1).length cv1) := by rw [cell_of_row w5 bw 1 _ _ (0, 0) sy5.rw', HV1.out]; rfl
                have ka : w5.cell? ⟨ba, 1, none⟩ = some (.slice Au mu cu) := by rw [cell_of_row w5 ba 1 _ _ (0, 0) sy5.ra, ← hUe]; rfl
                have hsafe : S.safe 1 = S1.now 1 := (by show S.s1 = _; exact HSAFE.out.2)
                obtain ⟨na, hna⟩ : ∃ na, (S1.now 1).length = na := ⟨_, rfl⟩
                rw [hna] at kw
                have hle1 : na ≤ n5 := by
                  have := o5.len
                  rw [ht1, hsafe, List.length_append, hna] at this
                  omega
                have hle1i : (na : Int) ≤ (n5 : Int) := by omega
                have hle : n5 ≤ mu := by
                  have := o5.len
                  rw [ht2, List.length_append] at hmu
                  omega
                have hle2i : (n5 : Int) ≤ (mu : Int) := by omega
                have ou : OwnB w5 w.heap.size (.slice Au mu cu) mu (S.now 1) := by have := sy5.u1; rw [hUe, hmu] at this; exact this
                have hcu := own_cap ou
                have htk : (S.now 1).take n5 = S.done 1 (S.keep zz) := by rw [ht2, List.take_append_of_le_length (by rw [o5.len]; exact Nat.le_refl _), List.take_of_length_le (by rw [o5.len]; exact Nat.le_refl _)]
                have HSM := hid (same_eq A5 Au (S.done 1 (S.keep zz)) n5 c5 cu o5.len (by have := HOKR.out; rw [o5.len] at this; omega) w5 o5.byt (by have := ou.byt.head (hi := n5); rw [htk] at this; exact this))
                have hn0 : (0 : Int) ≤ (n5 : Int) := Int.natCast_nonneg _
                have hncu : (n5 : Int) ≤ (cu : Int) := by omega
                have HSY5 := hid sy5
                clear o5 L5 s5 e5 l5 sy5 ou htk ht1 ht2 hsafe hna hmu hUe
                go_wp2_with fail
                refine HSM.out.mono ?_
                rintro er w6 ⟨rfl, q6, rfl⟩
                have HSY7 := hid (HSY5.out.made (fun x hx => .inl hx) (HSY5.out.lt.made (below_drewN (Below.refl _ _) q6)).1 (HSY5.out.lt.made (below_drewN (Below.refl _ _) q6)).2)
                clear kw ka
                go_wp2_with fail
                go_roundw
                case rel => exact ⟨2, by omega, rfl, hid ⟨_, HSY7.out⟩⟩
                case measure => simp [intOf]
              · have HUF := hid (HSY.out.lt.units (by show ([] : List Un).length ≤ 900000; simp))
                have HBF := hid HSY.out.lt.bel
                have huz : ((S.crash zz).us.length : Int) = 0 := rfl
                rw [huz] at HUF
                clear huz
                go_wp2_with fail
                refine HUF.out.mono ?_
                rintro er w7 ⟨rfl, rfl⟩
                go_wp2_with fail
                refine (lives_any _).mono ?_
                rintro er w9 ⟨rfl, b9⟩
                have HBG := hid (HBF.out.trans (b9.mono HBF.out.size))
                go_wp2
                go_ret
                exact ⟨rfl, HBG.out⟩
end Go.Proofs.Ytdigfbgjefffiaa.Sh
