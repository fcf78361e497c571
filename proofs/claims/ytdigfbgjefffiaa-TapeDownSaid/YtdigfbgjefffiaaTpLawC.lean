/-
  The walk of TapeDown. Written by mk_tplaws_b.py.
-/
import Derived.Test.YtdigfbgjefffiaaTpLawA
import Derived.Deep.DeepCutAuto
namespace Go.Proofs.Ytdigfbgjefffiaa.Sh
open Go Go.RowKit

set_option linter.unusedSimpArgs false
set_option linter.unusedVariables false
/-- Without power. -/
def Dead (D : TS) : Prop := D.bn = true ∧ D.lf = 0
theorem fuse_dead {S : TS} (h : TS.Ok S) : ∃ D, S.fuse 0 = (D, 0) ∧ Dead D ∧ D.us = S.us := by
  refine ⟨⟨S.s0, S.s1, S.us, true, 0⟩, ?_, ⟨rfl, rfl⟩, rfl⟩
  unfold TS.fuse
  rw [if_neg (by omega), if_neg (by have := h.lf0; omega)]
theorem Dead.ready {D : TS} (h : Dead D) (sd : Int) : D.ready sd = if sd < 0 ∨ 1 < sd then 1 else 40 := by
  unfold TS.ready
  rw [if_pos (show D.bn = true ∧ D.lf = 0 from h)]
theorem Dead.ready_ne {D : TS} (h : Dead D) (sd : Int) : D.ready sd ≠ 0 := by
  rw [h.ready]
  split <;> omega
theorem Dead.write {D : TS} (h : Dead D) (sd : Int) (l : List UInt8) : D.write sd l = (D, D.ready sd) := by unfold TS.write; rw [if_pos (h.ready_ne sd)]
theorem Dead.trim {D : TS} (h : Dead D) (sd z : Int) : D.trim sd z = (D, D.ready sd) := by unfold TS.trim; rw [if_pos (h.ready_ne sd)]
theorem Dead.sync {D : TS} (h : Dead D) : D.sync = (D, 40) := by unfold TS.sync; rw [if_pos (h.ready_ne 0), h.ready, if_neg (by omega)]
theorem Dead.fuse {D : TS} (h : Dead D) (z : Int) : (D.fuse z).1 = D := by
  unfold TS.fuse
  split
  · rfl
  · rename_i hz
    obtain ⟨s0, s1, us, bn, lf⟩ := D
    obtain ⟨h1, h2⟩ := h
    simp only at h1 h2
    subst h1 h2
    simp only
    by_cases h0 : 0 < z
    · simp [h0]
    · have hz0 : z = 0 := by omega
      simp [hz0]
theorem Dead.cases {D : TS} (h : Dead D) (sd : Int) : (decide (sd < 0) = true ∧ D.ready sd = 1) ∨ (decide (sd < 0) = false ∧ decide (1 < sd) = true ∧ D.ready sd = 1) ∨ (decide (sd < 0) = false ∧ decide (1 < sd) = false ∧ D.ready sd = 40) := by
  rw [h.ready]
  by_cases h0 : sd < 0
  · exact .inl ⟨decide_eq_true h0, by rw [if_pos (.inl h0)]⟩
  · by_cases h1 : 1 < sd
    · exact .inr (.inl ⟨decide_eq_false h0, decide_eq_true h1, by rw [if_pos (.inr h1)]⟩)
    · exact .inr (.inr ⟨decide_eq_false h0, decide_eq_false h1, by rw [if_neg (by omega)]⟩)
theorem BthX.lt {w0 w : World} {gs gr : Nat} {S : TS} (h : BthX w0 w gs gr S) : LT w0 w (fun b => b < w0.heap.size) gs S := by
  obtain ⟨⟨P, R, hb, hP⟩, hbel⟩ := h
  exact ⟨P, hb.p, fun x hx => ⟨hP x (.inl hx), fun h => by have := hP x (.inl hx); omega⟩, hbel, fun x hx => Nat.lt_of_lt_of_le hx hbel.size⟩
theorem BytQ.take {w : World} {Q : Nat → Prop} {A : Option Addr} {l : List UInt8} (h : BytQ w Q A l) (m : Nat) : BytQ w Q A (l.take m) := fun h0 => by
  rw [List.length_take] at h0
  obtain ⟨ad, e, h1, h2, h3⟩ := h (by omega)
  refine ⟨ad, e, h1, h2, fun j x hx => h3 j x ?_⟩
  rw [List.getElem?_take] at hx
  split at hx
  · exact hx
  · cases hx
set_option maxHeartbeats 16000000 in
set_option maxRecDepth 100000 in
theorem tapeDown_walk (A : Option Addr) (xs : List Dt) (n c : Nat) (hn : xs.length = n) (hc : n ≤ c) (hc2 : c ≤ 9223372036854775807) (A' : Option Addr) (ys : List Dt) (n' c' : Nat) (hn' : ys.length = n') (hc' : n' ≤ c') (hc2' : c' ≤ 9223372036854775807) (w : World) (h : Deeds4 w w.heap.size A xs) (h' : Deeds4 w w.heap.size A' ys) :
    Calls Try.prog 7 #[.slice A n c, .slice A' n' c'] w fun e w' => e = .returned (.bool true) ∧ Below w.heap.size w w' := by
  have HN' := hid hn'
  have HDD' := hid (fun W (hW : Below w.heap.size w W) => h'.below hW (Nat.le_refl _))
  clear h' hn'
  have HN := hid hn
  have HDD := hid (fun W (hW : Below w.heap.size w W) => h.below hW (Nat.le_refl _))
  have H1 := hid (newP_any w)
  have H2 := hid (fun W => refNew_any W)
  clear h hn
  go_enter Try.func7, Try.ntmps7
  go_wp2_with fail
  refine H1.out.mono ?_
  rintro er w1 ⟨gs, rfl, -, p1, b1⟩
  have HP1 := hid p1
  have HB1 := hid b1
  clear p1 b1
  go_wp2_with fail
  refine (H2.out w1).mono ?_
  rintro er w2 ⟨gr, rfl, -, r2, b2⟩
  have HX := hid (BthX.start w (P := fun _ => False) (R := fun _ => False) HP1.out HB1.out r2 b2)
  clear r2 b2
  go_wp2_with fail
  go_loopw [7] (fun i wr => ∃ (k : Nat), k ≤ n ∧ k ≤ 25 ∧ i = .int .i64 (k : Int) ∧ Hid (BthX w wr gs gr (stepsT xs k))) (fun i _ => n - (intOf i).toNat)
  case atStart => exact ⟨0, by omega, by omega, rfl, HX⟩
  case round =>
    obtain ⟨wj, hwj⟩ : ∃ x, x = wr := ⟨_, rfl⟩
    subst hwj
    obtain ⟨k, hk, hk6, rfl, HBX⟩ := hrel
    have hk0 : (0 : Int) ≤ (k : Int) := Int.natCast_nonneg _
    by_cases hlt : k < n
    · have hk1 : (k : Int) < (n : Int) := by omega
      by_cases hl6 : k < 25
      · have hk2 : (k : Int) < 25 := by omega
        obtain ⟨ad, aj, dh, x, hx, rfl, had, ea, HA, c0, c1, c2, c3⟩ := (HDD.out wj HBX.out.2).at (i := k) (by rw [HN.out]; exact hlt)
        have HST := hid (stepsT_succ hx)
        obtain ⟨⟨P, R, hb, hP⟩, hbel⟩ := HBX.out
        have hu := stepsT_us xs k
        have HDO := hid (does_any hb (by omega) dh.kind dh.sd dh.z HA.k0 HA.k1 HA.z0 HA.z1 dh.A x.2.2.2 dh.n dh.c HA.n HA.nc HA.c (fun b => b < w.heap.size) HA.el (fun b hb2 => ⟨fun hp => by have := hP b (.inl hp); omega, fun hp => by have := hP b (.inr hp); omega⟩))
        have ex : ((dh.kind, dh.sd, dh.z, x.2.2.2) : Dt) = x := by rw [HA.kind, HA.sd, HA.z]
        rw [ex] at HDO
        have HPP := hid hP
        have HBL := hid hbel
        clear hb hP hbel hx HA ex hu had
        go_wp2_with fail
        refine HDO.out.mono ?_
        rintro er w3 ⟨rfl, did⟩
        have HD3 := hid (BthX.did HBL.out HPP.out did)
        clear did
        rw [← HST.out] at HD3
        go_wp2_with fail
        go_roundw
        case rel => exact ⟨k + 1, by omega, by omega, by go_num, HD3⟩
        case measure => simp [intOf]; omega
      · have hk2 : ¬ (k : Int) < 25 := by omega
        have hkl : 60 * k ≤ 60 * 25 := by omega
        have hu := stepsT_us xs k
        have HLT0 := HBX.out.lt
        obtain ⟨S, hS⟩ : ∃ S, stepsT xs k = S := ⟨_, rfl⟩
        rw [hS] at HLT0 hu
        have HUN := hid (HLT0.units (by omega))
        obtain ⟨D, hD, hdead, hDu⟩ := fuse_dead HLT0.ok
        have HFU0 := hid (HLT0.fuse 0 (by omega) (by omega))
        rw [hD] at HFU0
        have HDEAD := hid hdead
        obtain ⟨U, hU⟩ : ∃ U, S.us.length = U := ⟨_, rfl⟩
        rw [hU] at HUN hu
        have HUE := hid (show D.us.length = U by rw [hDu]; exact hU)
        have HUD := hid (show D.us.length ≤ 900000 by rw [hDu, hU]; omega)
        clear HLT0 hS hD hdead hDu HBX hU
        go_wp2_with fail
        refine HUN.out.mono ?_
        rintro er w3 ⟨rfl, rfl⟩
        go_wp2_with fail
        refine HFU0.out.mono ?_
        rintro er w3 ⟨rfl, l3, s3⟩
        have HL3 := hid l3
        clear l3 s3
        go_wp2_with fail
        go_loopw [9] (fun i wr => ∃ (y : Nat), y ≤ n' ∧ y ≤ 25 ∧ i = .int .i64 (y : Int) ∧ Hid (LT w wr (fun b => b < w.heap.size) gs D)) (fun i _ => n' - (intOf i).toNat)
        case atStart => exact ⟨0, by omega, by omega, rfl, HL3⟩
        case round =>
          obtain ⟨wi, hwi⟩ : ∃ x, x = wr := ⟨_, rfl⟩
          subst hwi
          obtain ⟨y, hy, hy5, rfl, HL⟩ := hrel
          have hy0 : (0 : Int) ≤ (y : Int) := Int.natCast_nonneg _
          by_cases hyl : y < n'
          · have hy1 : (y : Int) < (n' : Int) := by omega
            by_cases hy6 : y < 25
            · have hy2 : (y : Int) < 25 := by omega
              obtain ⟨ad2, aj2, dy, x2, hx2, rfl, had2, ea2, HA2, c0, c1, c2, c3⟩ := (HDD'.out wi HL.out.bel).at (i := y) (by rw [HN'.out]; exact hyl)
              obtain ⟨yl, hyl2⟩ : ∃ yl, x2.2.2.2 = yl := ⟨_, rfl⟩
              have hel := HA2.el
              have hnl := HA2.n
              rw [hyl2] at hel hnl
              have hdc := HA2.nc
              have HZ := hid (And.intro HA2.z0 HA2.z1)
              obtain ⟨my, hmy⟩ : ∃ my, min 60 dy.n = my := ⟨_, rfl⟩
              have HYL : Hid ((yl.take 60).length = my) := hid (by rw [List.length_take, hnl, hmy])
              have hmyc : my ≤ dy.c := by omega
              have hmy6 : my ≤ 60 := by omega
              obtain ⟨w4, hw4⟩ : ∃ x, x = wi.alloc (.cells #[.int .i64 dy.kind, .int .i64 dy.sd, .int .i64 dy.z, .slice dy.A dy.n dy.c] 30) := ⟨_, rfl⟩
              have hb4 : Below wi.heap.size wi w4 := by rw [hw4]; exact (Below.refl _ _).alloc (Nat.le_refl _) _
              have hr4 : w4.heap[wi.heap.size]? = some (.cells #[.int .i64 dy.kind, .int .i64 dy.sd, .int .i64 dy.z, .slice dy.A dy.n dy.c] 30 (0, 0)) := by rw [hw4]; exact heap_alloc_new wi _
              have hs4 : w4.heap.size = wi.heap.size + 1 := by rw [hw4]; simp
              obtain ⟨l4, s4⟩ := HL.out.made hb4
              have HL4 := hid l4
              have HDR := hid (deed_row hr4)
              have HN2 : Hid ((fun x => x < w.heap.size ∨ (wi.heap.size ≤ x ∧ x < w4.heap.size)) wi.heap.size) := hid (.inr ⟨Nat.le_refl _, by omega⟩)
              have HROW := hid (fun (W : World) (hs : StdT (fun x => x < w.heap.size ∨ (wi.heap.size ≤ x ∧ x < w4.heap.size)) w4 W) => hs.1 _ HN2.out)
              have HYB : Hid (BytQ w4 (fun x => x < w.heap.size ∨ (wi.heap.size ≤ x ∧ x < w4.heap.size)) dy.A (yl.take 60)) := hid (((hel.std s4).imp (fun b hb _ => .inl hb)).take 60)
              have HW4 := hid hw4
              have HPK := hid (pick_any dy.kind HA2.k0 HA2.k1 6 (by omega) (by omega) w4)
              obtain ⟨r0, r1, r2, r3⟩ := deed_row hr4 w4 rfl
              clear hx2 had2 HA2 hyl2 hel hnl hw4 hb4 hr4 l4 s4
              go_upto_region 16 with fail
              rw [← HW4.out]
              obtain ⟨p, hp⟩ : ∃ p, pk dy.kind 6 = p := ⟨_, rfl⟩
              rw [hp] at HPK
              clear hp c0 c1 c2 c3
              by_cases hp4 : p = 4
              · subst hp4
                have HFU := hid (HL4.out.fuse dy.z HZ.out.1 HZ.out.2)
                rw [HDEAD.out.fuse dy.z] at HFU
                go_wp2_with (first | (go_at_call 14; refine HPK.out.mono ?_; rintro er w5 ⟨rfl, rfl⟩) | (go_at_call 23; refine HFU.out.mono ?_; rintro er w6 ⟨rfl, l6, s6⟩; have HL6 := hid (l6.less (M := fun b => b < w.heap.size) (fun x hx => .inl hx)); clear l6 s6))
                go_roundw
                case rel => exact ⟨y + 1, by omega, by omega, by go_num, HL6⟩
                case measure => simp [intOf]; omega
              · by_cases hp5 : p = 5
                · subst hp5
                  have HFU := hid (HL4.out.fuse dy.z HZ.out.1 HZ.out.2)
                  rw [HDEAD.out.fuse dy.z] at HFU
                  go_wp2_with (first | (go_at_call 14; refine HPK.out.mono ?_; rintro er w5 ⟨rfl, rfl⟩) | (go_at_call 23; refine HFU.out.mono ?_; rintro er w6 ⟨rfl, l6, s6⟩; have HL6 := hid (l6.less (M := fun b => b < w.heap.size) (fun x hx => .inl hx)); clear l6 s6))
                  go_roundw
                  case rel => exact ⟨y + 1, by omega, by omega, by go_num, HL6⟩
                  case measure => simp [intOf]; omega
                · have hb4 : (p == 4) = false := by simp [hp4]
                  have hb5 : (p == 5) = false := by simp [hp5]
                  clear hp4 hp5
                  have HKEY := HDEAD.out.cases dy.sd
                  rcases HKEY with ⟨d1, e⟩ | ⟨d1, d2, e⟩ | ⟨d1, d2, e⟩
                  all_goals
                    have HSY := hid (HL4.out.sync HUD.out)
                    rw [HDEAD.out.sync] at HSY
                    have HWRI := hid (fun (W : World) (L : LT w W (fun x => x < w.heap.size ∨ (wi.heap.size ≤ x ∧ x < w4.heap.size)) gs D) (hb : BytQ W (fun x => x < w.heap.size ∨ (wi.heap.size ≤ x ∧ x < w4.heap.size)) dy.A (yl.take 60)) => L.write HUD.out dy.sd HYL.out (by omega) (by omega) hb (c := dy.c))
                    have HTRI := hid (fun (W : World) (L : LT w W (fun x => x < w.heap.size ∨ (wi.heap.size ≤ x ∧ x < w4.heap.size)) gs D) => L.trim HUD.out dy.sd dy.z HZ.out.1 HZ.out.2)
                    have HCLE := hid (fun (W : World) (L : LT w W (fun x => x < w.heap.size ∨ (wi.heap.size ≤ x ∧ x < w4.heap.size)) gs D) => L.clear HUD.out dy.sd)
                    simp only [HDEAD.out.write, HDEAD.out.trim, e] at HWRI HTRI HCLE
                    have HFEW := hid (fun W => few16_any dy.A dy.n dy.c hdc W)
                    rw [hmy] at HFEW
                    clear e
                    go_wp2_with (first | (go_at_call 14; refine HPK.out.mono ?_; rintro er w5 ⟨rfl, rfl⟩) | (go_at_call 18; refine HSY.out.mono ?_; rintro er w5 ⟨rfl, l5, s5⟩; have HL5 := hid (l5.below (below_drew1 w5)).1; have HY5 := hid (HYB.out.std s5); have HR5 := hid (HROW.out w5 s5); clear l5 s5))
                    obtain ⟨r0, r1, r2, r3⟩ := HDR.out w5 HR5.out
                    have HC5 : Hid (∀ W : World, W.heap[wi.heap.size]? = w4.heap[wi.heap.size]? → W.cell? ⟨wi.heap.size, 1, none⟩ = some (.int .i64 dy.sd) ∧ W.cell? ⟨wi.heap.size, 3, none⟩ = some (.slice dy.A dy.n dy.c)) := hid (fun W hW => ⟨(HDR.out W hW).2.1, (HDR.out W hW).2.2.2⟩)
                    have HWR5 := hid (HWRI.out w5.drew HL5.out (HY5.out.kept (fun _ _ _ => rfl) (Nat.le_refl _)))
                    go_wp2_with fail
                    clear r0 r1 r2 r3
                    go_region_held3 (fun W => W.cell? ⟨wi.heap.size, 1, none⟩ = some (.int .i64 dy.sd) ∧ W.cell? ⟨wi.heap.size, 3, none⟩ = some (.slice dy.A dy.n dy.c)) (first | exact HC5.out _ HR6.out | exact HC5.out w5.drew HR5.out | go_keep) (first
                      | (go_at_call 20; (refine (HFEW.out _).mono ?_); rintro er w7 ⟨rfl, rfl⟩)
                      | (go_at_call 15; (refine HWR5.out.mono ?_); rintro er w6 ⟨rfl, l6, s6⟩; have HL6 := hid l6; have HR6 : Hid (w6.heap[wi.heap.size]? = w4.heap[wi.heap.size]?) := hid ((s6.1 _ HN2.out).trans HR5.out); clear l6 s6)
                      | fail)
                    all_goals
                      obtain ⟨r0, r1, r2, r3⟩ := HDR.out w6 HR6.out
                      go_wp2_with fail
                      refine (HTRI.out w6 HL6.out).mono ?_
                      rintro er w7 ⟨rfl, l7, s7⟩
                      have HL7 := hid l7
                      have HR7 : Hid (w7.heap[wi.heap.size]? = w4.heap[wi.heap.size]?) := hid ((s7.1 _ HN2.out).trans HR6.out)
                      clear l7 s7 r0 r1 r2 r3
                      obtain ⟨r0, r1, r2, r3⟩ := HDR.out w7 HR7.out
                      go_wp2_with fail
                      refine (HCLE.out w7 HL7.out).mono ?_
                      rintro er w8 ⟨rfl, l8, s8⟩
                      have HL8 := hid (l8.less (M := fun b => b < w.heap.size) (fun x hx => .inl hx))
                      have HR8 : Hid (w8.heap[wi.heap.size]? = w4.heap[wi.heap.size]?) := hid ((s8.1 _ HN2.out).trans HR7.out)
                      clear l8 s8 r0 r1 r2 r3
                      obtain ⟨r0, r1, r2, r3⟩ := HDR.out w8 HR8.out
                      go_wp2_with fail
                      go_roundw
                      case rel => exact ⟨y + 1, by omega, by omega, by go_num, HL8⟩
                      case measure => simp [intOf]; omega
            · have hy2 : ¬ (y : Int) < 25 := by omega
              have HUF := hid (HL.out.units HUD.out)
              rw [HUE.out] at HUF
              have HBF := hid HL.out.bel
              go_wp2_with fail
              refine HUF.out.mono ?_
              rintro er w7 ⟨rfl, rfl⟩
              go_wp2_with fail
              refine (lives_any _).mono ?_
              rintro er w9 ⟨rfl, b9⟩
              have HBG := hid (HBF.out.trans (b9.mono HBF.out.size))
              go_wp2
              go_ret
              exact ⟨rfl, HBG.out⟩
          · obtain rfl : y = n' := by omega
            have HUF := hid (HL.out.units HUD.out)
            rw [HUE.out] at HUF
            have HBF := hid HL.out.bel
            go_wp2_with fail
            refine HUF.out.mono ?_
            rintro er w7 ⟨rfl, rfl⟩
            go_wp2_with fail
            refine (lives_any _).mono ?_
            rintro er w9 ⟨rfl, b9⟩
            have HBG := hid (HBF.out.trans (b9.mono HBF.out.size))
            go_wp2
            go_ret
            exact ⟨rfl, HBG.out⟩
    · obtain rfl : k = n := by omega
      have hkl : 60 * k ≤ 60 * 25 := by omega
      have hu := stepsT_us xs k
      have HLT0 := HBX.out.lt
      obtain ⟨S, hS⟩ : ∃ S, stepsT xs k = S := ⟨_, rfl⟩
      rw [hS] at HLT0 hu
      have HUN := hid (HLT0.units (by omega))
      obtain ⟨D, hD, hdead, hDu⟩ := fuse_dead HLT0.ok
      have HFU0 := hid (HLT0.fuse 0 (by omega) (by omega))
      rw [hD] at HFU0
      have HDEAD := hid hdead
      obtain ⟨U, hU⟩ : ∃ U, S.us.length = U := ⟨_, rfl⟩
      rw [hU] at HUN hu
      have HUE := hid (show D.us.length = U by rw [hDu]; exact hU)
      have HUD := hid (show D.us.length ≤ 900000 by rw [hDu, hU]; omega)
      clear HLT0 hS hD hdead hDu HBX hU
      go_wp2_with fail
      refine HUN.out.mono ?_
      rintro er w3 ⟨rfl, rfl⟩
      go_wp2_with fail
      refine HFU0.out.mono ?_
      rintro er w3 ⟨rfl, l3, s3⟩
      have HL3 := hid l3
      clear l3 s3
      go_wp2_with fail
      go_loopw [9] (fun i wr => ∃ (y : Nat), y ≤ n' ∧ y ≤ 25 ∧ i = .int .i64 (y : Int) ∧ Hid (LT w wr (fun b => b < w.heap.size) gs D)) (fun i _ => n' - (intOf i).toNat)
      case atStart => exact ⟨0, by omega, by omega, rfl, HL3⟩
      case round =>
        obtain ⟨wi, hwi⟩ : ∃ x, x = wr := ⟨_, rfl⟩
        subst hwi
        obtain ⟨y, hy, hy5, rfl, HL⟩ := hrel
        have hy0 : (0 : Int) ≤ (y : Int) := Int.natCast_nonneg _
        by_cases hyl : y < n'
        · have hy1 : (y : Int) < (n' : Int) := by omega
          by_cases hy6 : y < 25
          · have hy2 : (y : Int) < 25 := by omega
            obtain ⟨ad2, aj2, dy, x2, hx2, rfl, had2, ea2, HA2, c0, c1, c2, c3⟩ := (HDD'.out wi HL.out.bel).at (i := y) (by rw [HN'.out]; exact hyl)
            obtain ⟨yl, hyl2⟩ : ∃ yl, x2.2.2.2 = yl := ⟨_, rfl⟩
            have hel := HA2.el
            have hnl := HA2.n
            rw [hyl2] at hel hnl
            have hdc := HA2.nc
            have HZ := hid (And.intro HA2.z0 HA2.z1)
            obtain ⟨my, hmy⟩ : ∃ my, min 60 dy.n = my := ⟨_, rfl⟩
            have HYL : Hid ((yl.take 60).length = my) := hid (by rw [List.length_take, hnl, hmy])
            have hmyc : my ≤ dy.c := by omega
            have hmy6 : my ≤ 60 := by omega
            obtain ⟨w4, hw4⟩ : ∃ x, x = wi.alloc (.cells #[.int .i64 dy.kind, .int .i64 dy.sd, .int .i64 dy.z, .slice dy.A dy.n dy.c] 30) := ⟨_, rfl⟩
            have hb4 : Below wi.heap.size wi w4 := by rw [hw4]; exact (Below.refl _ _).alloc (Nat.le_refl _) _
            have hr4 : w4.heap[wi.heap.size]? = some (.cells #[.int .i64 dy.kind, .int .i64 dy.sd, .int .i64 dy.z, .slice dy.A dy.n dy.c] 30 (0, 0)) := by rw [hw4]; exact heap_alloc_new wi _
            have hs4 : w4.heap.size = wi.heap.size + 1 := by rw [hw4]; simp
            obtain ⟨l4, s4⟩ := HL.out.made hb4
            have HL4 := hid l4
            have HDR := hid (deed_row hr4)
            have HN2 : Hid ((fun x => x < w.heap.size ∨ (wi.heap.size ≤ x ∧ x < w4.heap.size)) wi.heap.size) := hid (.inr ⟨Nat.le_refl _, by omega⟩)
            have HROW := hid (fun (W : World) (hs : StdT (fun x => x < w.heap.size ∨ (wi.heap.size ≤ x ∧ x < w4.heap.size)) w4 W) => hs.1 _ HN2.out)
            have HYB : Hid (BytQ w4 (fun x => x < w.heap.size ∨ (wi.heap.size ≤ x ∧ x < w4.heap.size)) dy.A (yl.take 60)) := hid (((hel.std s4).imp (fun b hb _ => .inl hb)).take 60)
            have HW4 := hid hw4
            have HPK := hid (pick_any dy.kind HA2.k0 HA2.k1 6 (by omega) (by omega) w4)
            obtain ⟨r0, r1, r2, r3⟩ := deed_row hr4 w4 rfl
            clear hx2 had2 HA2 hyl2 hel hnl hw4 hb4 hr4 l4 s4
            go_upto_region 16 with fail
            rw [← HW4.out]
            obtain ⟨p, hp⟩ : ∃ p, pk dy.kind 6 = p := ⟨_, rfl⟩
            rw [hp] at HPK
            clear hp c0 c1 c2 c3
            by_cases hp4 : p = 4
            · subst hp4
              have HFU := hid (HL4.out.fuse dy.z HZ.out.1 HZ.out.2)
              rw [HDEAD.out.fuse dy.z] at HFU
              go_wp2_with (first | (go_at_call 14; refine HPK.out.mono ?_; rintro er w5 ⟨rfl, rfl⟩) | (go_at_call 23; refine HFU.out.mono ?_; rintro er w6 ⟨rfl, l6, s6⟩; have HL6 := hid (l6.less (M := fun b => b < w.heap.size) (fun x hx => .inl hx)); clear l6 s6))
              go_roundw
              case rel => exact ⟨y + 1, by omega, by omega, by go_num, HL6⟩
              case measure => simp [intOf]; omega
            · by_cases hp5 : p = 5
              · subst hp5
                have HFU := hid (HL4.out.fuse dy.z HZ.out.1 HZ.out.2)
                rw [HDEAD.out.fuse dy.z] at HFU
                go_wp2_with (first | (go_at_call 14; refine HPK.out.mono ?_; rintro er w5 ⟨rfl, rfl⟩) | (go_at_call 23; refine HFU.out.mono ?_; rintro er w6 ⟨rfl, l6, s6⟩; have HL6 := hid (l6.less (M := fun b => b < w.heap.size) (fun x hx => .inl hx)); clear l6 s6))
                go_roundw
                case rel => exact ⟨y + 1, by omega, by omega, by go_num, HL6⟩
                case measure => simp [intOf]; omega
              · have hb4 : (p == 4) = false := by simp [hp4]
                have hb5 : (p == 5) = false := by simp [hp5]
                clear hp4 hp5
                have HKEY := HDEAD.out.cases dy.sd
                rcases HKEY with ⟨d1, e⟩ | ⟨d1, d2, e⟩ | ⟨d1, d2, e⟩
                all_goals
                  have HSY := hid (HL4.out.sync HUD.out)
                  rw [HDEAD.out.sync] at HSY
                  have HWRI := hid (fun (W : World) (L : LT w W (fun x => x < w.heap.size ∨ (wi.heap.size ≤ x ∧ x < w4.heap.size)) gs D) (hb : BytQ W (fun x => x < w.heap.size ∨ (wi.heap.size ≤ x ∧ x < w4.heap.size)) dy.A (yl.take 60)) => L.write HUD.out dy.sd HYL.out (by omega) (by omega) hb (c := dy.c))
                  have HTRI := hid (fun (W : World) (L : LT w W (fun x => x < w.heap.size ∨ (wi.heap.size ≤ x ∧ x < w4.heap.size)) gs D) => L.trim HUD.out dy.sd dy.z HZ.out.1 HZ.out.2)
                  have HCLE := hid (fun (W : World) (L : LT w W (fun x => x < w.heap.size ∨ (wi.heap.size ≤ x ∧ x < w4.heap.size)) gs D) => L.clear HUD.out dy.sd)
                  simp only [HDEAD.out.write, HDEAD.out.trim, e] at HWRI HTRI HCLE
                  have HFEW := hid (fun W => few16_any dy.A dy.n dy.c hdc W)
                  rw [hmy] at HFEW
                  clear e
                  go_wp2_with (first | (go_at_call 14; refine HPK.out.mono ?_; rintro er w5 ⟨rfl, rfl⟩) | (go_at_call 18; refine HSY.out.mono ?_; rintro er w5 ⟨rfl, l5, s5⟩; have HL5 := hid (l5.below (below_drew1 w5)).1; have HY5 := hid (HYB.out.std s5); have HR5 := hid (HROW.out w5 s5); clear l5 s5))
                  obtain ⟨r0, r1, r2, r3⟩ := HDR.out w5 HR5.out
                  have HC5 : Hid (∀ W : World, W.heap[wi.heap.size]? = w4.heap[wi.heap.size]? → W.cell? ⟨wi.heap.size, 1, none⟩ = some (.int .i64 dy.sd) ∧ W.cell? ⟨wi.heap.size, 3, none⟩ = some (.slice dy.A dy.n dy.c)) := hid (fun W hW => ⟨(HDR.out W hW).2.1, (HDR.out W hW).2.2.2⟩)
                  have HWR5 := hid (HWRI.out w5.drew HL5.out (HY5.out.kept (fun _ _ _ => rfl) (Nat.le_refl _)))
                  go_wp2_with fail
                  clear r0 r1 r2 r3
                  go_region_held3 (fun W => W.cell? ⟨wi.heap.size, 1, none⟩ = some (.int .i64 dy.sd) ∧ W.cell? ⟨wi.heap.size, 3, none⟩ = some (.slice dy.A dy.n dy.c)) (first | exact HC5.out _ HR6.out | exact HC5.out w5.drew HR5.out | go_keep) (first
                    | (go_at_call 20; (refine (HFEW.out _).mono ?_); rintro er w7 ⟨rfl, rfl⟩)
                    | (go_at_call 15; (refine HWR5.out.mono ?_); rintro er w6 ⟨rfl, l6, s6⟩; have HL6 := hid l6; have HR6 : Hid (w6.heap[wi.heap.size]? = w4.heap[wi.heap.size]?) := hid ((s6.1 _ HN2.out).trans HR5.out); clear l6 s6)
                    | fail)
                  all_goals
                    obtain ⟨r0, r1, r2, r3⟩ := HDR.out w6 HR6.out
                    go_wp2_with fail
                    refine (HTRI.out w6 HL6.out).mono ?_
                    rintro er w7 ⟨rfl, l7, s7⟩
                    have HL7 := hid l7
                    have HR7 : Hid (w7.heap[wi.heap.size]? = w4.heap[wi.heap.size]?) := hid ((s7.1 _ HN2.out).trans HR6.out)
                    clear l7 s7 r0 r1 r2 r3
                    obtain ⟨r0, r1, r2, r3⟩ := HDR.out w7 HR7.out
                    go_wp2_with fail
                    refine (HCLE.out w7 HL7.out).mono ?_
                    rintro er w8 ⟨rfl, l8, s8⟩
                    have HL8 := hid (l8.less (M := fun b => b < w.heap.size) (fun x hx => .inl hx))
                    have HR8 : Hid (w8.heap[wi.heap.size]? = w4.heap[wi.heap.size]?) := hid ((s8.1 _ HN2.out).trans HR7.out)
                    clear l8 s8 r0 r1 r2 r3
                    obtain ⟨r0, r1, r2, r3⟩ := HDR.out w8 HR8.out
                    go_wp2_with fail
                    go_roundw
                    case rel => exact ⟨y + 1, by omega, by omega, by go_num, HL8⟩
                    case measure => simp [intOf]; omega
          · have hy2 : ¬ (y : Int) < 25 := by omega
            have HUF := hid (HL.out.units HUD.out)
            rw [HUE.out] at HUF
            have HBF := hid HL.out.bel
            go_wp2_with fail
            refine HUF.out.mono ?_
            rintro er w7 ⟨rfl, rfl⟩
            go_wp2_with fail
            refine (lives_any _).mono ?_
            rintro er w9 ⟨rfl, b9⟩
            have HBG := hid (HBF.out.trans (b9.mono HBF.out.size))
            go_wp2
            go_ret
            exact ⟨rfl, HBG.out⟩
        · obtain rfl : y = n' := by omega
          have HUF := hid (HL.out.units HUD.out)
          rw [HUE.out] at HUF
          have HBF := hid HL.out.bel
          go_wp2_with fail
          refine HUF.out.mono ?_
          rintro er w7 ⟨rfl, rfl⟩
          go_wp2_with fail
          refine (lives_any _).mono ?_
          rintro er w9 ⟨rfl, b9⟩
          have HBG := hid (HBF.out.trans (b9.mono HBF.out.size))
          go_wp2
          go_ret
          exact ⟨rfl, HBG.out⟩
end Go.Proofs.Ytdigfbgjefffiaa.Sh
