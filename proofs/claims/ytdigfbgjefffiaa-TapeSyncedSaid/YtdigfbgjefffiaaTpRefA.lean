/-
  The document's tape: Done, Now, ready, burn.
-/
import Derived.Test.YtdigfbgjefffiaaTpMem
namespace Go.Proofs.Ytdigfbgjefffiaa.Sh
open Go Go.RowKit

set_option linter.unusedSimpArgs false
set_option linter.unusedVariables false
theorem OwnB.short {w : World} {B n m c : Nat} {A : Option Addr} {l : List UInt8} (h : OwnB w B (.slice A n c) n l) (hm : m ≤ n) : OwnB w B (.slice A m c) m (l.take m) := by
  have hl := h.len
  rcases h.2 with ⟨hv, h0⟩ | ⟨g, cap, cur, hv, hB, hb, hc, hM, hs, ht⟩
  · simp only [Value.slice.injEq] at hv
    obtain ⟨rfl, -, rfl⟩ := hv
    obtain rfl : m = 0 := by omega
    exact OwnB.nil _ _
  · simp only [Value.slice.injEq] at hv
    obtain ⟨rfl, -, rfl⟩ := hv
    refine ⟨by rw [bv_length, List.length_take]; omega, .inr ⟨g, c, cur, rfl, hB, hb, by omega, hM, hs, ?_⟩⟩
    have e : bv (l.take m) = (bv l).take m := by simp [bv, List.map_take]
    rw [e, ← ht, List.take_take, Nat.mul_one, Nat.mul_one, Nat.min_eq_left hm]
theorem TapE.safe {w : World} {P : Nat → Prop} {q s c0 c1 uc : Nat} {A0 A1 UA : Option Addr} {S : TS} (e : TapE w P q s A0 A1 UA c0 c1 uc S) {sd : Int} (hs : sd = 0 ∨ sd = 1) :
    ∃ (i : Nat) (A : Option Addr) (c : Nat), sd = (i : Int) ∧ i < 2 ∧ ∀ W, Below w.heap.size w W → W.cell? ⟨s, i, none⟩ = some (.slice A (S.safe sd).length c) ∧ Byt W W.heap.size A (S.safe sd) := by
  rcases hs with rfl | rfl
  · exact ⟨0, A0, c0, rfl, by omega, fun W hW => ⟨(e.cells W hW).2.1.1, (e.below hW).b0.byt⟩⟩
  · exact ⟨1, A1, c1, rfl, by omega, fun W hW => ⟨(e.cells W hW).2.1.2, (e.below hW).b1.byt⟩⟩
theorem reads_two (w : World) (o : Obj) (x : UInt8) (t : TypeId) (fr : Nat × Nat) : Reads ((w.alloc o).alloc (.cells #[.int .u8 x.toNat] t fr)) (some ⟨w.heap.size + 1, 0, none⟩) (bv [x]) := by
  have h := reads_one (w.alloc o) x t fr
  rwa [World.size_alloc] at h
set_option maxHeartbeats 4000000 in
theorem refDone_any {w : World} {P : Nat → Prop} {q : Nat} {S : TS} (e : TapR w P q S) (hu : S.us.length ≤ 1000000) (sd : Int) (hs : sd = 0 ∨ sd = 1) (N : Nat) (hN : N ≤ S.us.length) :
    Calls Try.prog 40 #[.pointer (some ⟨q, 0, none⟩), .int .i64 sd, .int .i64 N] w fun er w' => ∃ A n c, er = .returned (.slice A n c) ∧ n ≤ c ∧ (S.done sd N).length = n ∧ OwnB w' w.heap.size (.slice A n c) n (S.done sd N) ∧ Below w.heap.size w w' := by
  obtain ⟨hok, s, A0, A1, UA, c0, c1, uc, e⟩ := e
  obtain ⟨i, A, c, hi, hi2, HSF⟩ := e.safe hs
  have HC := hid (fun W hW => (e.cells W hW).1)
  have HS := hid (fun W hW => (HSF W hW).1)
  have HEl := hid (fun (W : World) (hW : Below w.heap.size w W) => (e.els.1.below hW))
  have HB0 := hid (Below.refl w.heap.size w)
  obtain ⟨n0, hn0⟩ : ∃ n0, (S.safe sd).length = n0 := ⟨_, rfl⟩
  have hn0m := hok.safe sd
  rw [hn0] at HS hn0m
  have HN0 := hid hn0
  have hr0 := hid (HSF w (Below.refl _ _)).2.reads
  obtain ⟨U, hU⟩ : ∃ U, S.us.length = U := ⟨_, rfl⟩
  rw [hU] at HC hN hu
  have HUL := hid hU
  have HOK := hid hok
  have i0 : (0 : Int) ≤ (i : Int) := Int.natCast_nonneg _
  have i2 : (i : Int) < 2 := by omega
  have HSD := hid hs
  subst hi
  clear e HSF hn0 hU hok hs
  obtain ⟨k00, k01, k02, k03⟩ := HC.out w HB0.out
  have k0s := HS.out w HB0.out
  go_enter Try.func40, Try.ntmps40
  go_wp2_with (at_builtin; (refine wpList_appB rfl (.tmp 10) (.tmp 17) rfl w.heap.size (.slice none 0 0) 0 [] (OwnB.nil _ _) rfl A n0 c (S.safe (i : Int)) rfl HN0.out hr0.out (by omega) (Nat.le_refl _) w (Below.refl _ _) n0 (by omega) ?_; intro A2 c2 w2 o2 _ b2))
  have o2' : OwnB w2 w.heap.size (.slice A2 n0 c2) n0 (S.done (i : Int) 0) := o2
  have HO2 := hid o2'
  have HB2 := hid b2
  clear o2 o2' b2 k00 k01 k02 k03 k0s
  go_wp2_with fail
  go_loopw [7, 8] (fun v j wr => ∃ (A3 : Option Addr) (m c3 k : Nat), v = .slice A3 m c3 ∧ j = .int .i64 (k : Int) ∧ k ≤ N ∧ m ≤ c3 ∧ m ≤ 65536 ∧ Hid ((S.done (i : Int) k).length = m) ∧ Hid (OwnB wr w.heap.size (.slice A3 m c3) m (S.done (i : Int) k)) ∧ Hid (Below w.heap.size w wr)) (fun _ j _ => N - (intOf j).toNat)
  case atStart =>
    refine ⟨A2, n0, c2, 0, rfl, rfl, Nat.zero_le _, ?_, hn0m, HN0, HO2, HB2⟩
    obtain ⟨A', c', e1, h1⟩ := own_slice HO2.out
    injection e1 with _ _ e1
    omega
  case round =>
    obtain ⟨wj, hwj⟩ : ∃ x, x = wr := ⟨_, rfl⟩
    subst hwj
    obtain ⟨A3, m, c3, k, rfl, rfl, hk, hmc, hm6, HL, HO, HB⟩ := hrel
    have hk0 : (0 : Int) ≤ (k : Int) := Int.natCast_nonneg _
    by_cases hlt : k < N
    · obtain ⟨⟨xs, xc, xb⟩, hx⟩ : ∃ x, S.us[k]? = some x := ⟨_, List.getElem?_eq_getElem (by rw [HUL.out]; omega)⟩
      obtain ⟨ad, aj, rfl, ea, HC3⟩ := unit_at HEl.out hx wj HB.out
      obtain ⟨d0, d1, d2⟩ := HC3 wj HB.out
      obtain ⟨k00, k01, k02, k03⟩ := HC.out wj HB.out
      simp only at d0 d1 d2
      have hk1 : (k : Int) < (N : Int) := by omega
      have hk2 : (k : Int) < (U : Int) := by omega
      have HX := hid (S.done_succ (i : Int) hx)
      have HCT := hid ((HOK.out.cut k _ hx).2)
      have hmk := HOK.out.len (i : Int) (k + 1)
      clear HC3
      by_cases he : xs = (i : Int)
      · subst he
        have hb : (((i : Int)) != (i : Int)) = false := by simp
        by_cases hc : 0 ≤ xc
        · obtain ⟨y, rfl⟩ := Int.eq_ofNat_of_zero_le hc
          have hym : y ≤ m := by
            have := HCT.out hc
            simp only at this
            rw [HL.out] at this
            omega
          have HD : Hid (S.done (i : Int) (k + 1) = (S.done (i : Int) k).take y) := hid (by rw [HX.out]; unfold stepU; simp)
          have hy1 : (y : Int) ≤ (c3 : Int) := by omega
          have hy0 : (0 : Int) ≤ (y : Int) := hc
          have HO4 := hid (HO.out.short hym)
          clear hx hmk
          go_wp2_with fail
          go_roundw
          case rel => exact ⟨A3, y, c3, k + 1, rfl, by go_num, by omega, by omega, by omega, hid (by rw [HD.out, List.length_take, HL.out]; omega), hid (by rw [HD.out]; exact HO4.out.alloc _), hid (HB.out.alloc HB.out.size _)⟩
          case measure => simp [intOf]; omega
        · have HD : Hid (S.done (i : Int) (k + 1) = S.done (i : Int) k ++ [xb]) := hid (by rw [HX.out]; unfold stepU; simp [hc])
          have hmk2 : m + 1 ≤ 65536 := by
            rw [HD.out, List.length_append, HL.out] at hmk
            exact hmk
          have HB4 := hid (HB.out.alloc HB.out.size (.cells #[.int .i64 (i : Int), .int .i64 xc, .int .u8 xb.toNat] 64))
          have HO4 := hid (HO.out.alloc (.cells #[.int .i64 (i : Int), .int .i64 xc, .int .u8 xb.toNat] 64))
          clear hx hmk
          go_wp2_with (at_builtin; (refine wpList_appB rfl (.tmp 42) (.tmp 45) rfl w.heap.size (.slice A3 m c3) m (S.done (i : Int) k) (OwnB.alloc HO4.out _) rfl (some ⟨wj.heap.size + 1, 0, none⟩) 1 1 [xb] rfl rfl (reads_two wj _ xb _ _) (by omega) (le_alloc HB4.out.size _) w (HB4.out.alloc HB4.out.size _) (m + 1) rfl ?_; intro A6 c6 w6 o6 _ b6; have BB := hid b6; have HC6 := hid o6; clear o6 b6))
          have hmc6 : m + 1 ≤ c6 := by
            obtain ⟨A', c', e1, h1⟩ := own_slice HC6.out
            injection e1 with _ _ e1
            omega
          go_roundw
          case rel => exact ⟨A6, m + 1, c6, k + 1, rfl, by go_num, by omega, hmc6, hmk2, hid (by rw [HD.out, List.length_append, HL.out]; rfl), hid (by rw [HD.out]; exact HC6.out), BB⟩
          case measure => simp [intOf]; omega
      · have hb : (xs != (i : Int)) = true := by simp [he]
        have HD : Hid (S.done (i : Int) (k + 1) = S.done (i : Int) k) := hid (by rw [HX.out]; unfold stepU; simp [he])
        clear hx hmk
        go_wp2_with fail
        go_roundw
        case rel => exact ⟨A3, m, c3, k + 1, rfl, by go_num, by omega, hmc, hm6, hid (by rw [HD.out]; exact HL.out), hid (by rw [HD.out]; exact HO.out.alloc _), hid (HB.out.alloc HB.out.size _)⟩
        case measure => simp [intOf]; omega
    · obtain rfl : k = N := by omega
      go_wp2_with fail
      go_ret
      exact ⟨A3, m, c3, rfl, hmc, HL.out, HO.out, HB.out⟩
set_option maxHeartbeats 1000000 in
theorem refNow_any {w : World} {P : Nat → Prop} {q : Nat} {S : TS} (e : TapR w P q S) (hu : S.us.length ≤ 1000000) (sd : Int) (hs : sd = 0 ∨ sd = 1) :
    Calls Try.prog 22 #[.pointer (some ⟨q, 0, none⟩), .int .i64 sd] w fun er w' => ∃ A n c, er = .returned (.slice A n c) ∧ n ≤ c ∧ (S.now sd).length = n ∧ OwnB w' w.heap.size (.slice A n c) n (S.now sd) ∧ Below w.heap.size w w' := by
  have HD := refDone_any e hu sd hs S.us.length (Nat.le_refl _)
  rw [S.done_all sd (Nat.le_refl _)] at HD
  have HDH := hid HD
  obtain ⟨hok, s, A0, A1, UA, c0, c1, uc, e⟩ := e
  obtain ⟨k00, k01, k02, k03⟩ := (e.cells w (Below.refl _ _)).1
  clear HD e
  go_enter Try.func22, Try.ntmps22
  go_wp2_with fail
  refine HDH.out.mono ?_
  rintro er w2 ⟨A, n, c, rfl, h1, h2, h3, h4⟩
  have H := hid (And.intro h1 (And.intro h2 (And.intro h3 h4)))
  clear h1 h2 h3 h4
  go_wp2_with fail
  go_ret
  exact ⟨A, n, c, rfl, H.out⟩
set_option maxHeartbeats 1000000 in
theorem refReady_any {w : World} {P : Nat → Prop} {q : Nat} {S : TS} (e : TapR w P q S) (sd : Int) :
    Calls Try.prog 41 #[.pointer (some ⟨q, 0, none⟩), .int .i64 sd] w fun er w' => er = .returned (.int .i64 (S.ready sd)) ∧ w = w' := by
  obtain ⟨hok, s, A0, A1, UA, c0, c1, uc, e⟩ := e
  obtain ⟨k00, k01, k02, k03⟩ := (e.cells w (Below.refl _ _)).1
  clear e hok
  by_cases h0 : sd < 0
  · have HR : Hid (S.ready sd = 1) := hid (by unfold TS.ready; rw [if_pos (.inl h0)])
    have hd : decide (sd < 0) = true := decide_eq_true h0
    go_enter Try.func41, Try.ntmps41
    go_wp2
    go_ret
    exact ⟨ret_int HR.out.symm, rfl⟩
  · have hd : decide (sd < 0) = false := decide_eq_false h0
    by_cases h1 : 1 < sd
    · have HR : Hid (S.ready sd = 1) := hid (by unfold TS.ready; rw [if_pos (.inr h1)])
      have hd1 : decide (1 < sd) = true := decide_eq_true h1
      go_enter Try.func41, Try.ntmps41
      go_wp2
      go_ret
      exact ⟨ret_int HR.out.symm, rfl⟩
    · have hd1 : decide (1 < sd) = false := decide_eq_false h1
      have HRR : S.ready sd = if S.bn = true ∧ S.lf = 0 then 40 else 0 := by unfold TS.ready; rw [if_neg (by omega)]
      cases hbn : S.bn with
      | false =>
        have HR : Hid (S.ready sd = 0) := hid (by rw [HRR, hbn]; rfl)
        rw [hbn] at k02
        clear HRR hbn
        go_enter Try.func41, Try.ntmps41
        go_wp2
        go_ret
        exact ⟨ret_int HR.out.symm, rfl⟩
      | true =>
        rw [hbn] at k02
        by_cases hl : S.lf = 0
        · have HR : Hid (S.ready sd = 40) := hid (by rw [HRR, hbn, if_pos ⟨rfl, hl⟩])
          rw [hl] at k03
          clear HRR hbn hl
          go_enter Try.func41, Try.ntmps41
          go_wp2
          go_ret
          exact ⟨ret_int HR.out.symm, rfl⟩
        · have HR : Hid (S.ready sd = 0) := hid (by rw [HRR, hbn, if_neg (fun h => hl h.2)])
          have hb : (S.lf == 0) = false := by simp [hl]
          clear HRR hbn hl
          go_enter Try.func41, Try.ntmps41
          go_wp2
          go_ret
          exact ⟨ret_int HR.out.symm, rfl⟩
end Go.Proofs.Ytdigfbgjefffiaa.Sh
