/-
  The program's tape as the document's is told: New, Units, Fuse, Sync, Read.
-/
import Derived.Test.YtdigfbgjefffiaaTpPgB
namespace Go.Proofs.Ytdigfbgjefffiaa.Sh
open Go Go.RowKit

set_option linter.unusedSimpArgs false
set_option linter.unusedVariables false
/-- The program's tape at block q: what it has; its blocks are P. -/
def TapI (w : World) (P : Nat → Prop) (q : Nat) (S : TS) : Prop := TS.Ok S ∧ ∃ (κ : Nat → Nat) (V0 V1 U0 U1 : Hd) (UA : Option Addr) (un uc : Nat) (L : List Ru), TapF w P κ q V0 V1 U0 U1 UA un uc (S.now 0) (S.now 1) S.s0 S.s1 L (S.us.length : Int) S.bn S.lf ∧ FitR S (L.map (·.1))
section
variable {w w' : World} {P Q X : Nat → Prop} {q : Nat} {S : TS}
theorem TapI.ok (e : TapI w P q S) : TS.Ok S := e.1
theorem TapI.kept (e : TapI w P q S) (hk : ∀ x, P x → x < w.heap.size → w'.heap[x]? = w.heap[x]?) (hs : w.heap.size ≤ w'.heap.size) : TapI w' P q S := by
  obtain ⟨h, κ, V0, V1, U0, U1, UA, un, uc, L, e, f⟩ := e
  exact ⟨h, κ, V0, V1, U0, U1, UA, un, uc, L, e.kept hk hs, f⟩
theorem TapI.imp (e : TapI w P q S) (hq : ∀ x, P x → Q x) (hd : ∀ x, Q x → x < w.heap.size) : TapI w Q q S := by
  obtain ⟨h, κ, V0, V1, U0, U1, UA, un, uc, L, e, f⟩ := e
  exact ⟨h, κ, V0, V1, U0, U1, UA, un, uc, L, e.imp (fun x hx => ⟨hq x hx, rfl⟩) hd, f⟩
theorem TapI.dom (e : TapI w P q S) : ∀ x, P x → x < w.heap.size := by
  obtain ⟨h, κ, V0, V1, U0, U1, UA, un, uc, L, e, f⟩ := e
  exact e.dom
theorem TapI.morQ {n : Nat} (e : TapI w P q S) : TapI w (plusQ P n w.heap.size) q S := e.imp (fun _ hx => .inl hx) (fun x hx => hx.elim (e.dom x) (·.2))
end
set_option maxHeartbeats 1000000 in
theorem newI_any (w : World) : Calls Try.prog 9 #[] w fun er w' => ∃ q, er = .returned (.pointer (some ⟨q, 0, none⟩)) ∧ w.heap.size ≤ q ∧ TapI w' (fun x => w.heap.size ≤ x ∧ x < w'.heap.size) q TS.new ∧ Below w.heap.size w w' := by
  go_enter Try.func9, Try.ntmps9
  go_wp2
  go_ret
  obtain ⟨w1, h1⟩ : ∃ x, x = w.alloc (rowT ⟨none, 0, 0⟩ ⟨none, 0, 0⟩ ⟨none, 0, 0⟩ ⟨none, 0, 0⟩ none 0 0 0 false 0) := ⟨_, rfl⟩
  have s1 : w1.heap.size = w.heap.size + 1 := by rw [h1]; simp
  have b1 : Below w.heap.size w w1 := by rw [h1]; exact (Below.refl _ _).alloc (Nat.le_refl _) _
  have r1 : w1.heap[w.heap.size]? = some (rowT ⟨none, 0, 0⟩ ⟨none, 0, 0⟩ ⟨none, 0, 0⟩ ⟨none, 0, 0⟩ none 0 0 0 false 0) := by rw [h1]; exact heap_alloc_new w _
  unfold rowT at h1
  rw [← h1]
  exact ⟨w.heap.size, rfl, Nat.le_refl _, ⟨TS.new_ok, fun _ => 4, _, _, _, _, none, 0, 0, [], ⟨⟨⟨Nat.le_refl _, by omega⟩, rfl⟩, r1, ⟨SdE.nil, SdE.nil, Fre.self⟩, ⟨SdE.nil, SdE.nil, Fre.self⟩, Own.nil _ _ _, rfl, (fun g h => by cases h), (fun x h => by cases h), fun x hx => hx.2⟩, FitR.nil rfl⟩, b1⟩
section
variable {w : World} {P : Nat → Prop} {q : Nat} {S : TS}
set_option maxHeartbeats 1000000 in
theorem unitsI_any (e : TapI w P q S) (hu : S.us.length ≤ 900000) :
    Calls Try.prog 17 #[.pointer (some ⟨q, 0, none⟩)] w fun er w' => er = .returned (.int .i64 (S.us.length : Int)) ∧ w = w' := by
  obtain ⟨h, κ, V0, V1, U0, U1, UA, un, uc, L, e, f⟩ := e
  obtain ⟨-, ⟨k4, k5, k6, k7⟩, -⟩ := e.cells w (Below.refl _ _)
  clear e f h
  generalize S.us.length = n at *
  go_enter Try.func17, Try.ntmps17
  go_wp2
  go_ret
  exact ⟨rfl, rfl⟩
set_option maxHeartbeats 4000000 in
theorem syncI_any (e : TapI w P q S) (hu : S.us.length ≤ 900000) :
    Calls Try.prog 18 #[.pointer (some ⟨q, 0, none⟩)] w fun er w' => er = .returned (.int .i64 S.sync.2) ∧ TapI w' (plusQ P w.heap.size w'.heap.size) q S.sync.1 ∧ Grew w w' P := by
  have HE0 := hid e
  have HOK := hid (TS.sync_ok e.1)
  obtain ⟨hok, κ, V0, V1, U0, U1, UA, un, uc, L, e, f⟩ := e
  have HOF := hid (off_any e)
  by_cases hb : S.bn = true ∧ S.lf = 0
  · have hv : (S.bn && S.lf == 0) = true := by rw [hb.1, hb.2]; rfl
    have HS : Hid (S.sync = (S, 40)) := hid (by
      have h0 : S.ready 0 = 40 := by unfold TS.ready; rw [if_neg (by omega), if_pos hb]
      unfold TS.sync; rw [h0, if_pos (by omega)])
    rw [hv] at HOF
    clear hb hv e f hok
    go_enter Try.func18, Try.ntmps18
    go_wp2_with fail
    refine HOF.out.mono ?_
    rintro er w1 ⟨rfl, rfl⟩
    go_wp2_with fail
    go_ret
    exact ⟨by rw [HS.out]; rfl, by rw [HS.out]; exact HE0.out.morQ, Grew.refl _ _⟩
  · have hv : (S.bn && S.lf == 0) = false := by
      cases hx : S.bn with
      | false => rfl
      | true =>
        have : S.lf ≠ 0 := fun h => hb ⟨hx, h⟩
        simp [this]
    have HS : Hid (S.sync = (⟨S.now 0, S.now 1, [], S.burn.bn, S.burn.lf⟩, 0)) := hid (by
      have h0 : S.ready 0 = 0 := by unfold TS.ready; rw [if_neg (by omega), if_neg hb]
      unfold TS.sync; rw [h0, if_neg (by omega)])
    have HST := hid (settle_any e)
    have HBU := hid (fun (w1 : World) (V0 V1 U0 U1 : Hd) (UA : Option Addr) (un uc : Nat) a0 a1 b0 b1 (L : List Ru) (ct : Int) (e : TapF w1 P κ q V0 V1 U0 U1 UA un uc a0 a1 b0 b1 L ct S.bn S.lf) => burn_any e ⟨hok.lf0, hok.lf1⟩)
    rw [hv] at HOF
    clear hb hv e f hok
    go_enter Try.func18, Try.ntmps18
    go_wp2_with fail
    refine HOF.out.mono ?_
    rintro er w1 ⟨rfl, rfl⟩
    go_wp2_with fail
    refine HST.out.mono ?_
    rintro er w2 ⟨rfl, e2, g2⟩
    have HG2 := hid g2
    have HE2 := hid e2
    clear e2 g2
    go_wp2_with fail
    refine (HBU.out _ _ _ _ _ _ _ _ _ _ _ _ _ _ HE2.out).mono ?_
    rintro er w3 ⟨rfl, e3, g3⟩
    have HG3 := hid (HG2.out.trans g3)
    have HE3 := hid e3
    clear e3 g3
    go_wp2_with fail
    go_ret
    rw [HS.out] at HOK
    refine ⟨by rw [HS.out]; rfl, ?_, HG3.out⟩
    rw [HS.out]
    have e9 : TapI w3 P q ⟨S.now 0, S.now 1, [], S.burn.bn, S.burn.lf⟩ := ⟨HOK.out, κ, _, _, _, _, _, _, _, _, HE3.out, FitR.nil rfl⟩
    exact e9.morQ
set_option maxHeartbeats 4000000 in
theorem fuseI_any (e : TapI w P q S) (z : Int) (hz : -9223372036854775808 ≤ z) (hz2 : z < 9223372036854775808) :
    Calls Try.prog 23 #[.pointer (some ⟨q, 0, none⟩), .int .i64 z] w fun er w' => er = .returned (.int .i64 (S.fuse z).2) ∧ TapI w' (plusQ P w.heap.size w'.heap.size) q (S.fuse z).1 ∧ Grew w w' P := by
  have HOK := hid (TS.fuse_ok (n := z) e.1)
  have HE0 := hid e
  obtain ⟨hok, κ, V0, V1, U0, U1, UA, un, uc, L, e, f⟩ := e
  obtain ⟨-, ⟨k4, k5, k6, k7⟩, hf⟩ := e.cells w (Below.refl _ _)
  by_cases hzz : z < 0
  · have HWR : Hid (S.fuse z = (S, 1)) := hid (by unfold TS.fuse; rw [if_pos (.inl hzz)])
    have hd : decide (z < 0) = true := decide_eq_true hzz
    clear e hok f hf
    go_enter Try.func23, Try.ntmps23
    go_wp2
    go_ret
    exact ⟨by rw [HWR.out]; rfl, by rw [HWR.out]; exact HE0.out.morQ, Grew.refl _ _⟩
  · have hd : decide (z < 0) = false := decide_eq_false hzz
    by_cases hz3 : 1099511627776 < z
    · have HWR : Hid (S.fuse z = (S, 1)) := hid (by unfold TS.fuse; rw [if_pos (.inr hz3)])
      have hd2 : decide (1099511627776 < z) = true := decide_eq_true hz3
      clear e hok f hf
      go_enter Try.func23, Try.ntmps23
      go_wp2
      go_ret
      exact ⟨by rw [HWR.out]; rfl, by rw [HWR.out]; exact HE0.out.morQ, Grew.refl _ _⟩
    · have hd2 : decide (1099511627776 < z) = false := decide_eq_false hz3
      have h1 := e.setBn true
      have HGG := hid ((e.grew_set 6 (.bool true)).trans (h1.grew_set 7 (.int .i64 z)))
      have f6 := hf 6
      have f7 := (h1.cells _ (Below.refl _ _)).2.2 7
      have k17 := (h1.cells _ (Below.refl _ _)).2.1.2.2.2
      have hfin : TapI ((w.setCell ⟨q, 6, none⟩ (.bool true)).setCell ⟨q, 7, none⟩ (.int .i64 z)) P q { S with bn := true, lf := z } ∨ ¬ ((S.fuse z).1 = { S with bn := true, lf := z }) := by
        by_cases hq : (S.fuse z).1 = { S with bn := true, lf := z }
        · rw [hq] at HOK
          exact .inl ⟨HOK.out, κ, _, _, _, _, _, _, _, _, h1.setLf z, f.same rfl rfl rfl⟩
        · exact .inr hq
      by_cases hk : S.bn = true ∧ S.lf ≤ z
      · have HWR : Hid (S.fuse z = (S, 0)) := hid (by
          unfold TS.fuse
          rw [if_neg (by omega)]
          have e1 : (if S.bn = true ∧ S.lf < z then S.lf else z) = S.lf := by
            by_cases h : S.lf < z
            · rw [if_pos ⟨hk.1, h⟩]
            · rw [if_neg (fun h2 => h h2.2)]; omega
          rw [e1, ← hk.1])
        have hd3 : decide (z < S.lf) = false := decide_eq_false (by omega)
        rw [hk.1] at k6
        clear e hok f hf hk h1 hfin f7 k17
        go_enter Try.func23, Try.ntmps23
        go_wp2
        go_ret
        exact ⟨by rw [HWR.out]; rfl, by rw [HWR.out]; exact HE0.out.morQ, Grew.refl _ _⟩
      · have HWR : Hid (S.fuse z = ({ S with bn := true, lf := z }, 0)) := hid (by
          unfold TS.fuse
          rw [if_neg (by omega)]
          have e1 : (if S.bn = true ∧ S.lf < z then S.lf else z) = z := by
            rw [if_neg]
            exact fun h => hk ⟨h.1, by omega⟩
          rw [e1])
        have HF := hid (hfin.resolve_right (fun h => h (by rw [HWR.out])))
        cases hbn : S.bn with
        | false =>
          rw [hbn] at k6
          clear e hok f hf hk h1 hfin hbn
          go_enter Try.func23, Try.ntmps23
          go_wp2
          go_ret
          exact ⟨by rw [HWR.out]; rfl, by rw [HWR.out]; exact HF.out.morQ, HGG.out⟩
        | true =>
          have hd3 : decide (z < S.lf) = true := decide_eq_true (Int.not_le.1 (fun h => hk ⟨hbn, h⟩))
          rw [hbn] at k6
          clear e hok f hf hk h1 hfin hbn
          go_enter Try.func23, Try.ntmps23
          go_wp2
          go_ret
          exact ⟨by rw [HWR.out]; rfl, by rw [HWR.out]; exact HF.out.morQ, HGG.out⟩
set_option maxHeartbeats 2000000 in
theorem readI_any (e : TapI w P q S) (hu : S.us.length ≤ 900000) (sd : Int) :
    Calls Try.prog 16 #[.pointer (some ⟨q, 0, none⟩), .int .i64 sd] w fun er w' => ∃ A n c, er = .returned (.tuple #[.slice A n c, .int .i64 (S.read sd).2]) ∧ n ≤ c ∧ (S.read sd).1.length = n ∧ OwnB w' w.heap.size (.slice A n c) n (S.read sd).1 ∧ Below w.heap.size w w' := by
  obtain ⟨hok, κ, V0, V1, U0, U1, UA, un, uc, L, e, f⟩ := e
  have HCK := hid (check_any e sd)
  by_cases hr : S.ready sd = 0
  · have hs := (TS.ready_zero hr).1
    have HWR : Hid (S.read sd = (S.now sd, 0)) := hid (by unfold TS.read; rw [if_neg (by simp [hr])])
    have hn := hok.now sd
    obtain ⟨⟨k0, k1, k2, k3⟩, -, -⟩ := e.cells w (Below.refl _ _)
    rw [hr] at HCK
    rcases hs with rfl | rfl
    · have HCL := hid (cloneB_any V0.A (S.now 0) V0.n V0.c e.s0.v.len (by have := e.s0.v.len; omega) w e.s0.v.byt.byt)
      have hln := e.s0.v.len
      obtain ⟨A, n, c⟩ := V0
      simp only at *
      have HLN := hid hln
      clear e f hok hn hr hln
      go_enter Try.func16, Try.ntmps16
      go_wp2_with fail
      refine HCK.out.mono ?_
      rintro er w1 ⟨rfl, rfl⟩
      go_wp2_with fail
      refine HCL.out.mono ?_
      rintro er w1 ⟨A3, c3, rfl, o3, b3⟩
      have H3 := hid (And.intro o3 b3)
      clear o3 b3
      go_wp2_with fail
      go_ret2
      exact ⟨A3, n, c3, by rw [HWR.out]; rfl, H3.out.1.cap, by rw [HWR.out]; exact HLN.out, by rw [HWR.out]; exact H3.out.1, H3.out.2⟩
    · have HCL := hid (cloneB_any V1.A (S.now 1) V1.n V1.c e.s1.v.len (by have := e.s1.v.len; omega) w e.s1.v.byt.byt)
      have hln := e.s1.v.len
      obtain ⟨A, n, c⟩ := V1
      simp only at *
      have HLN := hid hln
      clear e f hok hn hr hln
      go_enter Try.func16, Try.ntmps16
      go_wp2_with fail
      refine HCK.out.mono ?_
      rintro er w1 ⟨rfl, rfl⟩
      go_wp2_with fail
      refine HCL.out.mono ?_
      rintro er w1 ⟨A3, c3, rfl, o3, b3⟩
      have H3 := hid (And.intro o3 b3)
      clear o3 b3
      go_wp2_with fail
      go_ret2
      exact ⟨A3, n, c3, by rw [HWR.out]; rfl, H3.out.1.cap, by rw [HWR.out]; exact HLN.out, by rw [HWR.out]; exact H3.out.1, H3.out.2⟩
  · have HWR : Hid (S.read sd = ([], S.ready sd)) := hid (by unfold TS.read; rw [if_pos hr])
    obtain ⟨r, hrr⟩ : ∃ r, S.ready sd = r := ⟨_, rfl⟩
    rw [hrr] at HCK HWR hr
    have hb : (r != 0) = true := by simp [hr]
    clear hrr e f hok
    go_enter Try.func16, Try.ntmps16
    go_wp2_with fail
    refine HCK.out.mono ?_
    rintro er w1 ⟨rfl, rfl⟩
    go_wp2_with fail
    go_ret2
    exact ⟨none, 0, 0, by rw [HWR.out]; rfl, Nat.le_refl _, by rw [HWR.out]; rfl, by rw [HWR.out]; exact OwnB.nil _ _, Below.refl _ _⟩
end
end Go.Proofs.Ytdigfbgjefffiaa.Sh
