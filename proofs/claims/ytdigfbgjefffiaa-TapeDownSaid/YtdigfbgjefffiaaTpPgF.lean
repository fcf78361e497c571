/-
  The program's tape: a call more; Clear, Trim, Write.
-/
import Derived.Test.YtdigfbgjefffiaaTpPgJ
import Derived.Test.YtdigfbgjefffiaaTpPgK
import Derived.Test.YtdigfbgjefffiaaTpPgE
namespace Go.Proofs.Ytdigfbgjefffiaa.Sh
open Go Go.RowKit

set_option linter.unusedSimpArgs false
set_option linter.unusedVariables false
/-- Behind one call more. -/
def TS.ran (S : TS) (r : Rn) : TS := ⟨S.s0, S.s1, S.us ++ r.us, S.burn.bn, S.burn.lf⟩
theorem TS.ran_now (S : TS) (r : Rn) (hk : r.dt ≠ [] → (S.now r.sd).length ≤ r.kp) (d : Int) : (S.ran r).now d = if d = r.sd then (S.now d).take r.kp ++ r.dt else S.now d := by
  have e2 : (S.ran r).now d = doneU d (S.now d) r.us := by
    unfold TS.ran TS.now TS.safe
    simp only
    rw [doneU_append]
  rw [e2]
  unfold Rn.us
  by_cases hd : r.dt = []
  · rw [if_pos hd]
    show stepU d (S.now d) (r.sd, (r.kp : Int), 0) = _
    unfold stepU
    simp only
    by_cases e : d = r.sd
    · rw [if_pos e.symm, if_pos e, if_pos (by omega), hd]
      simp
    · rw [if_neg (Ne.symm e), if_neg e]
  · rw [if_neg hd]
    by_cases e : d = r.sd
    · subst e
      rw [if_pos rfl, TS.doneU_write, List.take_of_length_le (hk hd)]
    · rw [if_neg e, TS.doneU_other (Ne.symm e)]
theorem TS.trim_ran {S : TS} {sd n : Int} (hr : S.ready sd = 0) (h : ¬ (n < 0 ∨ ((S.now sd).length : Int) < n)) : S.trim sd n = (S.ran ⟨sd, n.toNat, []⟩, 0) := by
  unfold TS.trim TS.ran
  rw [if_neg (by simp [hr]), if_neg h, TS.eta]
  have e : (n.toNat : Int) = n := Int.toNat_of_nonneg (by omega)
  simp [Rn.us, e]
theorem TS.write_ran {S : TS} {sd : Int} {l : List UInt8} (hr : S.ready sd = 0) (h : ¬ 65536 < (S.now sd).length + l.length) (hl : l ≠ []) : S.write sd l = (S.ran ⟨sd, (S.now sd).length, l⟩, 0) := by
  unfold TS.write TS.ran
  rw [if_neg (by simp [hr]), if_neg h, TS.eta]
  simp [Rn.us, hl]
theorem TS.write_nil {S : TS} {sd : Int} (hok : TS.Ok S) (hr : S.ready sd = 0) : S.write sd [] = (⟨S.s0, S.s1, S.us, S.burn.bn, S.burn.lf⟩, 0) := by
  unfold TS.write
  rw [if_neg (by simp [hr]), if_neg (by have := hok.now sd; simp; omega), TS.eta]
  simp [TS.unitsW]
set_option maxHeartbeats 1000000 in
theorem addP_any {w : World} {P : Nat → Prop} {κ : Nat → Nat} {q un uc : Nat} {V0 V1 U0 U1 : Hd} {UA : Option Addr} {L : List Ru} {S : TS} (hok : TS.Ok S) (e : TapF w P κ q V0 V1 U0 U1 UA un uc (S.now 0) (S.now 1) S.s0 S.s1 L (S.us.length : Int) S.bn S.lf) (f : FitR S (L.map (·.1)))
    (hu : S.us.length ≤ 900000) (sd : Int) (hs : sd = 0 ∨ sd = 1) (kp : Nat) (X : Option Addr) (m d : Nat) (k : List UInt8) (hl : k.length = m) (hmd : m ≤ d) (hdx : d ≤ 9223372036854775807) (hX : BytQ w (fun g => P g ∧ κ g = 2) X k) (hmm : m ≤ 1000000)
    (hk : kp ≤ (S.now sd).length) (hkd : k ≠ [] → (S.now sd).length ≤ kp) :
    Calls Try.prog 33 #[.pointer (some ⟨q, 0, none⟩), .agg #[.int .i64 sd, .int .i64 (kp : Int), .slice X m d]] w fun er w' => er = .returned (.tuple #[]) ∧
      ∃ κ' V0' V1' UA' uc' L', TapF w' (plusQ P w.heap.size w'.heap.size) κ' q V0' V1' U0 U1 UA' (un + 1) uc' ((S.ran ⟨sd, kp, k⟩).now 0) ((S.ran ⟨sd, kp, k⟩).now 1) S.s0 S.s1 L' ((S.ran ⟨sd, kp, k⟩).us.length : Int) S.bn S.lf ∧ FitR (S.ran ⟨sd, kp, k⟩) (L'.map (·.1)) ∧ Grew w w' P := by
  have hun : un ≤ 10000000 := by
    have h1 := e.ul
    have h2 := f.le
    rw [List.length_map] at h2
    omega
  have h0 := hok.now 0
  have h1 := hok.now 1
  have hfit : FitR (S.ran ⟨sd, kp, k⟩) ((L ++ [((⟨sd, kp, k⟩, X, d) : Ru)]).map (·.1)) := by
    rw [List.map_append]
    exact f.snoc (r := ⟨sd, kp, k⟩) rfl rfl rfl hs hk hkd
  have hct : (S.us.length : Int) + ((max 1 m : Nat) : Int) = ((S.ran ⟨sd, kp, k⟩).us.length : Int) := by
    have := Rn.us_len ⟨sd, kp, k⟩
    unfold TS.ran
    simp only [List.length_append] at *
    omega
  have hn := S.ran_now ⟨sd, kp, k⟩ hkd
  rcases hs with rfl | rfl
  · refine (add0_any e kp X m d k hl hmd hdx hX (by have := hok.now 0; omega) (by omega) hmm hun (by omega)).mono ?_
    rintro er w' ⟨rfl, V', κ', UA', uc', e', g'⟩
    rw [hct] at e'
    refine ⟨rfl, κ', V', V1, UA', uc', _, ?_, hfit, g'⟩
    rw [hn 0, hn 1, if_pos rfl, if_neg (by simp)]
    exact e'
  · refine (add1_any e kp X m d k hl hmd hdx hX (by have := hok.now 1; omega) (by omega) hmm hun (by omega)).mono ?_
    rintro er w' ⟨rfl, V', κ', UA', uc', e', g'⟩
    rw [hct] at e'
    refine ⟨rfl, κ', V0, V', UA', uc', _, ?_, hfit, g'⟩
    rw [hn 0, hn 1, if_pos rfl, if_neg (by simp)]
    exact e'
section
variable {w : World} {P : Nat → Prop} {q : Nat} {S : TS}
/-- Behind the call and the fuse. -/
theorem TapI.ran {w1 w2 : World} {κ : Nat → Nat} {V0 V1 U0 U1 : Hd} {UA : Option Addr} {un uc : Nat} {L : List Ru} {r : Rn} {n : Nat} (hok : TS.Ok (S.ran r)) (e : TapF w2 (plusQ P n w1.heap.size) κ q V0 V1 U0 U1 UA un uc ((S.ran r).now 0) ((S.ran r).now 1) S.s0 S.s1 L ((S.ran r).us.length : Int) S.burn.bn S.burn.lf)
    (f : FitR (S.ran r) (L.map (·.1))) (hs : w1.heap.size ≤ w2.heap.size) : TapI w2 (plusQ P n w2.heap.size) q (S.ran r) :=
  ⟨hok, κ, V0, V1, U0, U1, UA, un, uc, L, e.imp (fun x hx => ⟨plusQ_grow hs x hx, rfl⟩) (fun x hx => hx.elim (fun h => e.dom x (.inl h)) (·.2)), f⟩
set_option maxHeartbeats 4000000 in
theorem clearI_any (e : TapI w P q S) (hu : S.us.length ≤ 900000) (sd : Int) :
    Calls Try.prog 25 #[.pointer (some ⟨q, 0, none⟩), .int .i64 sd] w fun er w' => er = .returned (.int .i64 (S.trim sd 0).2) ∧ TapI w' (plusQ P w.heap.size w'.heap.size) q (S.trim sd 0).1 ∧ Grew w w' P := by
  have HE0 := hid e
  have HOK := hid (TS.trim_ok (sd := sd) (n := 0) e.1)
  obtain ⟨hok, κ, V0, V1, U0, U1, UA, un, uc, L, e, f⟩ := e
  have HCK := hid (check_any e sd)
  by_cases hr : S.ready sd = 0
  · have hs := (TS.ready_zero hr).1
    have HWR : Hid (S.trim sd 0 = (S.ran ⟨sd, 0, []⟩, 0)) := hid (TS.trim_ran hr (by omega))
    have HAD := hid (addP_any hok e f hu sd hs 0 none 0 0 [] rfl (Nat.le_refl _) (by omega) BytQ.nil (by omega) (Nat.zero_le _) (fun h => absurd rfl h))
    have HBU := hid (fun (w1 : World) P1 (κ : Nat → Nat) (V0 V1 U0 U1 : Hd) (UA : Option Addr) (un uc : Nat) a0 a1 b0 b1 (L : List Ru) (ct : Int) (e : TapF w1 P1 κ q V0 V1 U0 U1 UA un uc a0 a1 b0 b1 L ct S.bn S.lf) => burn_any e ⟨hok.lf0, hok.lf1⟩)
    rw [hr] at HCK
    have hz : ((0 : Nat) : Int) = 0 := rfl
    clear e f hok hr hs hu
    go_enter Try.func25, Try.ntmps25
    go_wp2_with fail
    refine HCK.out.mono ?_
    rintro er w1 ⟨rfl, rfl⟩
    go_wp2_with fail
    refine HAD.out.mono ?_
    rintro er w2 ⟨rfl, κ', V0', V1', UA', uc', L', e2, f2, g2⟩
    have H2 := hid (And.intro f2 g2)
    have HE2 := hid e2
    clear e2 f2 g2
    go_wp2_with fail
    refine (HBU.out _ _ _ _ _ _ _ _ _ _ _ _ _ _ _ _ HE2.out).mono ?_
    rintro er w3 ⟨rfl, e3, g3⟩
    have H3 := hid g3
    have HE3 := hid e3
    clear e3 g3
    go_wp2_with fail
    go_ret
    rw [HWR.out] at HOK
    exact ⟨by rw [HWR.out]; rfl, by rw [HWR.out]; exact TapI.ran HOK.out HE3.out H2.out.1 H3.out.size, H2.out.2.thenQ H3.out⟩
  · have HWR : Hid (S.trim sd 0 = (S, S.ready sd)) := hid (by unfold TS.trim; rw [if_pos hr])
    obtain ⟨r, hrr⟩ : ∃ r, S.ready sd = r := ⟨_, rfl⟩
    rw [hrr] at HCK HWR hr
    have hb : (r != 0) = true := by simp [hr]
    clear hrr e f hok
    go_enter Try.func25, Try.ntmps25
    go_wp2_with fail
    refine HCK.out.mono ?_
    rintro er w1 ⟨rfl, rfl⟩
    go_wp2_with fail
    go_ret
    exact ⟨by rw [HWR.out]; rfl, by rw [HWR.out]; exact HE0.out.morQ, Grew.refl _ _⟩
set_option maxHeartbeats 4000000 in
theorem trimI_any (e : TapI w P q S) (hu : S.us.length ≤ 900000) (sd z : Int) (hz : -9223372036854775808 ≤ z) (hz2 : z < 9223372036854775808) :
    Calls Try.prog 24 #[.pointer (some ⟨q, 0, none⟩), .int .i64 sd, .int .i64 z] w fun er w' => er = .returned (.int .i64 (S.trim sd z).2) ∧ TapI w' (plusQ P w.heap.size w'.heap.size) q (S.trim sd z).1 ∧ Grew w w' P := by
  have HE0 := hid e
  have HOK := hid (TS.trim_ok (sd := sd) (n := z) e.1)
  obtain ⟨hok, κ, V0, V1, U0, U1, UA, un, uc, L, e, f⟩ := e
  have HCK := hid (check_any e sd)
  by_cases hr : S.ready sd = 0
  · have hs := (TS.ready_zero hr).1
    obtain ⟨⟨k0, k1, k2, k3⟩, -, -⟩ := e.cells w (Below.refl _ _)
    have hn0 := e.s0.v.len
    have hn1 := e.s1.v.len
    by_cases hneg : z < 0
    · have HWR : Hid (S.trim sd z = (S, 1)) := hid (by unfold TS.trim; rw [if_neg (by simp [hr]), if_pos (.inl hneg)])
      have hd : decide (z < 0) = true := decide_eq_true hneg
      rw [hr] at HCK
      clear e f hok hr hs
      go_enter Try.func24, Try.ntmps24
      go_wp2_with fail
      refine HCK.out.mono ?_
      rintro er w1 ⟨rfl, rfl⟩
      go_wp2_with fail
      go_ret
      exact ⟨by rw [HWR.out]; rfl, by rw [HWR.out]; exact HE0.out.morQ, Grew.refl _ _⟩
    · have hd : decide (z < 0) = false := decide_eq_false hneg
      by_cases hbig : ((S.now sd).length : Int) < z
      · have HWR : Hid (S.trim sd z = (S, 1)) := hid (by unfold TS.trim; rw [if_neg (by simp [hr]), if_pos (.inr hbig)])
        rw [hr] at HCK
        clear e f hok hr
        rcases hs with rfl | rfl
        · have hlt : (V0.n : Int) < z := by omega
          obtain ⟨A, n, c⟩ := V0
          simp only at *
          have hd2 : decide ((n : Int) < z) = true := decide_eq_true hlt
          clear hbig
          go_enter Try.func24, Try.ntmps24
          go_wp2_with fail
          refine HCK.out.mono ?_
          rintro er w1 ⟨rfl, rfl⟩
          go_wp2_with fail
          go_ret
          exact ⟨by rw [HWR.out]; rfl, by rw [HWR.out]; exact HE0.out.morQ, Grew.refl _ _⟩
        · have hlt : (V1.n : Int) < z := by omega
          obtain ⟨A, n, c⟩ := V1
          simp only at *
          have hd2 : decide ((n : Int) < z) = true := decide_eq_true hlt
          clear hbig
          go_enter Try.func24, Try.ntmps24
          go_wp2_with fail
          refine HCK.out.mono ?_
          rintro er w1 ⟨rfl, rfl⟩
          go_wp2_with fail
          go_ret
          exact ⟨by rw [HWR.out]; rfl, by rw [HWR.out]; exact HE0.out.morQ, Grew.refl _ _⟩
      · have ez : (z.toNat : Int) = z := Int.toNat_of_nonneg (by omega)
        have HWR : Hid (S.trim sd z = (S.ran ⟨sd, z.toNat, []⟩, 0)) := hid (TS.trim_ran hr (by omega))
        have HAD := hid (addP_any hok e f hu sd hs z.toNat none 0 0 [] rfl (Nat.le_refl _) (by omega) BytQ.nil (by omega) (by omega) (fun h => absurd rfl h))
        have HBU := hid (fun (w1 : World) P1 (κ : Nat → Nat) (V0 V1 U0 U1 : Hd) (UA : Option Addr) (un uc : Nat) a0 a1 b0 b1 (L : List Ru) (ct : Int) (e : TapF w1 P1 κ q V0 V1 U0 U1 UA un uc a0 a1 b0 b1 L ct S.bn S.lf) => burn_any e ⟨hok.lf0, hok.lf1⟩)
        rw [hr] at HCK
        rw [ez] at HAD
        clear e f hok hr hu ez
        rcases hs with rfl | rfl
        · have hlt : ¬ (V0.n : Int) < z := by omega
          obtain ⟨A, n, c⟩ := V0
          simp only at *
          have hd2 : decide ((n : Int) < z) = false := decide_eq_false hlt
          clear hbig
          go_enter Try.func24, Try.ntmps24
          go_wp2_with fail
          refine HCK.out.mono ?_
          rintro er w1 ⟨rfl, rfl⟩
          go_wp2_with fail
          refine HAD.out.mono ?_
          rintro er w2 ⟨rfl, κ', V0', V1', UA', uc', L', e2, f2, g2⟩
          have H2 := hid (And.intro f2 g2)
          have HE2 := hid e2
          clear e2 f2 g2
          go_wp2_with fail
          refine (HBU.out _ _ _ _ _ _ _ _ _ _ _ _ _ _ _ _ HE2.out).mono ?_
          rintro er w3 ⟨rfl, e3, g3⟩
          have H3 := hid g3
          have HE3 := hid e3
          clear e3 g3
          go_wp2_with fail
          go_ret
          rw [HWR.out] at HOK
          exact ⟨by rw [HWR.out]; rfl, by rw [HWR.out]; exact TapI.ran HOK.out HE3.out H2.out.1 H3.out.size, H2.out.2.thenQ H3.out⟩
        · have hlt : ¬ (V1.n : Int) < z := by omega
          obtain ⟨A, n, c⟩ := V1
          simp only at *
          have hd2 : decide ((n : Int) < z) = false := decide_eq_false hlt
          clear hbig
          go_enter Try.func24, Try.ntmps24
          go_wp2_with fail
          refine HCK.out.mono ?_
          rintro er w1 ⟨rfl, rfl⟩
          go_wp2_with fail
          refine HAD.out.mono ?_
          rintro er w2 ⟨rfl, κ', V0', V1', UA', uc', L', e2, f2, g2⟩
          have H2 := hid (And.intro f2 g2)
          have HE2 := hid e2
          clear e2 f2 g2
          go_wp2_with fail
          refine (HBU.out _ _ _ _ _ _ _ _ _ _ _ _ _ _ _ _ HE2.out).mono ?_
          rintro er w3 ⟨rfl, e3, g3⟩
          have H3 := hid g3
          have HE3 := hid e3
          clear e3 g3
          go_wp2_with fail
          go_ret
          rw [HWR.out] at HOK
          exact ⟨by rw [HWR.out]; rfl, by rw [HWR.out]; exact TapI.ran HOK.out HE3.out H2.out.1 H3.out.size, H2.out.2.thenQ H3.out⟩
  · have HWR : Hid (S.trim sd z = (S, S.ready sd)) := hid (by unfold TS.trim; rw [if_pos hr])
    obtain ⟨r, hrr⟩ : ∃ r, S.ready sd = r := ⟨_, rfl⟩
    rw [hrr] at HCK HWR hr
    have hb : (r != 0) = true := by simp [hr]
    clear hrr e f hok
    go_enter Try.func24, Try.ntmps24
    go_wp2_with fail
    refine HCK.out.mono ?_
    rintro er w1 ⟨rfl, rfl⟩
    go_wp2_with fail
    go_ret
    exact ⟨by rw [HWR.out]; rfl, by rw [HWR.out]; exact HE0.out.morQ, Grew.refl _ _⟩
end
end Go.Proofs.Ytdigfbgjefffiaa.Sh
