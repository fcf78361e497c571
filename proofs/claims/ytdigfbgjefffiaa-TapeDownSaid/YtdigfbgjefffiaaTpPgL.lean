/-
  The program's tape: Write.
-/
import Derived.Test.YtdigfbgjefffiaaTpPgF
namespace Go.Proofs.Ytdigfbgjefffiaa.Sh
open Go Go.RowKit

set_option linter.unusedSimpArgs false
set_option linter.unusedVariables false
section
variable {w : World} {P : Nat → Prop} {q : Nat} {S : TS}
set_option maxHeartbeats 8000000 in
theorem writeI_any (e : TapI w P q S) (hu : S.us.length ≤ 900000) (sd : Int) (A : Option Addr) (l : List UInt8) (n c : Nat) (hn : l.length = n) (hc : n ≤ c) (hnm : n ≤ 70000) (hA : ∀ W, Grew w W P → Byt W W.heap.size A l) :
    Calls Try.prog 15 #[.pointer (some ⟨q, 0, none⟩), .int .i64 sd, .slice A n c] w fun er w' => er = .returned (.int .i64 (S.write sd l).2) ∧ TapI w' (plusQ P w.heap.size w'.heap.size) q (S.write sd l).1 ∧ Grew w w' P := by
  have HE0 := hid e
  have HOK := hid (TS.write_ok (sd := sd) (l := l) e.1)
  obtain ⟨hok, κ, V0, V1, U0, U1, UA, un, uc, L, e, f⟩ := e
  have HCK := hid (check_any e sd)
  by_cases hr : S.ready sd = 0
  · have hs := (TS.ready_zero hr).1
    have hnow := hok.now sd
    obtain ⟨V, hV, hVn, hVc⟩ : ∃ V : Hd, (∃ i : Nat, sd = (i : Int) ∧ i < 2 ∧ w.cell? ⟨q, i, none⟩ = some (.slice V.A V.n V.c)) ∧ (S.now sd).length = V.n ∧ V.n ≤ V.c := by
      obtain ⟨⟨k0, k1, k2, k3⟩, -, -⟩ := e.cells w (Below.refl _ _)
      rcases hs with rfl | rfl
      · exact ⟨V0, ⟨0, rfl, by omega, k0⟩, e.s0.v.len, e.s0.v.le⟩
      · exact ⟨V1, ⟨1, rfl, by omega, k1⟩, e.s1.v.len, e.s1.v.le⟩
    obtain ⟨VA, kp, vc⟩ := V
    simp only at hV hVn hVc
    obtain ⟨i, hi, hi2, k0⟩ := hV
    rw [hVn] at hnow
    rw [hr] at HCK
    have i0 : (0 : Int) ≤ (i : Int) := Int.natCast_nonneg _
    have i2 : (i : Int) < 2 := by omega
    by_cases hroom : 65536 < kp + n
    · have HWR : Hid (S.write sd l = (S, 42)) := hid (by unfold TS.write; rw [if_neg (by simp [hr]), hVn, hn, if_pos hroom])
      have hroom' : (65536 : Int) - (kp : Int) < (n : Int) := by omega
      subst hi
      clear e f hok hr hs hVn HOK hA hn hroom
      go_enter Try.func15, Try.ntmps15
      go_wp2_with fail
      refine HCK.out.mono ?_
      rintro er w1 ⟨rfl, rfl⟩
      go_wp2_with fail
      go_ret
      exact ⟨by rw [HWR.out]; rfl, by rw [HWR.out]; exact HE0.out.morQ, Grew.refl _ _⟩
    · have hroom' : ¬ (65536 : Int) - (kp : Int) < (n : Int) := by omega
      by_cases h0 : n = 0
      · subst h0
        have hl0 : l = [] := List.eq_nil_of_length_eq_zero hn
        have HWR : Hid (S.write sd l = (⟨S.s0, S.s1, S.us, S.burn.bn, S.burn.lf⟩, 0)) := hid (by rw [hl0]; exact TS.write_nil hok hr)
        have HBU := hid (burn_any e ⟨hok.lf0, hok.lf1⟩)
        have hfit : FitR ⟨S.s0, S.s1, S.us, S.burn.bn, S.burn.lf⟩ (L.map (·.1)) := f.same rfl rfl rfl
        have HFT := hid hfit
        subst hi
        clear e f hok hr hs hVn hA hn hroom hl0 hfit
        go_enter Try.func15, Try.ntmps15
        go_wp2_with fail
        refine HCK.out.mono ?_
        rintro er w1 ⟨rfl, rfl⟩
        go_wp2_with fail
        refine HBU.out.mono ?_
        rintro er w3 ⟨rfl, e3, g3⟩
        have H3 := hid g3
        have HE3 := hid e3
        clear e3 g3
        go_wp2_with fail
        go_ret
        rw [HWR.out] at HOK
        have e9 : TapI w3 P q ⟨S.s0, S.s1, S.us, S.burn.bn, S.burn.lf⟩ := ⟨HOK.out, κ, _, _, _, _, _, _, _, _, HE3.out, HFT.out⟩
        exact ⟨by rw [HWR.out]; rfl, by rw [HWR.out]; exact e9.morQ, H3.out⟩
      · have hpos : (0 : Int) < (n : Int) := by omega
        have hl0 : l ≠ [] := fun h => h0 (by rw [← hn, h]; rfl)
        have HWR : Hid (S.write sd l = (S.ran ⟨sd, kp, l⟩, 0)) := hid (by rw [← hVn]; exact TS.write_ran hr (by omega) hl0)
        have HCL := hid (cloneB_any A l n c hn (by omega) w (hA w (Grew.refl _ _)))
        have HAD := hid (fun (w1 : World) (X : Option Addr) (d : Nat) (b1 : Below w.heap.size w w1) (o : OwnB w1 w.heap.size (.slice X n d) n l) =>
          addP_any (κ := kapQ κ w.heap.size 2) hok ((e.below b1).imp (Q := plusQ P w.heap.size w1.heap.size) (κ' := kapQ κ w.heap.size 2) (fun x hx => ⟨.inl hx, kapQ_old (e.dom x hx)⟩) (plusQ_dom e.dom b1.size)) f hu sd hs kp X n d l hn o.cap o.cap_max
            (BytQ.of_own o (fun b h1 h2 => ⟨.inr ⟨h1, h2⟩, kapQ_new h1⟩)) (by omega) (by omega) (fun _ => by omega))
        have HBU := hid (fun (w1 : World) P1 (κ : Nat → Nat) (V0 V1 U0 U1 : Hd) (UA : Option Addr) (un uc : Nat) a0 a1 b0 b1 (L : List Ru) (ct : Int) (e : TapF w1 P1 κ q V0 V1 U0 U1 UA un uc a0 a1 b0 b1 L ct S.bn S.lf) => burn_any e ⟨hok.lf0, hok.lf1⟩)
        subst hi
        clear e f hok hr hs hVn hA hn hroom hl0 hu
        go_enter Try.func15, Try.ntmps15
        go_wp2_with fail
        refine HCK.out.mono ?_
        rintro er w1 ⟨rfl, rfl⟩
        go_wp2_with fail
        refine HCL.out.mono ?_
        rintro er w1 ⟨X, d, rfl, o1, b1⟩
        have HB1 := hid b1
        have HAD1 := hid (HAD.out w1 X d b1 o1)
        clear o1 b1
        go_wp2_with fail
        refine HAD1.out.mono ?_
        rintro er w2 ⟨rfl, κ', V0', V1', UA', uc', L', e2, f2, g2⟩
        have H2 := hid (And.intro f2 g2)
        have HE2 := hid e2
        clear e2 f2 g2
        go_wp2_with fail
        refine (HBU.out _ _ _ _ _ _ _ _ _ _ _ _ _ _ _ _ HE2.out).mono ?_
        rintro er w3 ⟨rfl, e3, g3⟩
        have H3 := hid g3
        have HE3 := hid e3
        clear e3 g3
        go_wp2_with fail
        go_ret
        rw [HWR.out] at HOK
        have s1 := HB1.out.size
        have s2 := H2.out.2.size
        have s3 := H3.out.size
        have e9 := TapI.ran HOK.out HE3.out H2.out.1 s3
        refine ⟨by rw [HWR.out]; rfl, ?_, ((Grew.of_below HB1.out).thenQ H2.out.2).thenQ (m := w2.heap.size) (H3.out.mono fun x _ hx => plusQ_twice (n := w.heap.size) (m := w1.heap.size) (M := w1.heap.size) (k := w2.heap.size) s1 s2 x hx)⟩
        rw [HWR.out]
        exact e9.imp (fun x hx => plusQ_twice (n := w.heap.size) (m := w1.heap.size) (M := w1.heap.size) (k := w3.heap.size) s1 (by omega) x hx) (fun x hx => hx.elim (fun hp => e9.dom x (.inl (.inl hp))) (·.2))
  · have HWR : Hid (S.write sd l = (S, S.ready sd)) := hid (by unfold TS.write; rw [if_pos hr])
    obtain ⟨r, hrr⟩ : ∃ r, S.ready sd = r := ⟨_, rfl⟩
    rw [hrr] at HCK HWR hr
    have hb : (r != 0) = true := by simp [hr]
    clear hrr e f hok hA hn
    go_enter Try.func15, Try.ntmps15
    go_wp2_with fail
    refine HCK.out.mono ?_
    rintro er w1 ⟨rfl, rfl⟩
    go_wp2_with fail
    go_ret
    exact ⟨by rw [HWR.out]; rfl, by rw [HWR.out]; exact HE0.out.morQ, Grew.refl _ _⟩
end
end Go.Proofs.Ytdigfbgjefffiaa.Sh
