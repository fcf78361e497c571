/-
  The walk of RevsetDeltas (the contract of lives is its premise). Written by mk_relawb.py.
-/
import Derived.Test.YtifoppnpgljphaaReLawA
namespace Go.Proofs.Ytifoppnpgljphaa.Sh
open Go Go.RowKit

set_option linter.unusedSimpArgs false
set_option linter.unusedVariables false
theorem FrsLL.lls {w : World} {B n : Nat} {A : Option Addr} {ll : List (List Int)} (h : FrsLL w B A n ll) (hB : B ≤ w.heap.size) : Lls w w.heap.size A ll := by
  rcases Nat.eq_zero_or_pos n with h0 | h0
  · have : ll = [] := List.eq_nil_of_length_eq_zero (by rw [h.len]; exact h0)
    rw [this]
    exact Lls.nil _ _ _
  · obtain ⟨g, cs, rfl, hb, hg, hr⟩ := h.rows h0
    have hd : ∀ i : Fin ll.length, ∃ x : Hd, cs[i.1]? = some x.val ∧ (ll[i.1]).length = x.n ∧ x.n ≤ x.c ∧ x.c ≤ 9223372036854775807 ∧ Frs w B x.A x.n ll[i.1] := fun i => hr i.1 ll[i.1] (List.getElem?_eq_getElem i.2)
    refine ⟨List.ofFn fun i => (hd i).choose, by simp, fun hn => ⟨_, rfl, (Array.getElem?_eq_some_iff.1 hg).1, fun i u hu => ?_⟩, fun i x l hx hl => ?_⟩
    · rw [ev_hd, List.getElem?_map] at hu
      obtain ⟨y, hy, rfl⟩ := Option.map_eq_some_iff.1 hu
      rw [List.getElem?_ofFn] at hy
      split at hy
      · rename_i hi
        injection hy with hy
        subst hy
        rw [addr_rowN, cell_of_row _ _ i _ _ (0, 0) hg]
        exact (hd ⟨i, hi⟩).choose_spec.1
      · cases hy
    · rw [List.getElem?_ofFn] at hx
      split at hx
      · rename_i hi
        injection hx with hx
        subst hx
        have hl2 : ll[i] = l := by rw [List.getElem?_eq_getElem hi] at hl; injection hl
        subst hl2
        obtain ⟨k1, k2, k3, k4, k5⟩ := (hd ⟨i, hi⟩).choose_spec
        exact ⟨k2, k3, k4, k5.els1⟩
      · cases hx
theorem deltaS_mem {S : Nat → List Int} (h : OkS S) (known : List Int) : ∀ l ∈ deltaS S known, l.length ≤ 1099511627776 := by
  have hm : ∀ (ll : List (List Int)), ∀ l ∈ trimL ll, l ∈ ll := fun ll => by
    induction ll with
    | nil => intro l h; exact h
    | cons x t ih =>
      intro l hl
      have hl' : l ∈ (match trimL t with | [] => if x = [] then [] else [x] | y :: s => x :: y :: s) := hl
      cases e : trimL t with
      | nil =>
        rw [e] at hl'
        by_cases hx : x = []
        · simp [hx] at hl'
        · simp [hx] at hl'; simp [hl']
      | cons y s =>
        rw [e] at hl' ih
        simp only [List.mem_cons] at hl' ⊢
        rcases hl' with h | h | h
        · exact .inl h
        · exact .inr (ih l (by simp [h]))
        · exact .inr (ih l (by simp [h]))
  intro l hl
  obtain ⟨i, _, rfl⟩ := List.mem_map.1 (hm _ l hl)
  have := (h i).len
  unfold partS
  rw [List.length_drop]
  omega
set_option maxHeartbeats 16000000 in
theorem revsetDeltas_walk (hlv : Lives11) (A : Option Addr) (xs : List Deed) (n c : Nat) (hn : xs.length = n) (hc : n ≤ c) (hm : c ≤ 9223372036854775807) (KA : Option Addr) (kl : List Int) (kn kc : Nat) (hkn : kl.length = kn) (hkc : kn ≤ kc) (hkm : kc ≤ 9223372036854775807) (w : World) (h : Deeds w w.heap.size A xs) (hke : Els encN w w.heap.size KA kl) :
    Calls Try.prog 4 #[.slice A n c, .slice KA kn kc] w fun e w' => e = .returned (.bool true) ∧ Below w.heap.size w w' := by
  have HLV := hid hlv
  have HD := hid h
  have HN := hid hn
  have HKE := hid hke
  have HKN := hid hkn
  clear hlv h hn hke hkn
  by_cases hk20 : 20 < kn
  · have hk21 : (20 : Int) < (kn : Int) := by omega
    have hk22 : (20 : Int) ≤ (kc : Int) := by omega
    obtain ⟨KL, hKL⟩ : ∃ y, kl.take 20 = y := ⟨_, rfl⟩
    have HKL : Hid (KL.length = 20) := hid (by rw [← hKL, List.length_take, HKN.out]; omega)
    have HKK : Hid (Els encN w w.heap.size KA KL) := hid (by rw [← hKL]; exact HKE.out.head)
    clear hKL
    go_enter Try.func4, Try.ntmps4
    go_wp2_with fail
    refine (new11_any w).mono ?_
    rintro er w1 ⟨gs, rfl, s1, s2, b1, p1⟩
    have HS1 := hid p1
    have HB1 := hid b1
    clear b1 p1
    go_wp2_with fail
    refine (refNew11_any w1).mono ?_
    rintro er w2 ⟨g, gL, rfl, r1, r2, r3, r4, b2, p2⟩
    have HBO : Hid (Both w2 w.heap.size gs g gL S0) := hid (both_new HS1.out s2 b2 r1 r2 p2 ⟨r3, r4⟩ HB1.out.size)
    have HB2 := hid (HB1.out.trans (b2.mono HB1.out.size))
    have hgs : w.heap.size ≤ gs := s1
    have hgL : w.heap.size ≤ gL := by have := HB1.out.size; omega
    clear b2 p2 r1 r2 r3 r4 s1 s2 HS1 HB1
    go_wp2_with fail
    go_loopw [7] (fun i wr => ∃ (k : Nat) (S : Nat → List Int), i = .int .i64 (k : Int) ∧ k ≤ n ∧ k ≤ 40 ∧ Hid (Both wr w.heap.size gs g gL S) ∧ Hid (Below w.heap.size w wr)) (fun i _ => 40 - (intOf i).toNat)
    case atStart => exact ⟨0, S0, rfl, Nat.zero_le _, Nat.zero_le _, HBO, HB2⟩
    case round =>
      clear HBO HB2
      obtain ⟨wj, hwj⟩ : ∃ x, x = wr := ⟨_, rfl⟩
      subst hwj
      obtain ⟨k, S, rfl, hk, hk40, HBO, HB⟩ := hrel
      have hk0 : (0 : Int) ≤ (k : Int) := Int.natCast_nonneg _
      by_cases hlt : k < n ∧ k < 40
      · have hk1 : (k : Int) < (n : Int) := by omega
        have hk2 : (k : Int) < 40 := by omega
        obtain ⟨x, hx⟩ : ∃ x, xs[k]? = some x := ⟨_, List.getElem?_eq_getElem (by rw [HN.out]; exact hlt.1)⟩
        obtain ⟨ad, aj, dh, hA, hab, haj, hbj, hde, c0, c1, c2, c3, c4⟩ := (HD.out.below (Nat.le_refl _) HB.out).at hx
        subst hA
        have HDO := hid (doesE_any HBO.out HB.out.size hgs hgL hde)
        obtain ⟨kd, d, q, kA', kn', kc', mA', mn', mc'⟩ := dh
        simp only at c0 c1 c2 c3 c4 HDO
        clear hx hde hab hbj
        go_wp2_with fail
        refine HDO.out.mono ?_
        rintro er w3 ⟨rfl, o3, g3⟩
        have HBO3 := hid o3
        have HB3 := hid (Grew.then_below HB.out g3 HB.out.size (fun b hb => hb))
        clear o3 g3 c0 c1 c2 c3 c4
        go_wp2_with fail
        go_roundw
        case rel => exact ⟨k + 1, deedS S (cutD x), by go_num, by omega, by omega, HBO3, HB3⟩
        case measure => simp [intOf]; omega
      · have HOK := hid HBO.out.s.ok
        have HDS := hid (fun W (hW : Below wj.heap.size wj W) => delta11_any (HBO.out.below hW).s KA KL 20 kc HKL.out (by omega) ((HKK.out.below (HB.out.trans (hW.mono HB.out.size))).more (by have := HB.out.size; have := hW.size; omega)))
        have HDR := hid (fun W (hW : Below wj.heap.size wj W) => refDelta11_any (HBO.out.below hW).r KA KL 20 kc HKL.out (by omega) ((HKK.out.below (HB.out.trans (hW.mono HB.out.size))).more (by have := HB.out.size; have := hW.size; omega)))
        by_cases hk1 : (k : Int) < (n : Int)
        all_goals
          try have hk2 : ¬ (k : Int) < 40 := (by omega)
          go_wp2_with fail
          refine (HDS.out _ (Below.refl _ _)).mono ?_
          rintro er w3 ⟨A3, m3, c3, rfl, q1, q2, f3, b3⟩
          have HF3 := hid (f3.lls b3.size)
          have HL3 := hid f3.len
          have HB3 := hid b3
          clear f3 b3
          go_wp2_with fail
          refine (HDR.out _ HB3.out).mono ?_
          rintro er w4 ⟨A4, m4, c4, rfl, l4, o4, b4⟩
          have HF4 := hid o4.lls
          have HL4 := hid l4
          have HF34 := hid ((HF3.out.below b4).more b4.size)
          have HB4 := hid (HB3.out.trans (b4.mono HB3.out.size))
          clear l4 o4 b4
          go_wp2_with fail
          refine (sameRows_any A3 A4 (deltaS S KL) (deltaS S KL) m3 m4 c3 c4 HL3.out HL4.out (by have := deltaS_len S KL; have := HL3.out; omega) (deltaS_mem HOK.out KL) (deltaS_mem HOK.out KL) w4 HF34.out HF4.out).mono ?_
          rintro er w5 ⟨rfl, q5, hw5⟩
          rw [show decide (deltaS S KL = deltaS S KL) = true from decide_eq_true rfl]
          have HB5 : Hid (Below w.heap.size w w5) := hid (HB.out.trans ((HB4.out.trans (by rw [hw5]; exact below_drewN (Below.refl _ _) q5)).mono HB.out.size))
          clear hw5
          go_wp2_with fail
          refine (HLV.out _).mono ?_
          rintro er w6 ⟨rfl, b6⟩
          have HB6 := hid (HB5.out.trans (b6.mono HB5.out.size))
          clear b6
          go_wp2_with fail
          go_ret
          exact ⟨rfl, HB6.out⟩
  · have hk21 : ¬ (20 : Int) < (kn : Int) := by omega
    obtain ⟨KL, hKL⟩ : ∃ y, kl = y := ⟨_, rfl⟩
    have HKL : Hid (KL.length = kn) := hid (by rw [← hKL]; exact HKN.out)
    have HKK : Hid (Els encN w w.heap.size KA KL) := hid (by rw [← hKL]; exact HKE.out)
    clear hKL
    go_enter Try.func4, Try.ntmps4
    go_wp2_with fail
    refine (new11_any w).mono ?_
    rintro er w1 ⟨gs, rfl, s1, s2, b1, p1⟩
    have HS1 := hid p1
    have HB1 := hid b1
    clear b1 p1
    go_wp2_with fail
    refine (refNew11_any w1).mono ?_
    rintro er w2 ⟨g, gL, rfl, r1, r2, r3, r4, b2, p2⟩
    have HBO : Hid (Both w2 w.heap.size gs g gL S0) := hid (both_new HS1.out s2 b2 r1 r2 p2 ⟨r3, r4⟩ HB1.out.size)
    have HB2 := hid (HB1.out.trans (b2.mono HB1.out.size))
    have hgs : w.heap.size ≤ gs := s1
    have hgL : w.heap.size ≤ gL := by have := HB1.out.size; omega
    clear b2 p2 r1 r2 r3 r4 s1 s2 HS1 HB1
    go_wp2_with fail
    go_loopw [7] (fun i wr => ∃ (k : Nat) (S : Nat → List Int), i = .int .i64 (k : Int) ∧ k ≤ n ∧ k ≤ 40 ∧ Hid (Both wr w.heap.size gs g gL S) ∧ Hid (Below w.heap.size w wr)) (fun i _ => 40 - (intOf i).toNat)
    case atStart => exact ⟨0, S0, rfl, Nat.zero_le _, Nat.zero_le _, HBO, HB2⟩
    case round =>
      clear HBO HB2
      obtain ⟨wj, hwj⟩ : ∃ x, x = wr := ⟨_, rfl⟩
      subst hwj
      obtain ⟨k, S, rfl, hk, hk40, HBO, HB⟩ := hrel
      have hk0 : (0 : Int) ≤ (k : Int) := Int.natCast_nonneg _
      by_cases hlt : k < n ∧ k < 40
      · have hk1 : (k : Int) < (n : Int) := by omega
        have hk2 : (k : Int) < 40 := by omega
        obtain ⟨x, hx⟩ : ∃ x, xs[k]? = some x := ⟨_, List.getElem?_eq_getElem (by rw [HN.out]; exact hlt.1)⟩
        obtain ⟨ad, aj, dh, hA, hab, haj, hbj, hde, c0, c1, c2, c3, c4⟩ := (HD.out.below (Nat.le_refl _) HB.out).at hx
        subst hA
        have HDO := hid (doesE_any HBO.out HB.out.size hgs hgL hde)
        obtain ⟨kd, d, q, kA', kn', kc', mA', mn', mc'⟩ := dh
        simp only at c0 c1 c2 c3 c4 HDO
        clear hx hde hab hbj
        go_wp2_with fail
        refine HDO.out.mono ?_
        rintro er w3 ⟨rfl, o3, g3⟩
        have HBO3 := hid o3
        have HB3 := hid (Grew.then_below HB.out g3 HB.out.size (fun b hb => hb))
        clear o3 g3 c0 c1 c2 c3 c4
        go_wp2_with fail
        go_roundw
        case rel => exact ⟨k + 1, deedS S (cutD x), by go_num, by omega, by omega, HBO3, HB3⟩
        case measure => simp [intOf]; omega
      · have HOK := hid HBO.out.s.ok
        have HDS := hid (fun W (hW : Below wj.heap.size wj W) => delta11_any (HBO.out.below hW).s KA KL kn kc HKL.out (by omega) ((HKK.out.below (HB.out.trans (hW.mono HB.out.size))).more (by have := HB.out.size; have := hW.size; omega)))
        have HDR := hid (fun W (hW : Below wj.heap.size wj W) => refDelta11_any (HBO.out.below hW).r KA KL kn kc HKL.out (by omega) ((HKK.out.below (HB.out.trans (hW.mono HB.out.size))).more (by have := HB.out.size; have := hW.size; omega)))
        by_cases hk1 : (k : Int) < (n : Int)
        all_goals
          try have hk2 : ¬ (k : Int) < 40 := (by omega)
          go_wp2_with fail
          refine (HDS.out _ (Below.refl _ _)).mono ?_
          rintro er w3 ⟨A3, m3, c3, rfl, q1, q2, f3, b3⟩
          have HF3 := hid (f3.lls b3.size)
          have HL3 := hid f3.len
          have HB3 := hid b3
          clear f3 b3
          go_wp2_with fail
          refine (HDR.out _ HB3.out).mono ?_
          rintro er w4 ⟨A4, m4, c4, rfl, l4, o4, b4⟩
          have HF4 := hid o4.lls
          have HL4 := hid l4
          have HF34 := hid ((HF3.out.below b4).more b4.size)
          have HB4 := hid (HB3.out.trans (b4.mono HB3.out.size))
          clear l4 o4 b4
          go_wp2_with fail
          refine (sameRows_any A3 A4 (deltaS S KL) (deltaS S KL) m3 m4 c3 c4 HL3.out HL4.out (by have := deltaS_len S KL; have := HL3.out; omega) (deltaS_mem HOK.out KL) (deltaS_mem HOK.out KL) w4 HF34.out HF4.out).mono ?_
          rintro er w5 ⟨rfl, q5, hw5⟩
          rw [show decide (deltaS S KL = deltaS S KL) = true from decide_eq_true rfl]
          have HB5 : Hid (Below w.heap.size w w5) := hid (HB.out.trans ((HB4.out.trans (by rw [hw5]; exact below_drewN (Below.refl _ _) q5)).mono HB.out.size))
          clear hw5
          go_wp2_with fail
          refine (HLV.out _).mono ?_
          rintro er w6 ⟨rfl, b6⟩
          have HB6 := hid (HB5.out.trans (b6.mono HB5.out.size))
          clear b6
          go_wp2_with fail
          go_ret
          exact ⟨rfl, HB6.out⟩
end Go.Proofs.Ytifoppnpgljphaa.Sh
