/-
  The document's own May of a token, by contract. Written by mk_tkref3.py.
-/
import Derived.Test.YtaadmgbmaekicaaGreatDoorJn14
import Derived.Test.YtaadmgbmaekicaaGreatDoorJn10
import Derived.Deep.Cut
set_option linter.unusedVariables false
set_option linter.unusedSimpArgs false
namespace Go.Proofs.YtaadmgbmaekicaaGreatDoor.Sh
open Go Go.RowKit

set_option linter.unusedSimpArgs false
set_option linter.unusedVariables false
theorem id_at2 {w : World} {B : Nat} {A : Option Addr} {l : List (Int × Int)} (h : Els encI w B A l) {i : Nat} {r : Int × Int} (hi : l[i]? = some r) : ∃ ad aj : Addr, A = some ad ∧ ad.block < B ∧ ad.add (i * 2) = aj ∧ aj.block = ad.block ∧ w.cell? aj = some (.int .i64 r.1) ∧ w.cell? ⟨aj.block, aj.off + 1, none⟩ = some (.int .i64 r.2) := by
  obtain ⟨ad, aj, e, hb, ea, eb, c0, cs⟩ := h.get hi
  exact ⟨ad, aj, e, hb, ea, eb, c0 _ rfl, cs 1 _ (by omega) rfl⟩
open Classical in
set_option maxHeartbeats 32000000 in
set_option maxRecDepth 100000 in
theorem refMay12_any {w : World} {Q : Nat → Prop} {th : TH} {t : Tok} (a : TokAt w Q th t) (hrm : th.rn ≤ 1099511627776) (hcr : ∀ c ∈ t.cavs, c.roles.length ≤ 1099511627776) :
    Calls Tryz.prog 11 #[.agg #[.int .i64 th.d, .int .i64 th.e, .int .i64 th.n, .string th.who, .slice th.rA th.rn th.rc, .int .i64 th.til, .slice th.sA th.sn th.sc, .slice th.cA th.cn th.cc, .slice th.tA th.tn th.tc]] w fun er w' => er = .returned (.bool (decide (OkTok t))) ∧ Below w.heap.size w w' := by
  have HRL := hid (fun W (hW : Below w.heap.size w W) => refRolls_any (w := W) th.rA t.roles th.rn th.rc a.rl hrm ((a.re.els.below hW).more hW.size))
  have HMY := hid (fun W => refMay_any th.who W)
  have HSE := hid (fun W (hW : Below w.heap.size w W) => (a.se.els.below hW).more hW.size)
  have HCE := hid (fun W (hW : Below w.heap.size w W) => a.ce.below hW)
  have HCR := hid hcr
  have hrl := a.rl
  have hsl := a.sl
  have hcl := a.cl
  have htl := a.tl
  have hsm : th.sn ≤ 9223372036854775807 := Nat.le_trans a.sc a.sm
  have hcm : th.cn ≤ 9223372036854775807 := Nat.le_trans a.cc a.cm
  obtain ⟨d, e, n, who, rA, rn, rc, til, sA, sn, sc, cA, cn, cc, tA, tn, tc⟩ := th
  obtain ⟨d', e', n', who', roles, til', sup, cavs, tag⟩ := t
  obtain rfl : d = d' := a.d
  obtain rfl : e = e' := a.e
  obtain rfl : n = n' := a.n
  obtain rfl : who = who' := a.who
  obtain rfl : til = til' := a.til
  simp only at HRL HMY HSE HCE HCR hrl hsl hcl htl hrm hsm hcm ⊢
  have HL := hid (And.intro hrl (And.intro hsl (And.intro hcl htl)))
  have HNO : Hid (¬ OkTok ⟨d, e, n, who, roles, til, sup, cavs, tag⟩ → decide (OkTok ⟨d, e, n, who, roles, til, sup, cavs, tag⟩) = false) := hid (fun h => decide_eq_false h)
  obtain ⟨w1, hw1⟩ : ∃ y, y = w.alloc (.cells #[.int .i64 d, .int .i64 e, .int .i64 n, .string who, .slice rA rn rc, .int .i64 til, .slice sA sn sc, .slice cA cn cc, .slice tA tn tc] 27) := ⟨_, rfl⟩
  have HB1 : Hid (Below w.heap.size w w1) := hid (by rw [hw1]; exact (Below.refl _ _).alloc (Nat.le_refl _) _)
  have HX1 : Hid (ThAt w1 w.heap.size ⟨d, e, n, who, rA, rn, rc, til, sA, sn, sc, cA, cn, cc, tA, tn, tc⟩) := hid (by rw [hw1]; exact ThAt.new w ⟨d, e, n, who, rA, rn, rc, til, sA, sn, sc, cA, cn, cc, tA, tn, tc⟩)
  have HW1 := hid hw1
  obtain ⟨c0, c1, c2, c3, c4, c5, c6, c7, c8⟩ := HX1.out.all
  simp only at c0 c1 c2 c3 c4 c5 c6 c7 c8
  clear a hrl hsl hcl htl hw1 hcr
  by_cases g0 : d < 1
  · have HE := hid (HNO.out (fun h => by have := h.d; simp only at this; omega))
    go_enter Tryz.func11, Tryz.ntmps11
    go_upto_region 1 with fail
    rw [← HW1.out]
    go_wp2_with fail
    go_ret
    exact ⟨by rw [HE.out]; rfl, HB1.out⟩
  by_cases g1 : 16 < d
  · have HE := hid (HNO.out (fun h => by have := h.d; simp only at this; omega))
    go_enter Tryz.func11, Tryz.ntmps11
    go_upto_region 1 with fail
    rw [← HW1.out]
    go_wp2_with fail
    go_ret
    exact ⟨by rw [HE.out]; rfl, HB1.out⟩
  by_cases g2 : e < 1
  · have HE := hid (HNO.out (fun h => by have := h.e; simp only at this; omega))
    go_enter Tryz.func11, Tryz.ntmps11
    go_upto_region 1 with fail
    rw [← HW1.out]
    go_wp2_with fail
    go_ret
    exact ⟨by rw [HE.out]; rfl, HB1.out⟩
  by_cases g3 : 1000 < e
  · have HE := hid (HNO.out (fun h => by have := h.e; simp only at this; omega))
    go_enter Tryz.func11, Tryz.ntmps11
    go_upto_region 1 with fail
    rw [← HW1.out]
    go_wp2_with fail
    go_ret
    exact ⟨by rw [HE.out]; rfl, HB1.out⟩
  by_cases g4 : n < 1
  · have HE := hid (HNO.out (fun h => by have := h.n; simp only at this; omega))
    go_enter Tryz.func11, Tryz.ntmps11
    go_upto_region 1 with fail
    rw [← HW1.out]
    go_wp2_with fail
    go_ret
    exact ⟨by rw [HE.out]; rfl, HB1.out⟩
  by_cases g5 : 1099511627776 < n
  · have HE := hid (HNO.out (fun h => by have := h.n; simp only at this; omega))
    go_enter Tryz.func11, Tryz.ntmps11
    go_upto_region 1 with fail
    rw [← HW1.out]
    go_wp2_with fail
    go_ret
    exact ⟨by rw [HE.out]; rfl, HB1.out⟩
  by_cases g6 : til < 0
  · have HE := hid (HNO.out (fun h => by have := h.til; simp only at this; omega))
    go_enter Tryz.func11, Tryz.ntmps11
    go_upto_region 1 with fail
    rw [← HW1.out]
    go_wp2_with fail
    go_ret
    exact ⟨by rw [HE.out]; rfl, HB1.out⟩
  by_cases g7 : 1099511627776 < til
  · have HE := hid (HNO.out (fun h => by have := h.til; simp only at this; omega))
    go_enter Tryz.func11, Tryz.ntmps11
    go_upto_region 1 with fail
    rw [← HW1.out]
    go_wp2_with fail
    go_ret
    exact ⟨by rw [HE.out]; rfl, HB1.out⟩
  have HG := hid (show 1 ≤ d ∧ d ≤ 16 ∧ 1 ≤ e ∧ e ≤ 1000 ∧ 1 ≤ n ∧ n ≤ 1099511627776 ∧ 0 ≤ til ∧ til ≤ 1099511627776 from ⟨by omega, by omega, by omega, by omega, by omega, by omega, by omega, by omega⟩)
  obtain ⟨bm, hbm⟩ : ∃ b, mayL who.data.toList = b := ⟨_, rfl⟩
  have HBM : Hid (mayB who = bm) := hid hbm
  obtain ⟨br, hbr⟩ : ∃ b, decide (Rolls roles) = b := ⟨_, rfl⟩
  have HBR := hid hbr
  have HM := hid (HMY.out w1)
  have HR := hid (HRL.out w1 HB1.out)
  rw [hbm] at HM
  rw [hbr] at HR
  clear hbm hbr
  go_enter Tryz.func11, Tryz.ntmps11
  go_upto_region 1 with fail
  rw [← HW1.out]
  go_wp2_with fail
  refine HM.out.mono ?_
  rintro er w2 ⟨rfl, hw⟩
  have hw2 : w1 = w2 := hw
  subst hw2
  clear hw
  go_wp2_with fail
  refine HR.out.mono ?_
  rintro er w2 ⟨rfl, b2⟩
  have HX2 := hid (HX1.out.below b2)
  have HB2 := hid (HB1.out.trans (b2.mono HB1.out.size))
  clear b2 c0 c1 c2 c3 c4 c5 c6 c7 c8 g0 g1 g2 g3 g4 g5 g6 g7
  obtain ⟨c0, c1, c2, c3, c4, c5, c6, c7, c8⟩ := HX2.out.all
  simp only at c0 c1 c2 c3 c4 c5 c6 c7 c8
  cases bm
  · have HE := hid (HNO.out (fun h => by have h1 := h.who; simp only at h1; rw [HBM.out] at h1; cases h1))
    go_wp2_with fail
    go_ret
    exact ⟨by rw [HE.out]; rfl, HB2.out⟩
  cases br
  · have HE := hid (HNO.out (fun h => of_decide_eq_false HBR.out h.roles))
    go_wp2_with fail
    go_ret
    exact ⟨by rw [HE.out]; rfl, HB2.out⟩
  by_cases k0 : rn = 0
  · have HE := hid (HNO.out (fun h => by have h1 := h.some_; simp only at h1; exact h1 (List.eq_nil_of_length_eq_zero (by rw [HL.out.1]; assumption))))
    have q0 : ((rn : Int) == 0) = true := by simpa using k0
    go_wp2_with fail
    go_ret
    exact ⟨by rw [HE.out]; rfl, HB2.out⟩
  have q0 : ((rn : Int) == 0) = false := beq_eq_false_iff_ne.2 (by omega)
  by_cases k1 : 64 < sn
  · have HE := hid (HNO.out (fun h => by have h1 := h.sl; simp only at h1; have h2 := HL.out.2.1; omega))
    have q1 : (64 : Int) < (sn : Int) := by omega
    go_wp2_with fail
    go_ret
    exact ⟨by rw [HE.out]; rfl, HB2.out⟩
  have q1 : ¬ (64 : Int) < (sn : Int) := by omega
  by_cases k2 : 6 < cn
  · have HE := hid (HNO.out (fun h => by have h1 := h.cl; simp only at h1; have h2 := HL.out.2.2.1; omega))
    have q2 : (6 : Int) < (cn : Int) := by omega
    go_wp2_with fail
    go_ret
    exact ⟨by rw [HE.out]; rfl, HB2.out⟩
  have q2 : ¬ (6 : Int) < (cn : Int) := by omega
  by_cases k3 : ¬ tn = 32
  · have HE := hid (HNO.out (fun h => by have h1 := h.tl; simp only at h1; have h2 := HL.out.2.2.2; omega))
    have q3 : ((tn : Int) == 32) = false := beq_eq_false_iff_ne.2 (by omega)
    have q4 : ((tn : Int) != 32) = true := by rw [bne, q3]; rfl
    go_wp2_with fail
    go_ret
    exact ⟨by rw [HE.out]; rfl, HB2.out⟩
  have q3 : tn = 32 := by omega
  subst q3
  clear c0 c1 c2 c3 c4 c5 c6 c7 c8
  obtain ⟨c0, c1, c2, c3, c4, c5, c6, c7, c8⟩ := HX2.out.all
  simp only at c0 c1 c2 c3 c4 c5 c6 c7 c8
  go_wp2_with fail
  go_loopw [5] (fun i wr => ∃ k : Nat, i = .int .i64 (k : Int) ∧ k ≤ sn ∧ Hid (Ids (sup.take k)) ∧ Hid (Below w2.heap.size w2 wr)) (fun i _ => sn - (intOf i).toNat)
  case atStart => exact ⟨0, rfl, Nat.zero_le _, hid Ids.nil, hid (Below.refl _ _)⟩
  case round =>
    obtain ⟨wj, hwj⟩ : ∃ y, y = wr := ⟨_, rfl⟩
    subst hwj
    obtain ⟨k, rfl, hk, HID, HJ⟩ := hrel
    have hk00 : (0 : Int) ≤ (k : Int) := Int.natCast_nonneg _
    have HXJ := hid (HX2.out.below HJ.out)
    have HBJ := hid (HB2.out.trans (HJ.out.mono HB2.out.size))
    clear c0 c1 c2 c3 c4 c5 c6 c7 c8
    obtain ⟨c0, c1, c2, c3, c4, c5, c6, c7, c8⟩ := HXJ.out.all
    simp only at c0 c1 c2 c3 c4 c5 c6 c7 c8
    by_cases hlt : k < sn
    · have hk1 : (k : Int) < (sn : Int) := by omega
      obtain ⟨r, hr⟩ : ∃ y, sup[k]? = some y := ⟨_, List.getElem?_eq_getElem (by rw [HL.out.2.1]; exact hlt)⟩
      have HR := hid hr
      have HT : Hid (sup.take (k + 1) = sup.take k ++ [r]) := hid (take_snoc_of hr)
      have HMR := hid (List.mem_of_getElem? hr)
      obtain ⟨ad, aj, hA, hb, haj, hbj, x0, x1⟩ := id_at2 (HSE.out wj HBJ.out) hr
      subst hA
      obtain ⟨q, s⟩ := r
      simp only at x0 x1
      have HNI : Hid (¬ (1 ≤ q ∧ q ≤ 16 ∧ 1 ≤ s ∧ s ≤ 4000) → decide (OkTok ⟨d, e, n, who, roles, til, sup, cavs, tag⟩) = false) := hid (fun hn => HNO.out (fun h => hn (h.sup.ok _ HMR.out)))
      obtain ⟨w4, hw4⟩ : ∃ y, y = wj.alloc (.cells #[.int .i64 q, .int .i64 s] 65) := ⟨_, rfl⟩
      have HW4 := hid hw4
      have HB4 : Hid (Below wj.heap.size wj w4) := hid (by rw [hw4]; exact (Below.refl _ _).alloc (Nat.le_refl _) _)
      have HBB4 := hid (HBJ.out.trans (HB4.out.mono HBJ.out.size))
      have HX4 := hid (HXJ.out.below HB4.out)
      have HY : Hid (w4.cell? ⟨wj.heap.size, 0, none⟩ = some (.int .i64 q) ∧ w4.cell? ⟨wj.heap.size, 1, none⟩ = some (.int .i64 s)) := hid (by
        have h4 : w4.heap[wj.heap.size]? = some (.cells #[.int .i64 q, .int .i64 s] 65) := by rw [hw4]; exact heap_alloc_new wj _
        constructor <;> simp [World.cell?, h4])
      clear hw4 hr hb hbj
      obtain ⟨y0, y1⟩ := HY.out
      obtain ⟨z0, z1, z2, z3, z4, z5, z6, z7, z8⟩ := HX4.out.all
      simp only at z0 z1 z2 z3 z4 z5 z6 z7 z8
      by_cases d1 : q < 1
      · have HE := hid (HNI.out (fun h => by omega))
        have hdd1 : decide (q < 1) = true := decide_eq_true d1
        go_upto_region 11 with fail
        rw [← HW4.out]
        go_quiet (fail)
        go_wp2_with fail
        go_ret
        exact ⟨by rw [HE.out]; rfl, below_drewN HBB4.out _⟩
      have hdd1 : decide (q < 1) = false := decide_eq_false d1
      by_cases d2 : 16 < q
      · have HE := hid (HNI.out (fun h => by omega))
        have hdd2 : decide (16 < q) = true := decide_eq_true d2
        go_upto_region 11 with fail
        rw [← HW4.out]
        go_quiet (fail)
        go_wp2_with fail
        go_ret
        exact ⟨by rw [HE.out]; rfl, below_drewN HBB4.out _⟩
      have hdd2 : decide (16 < q) = false := decide_eq_false d2
      by_cases d3 : s < 1
      · have HE := hid (HNI.out (fun h => by omega))
        have hdd3 : decide (s < 1) = true := decide_eq_true d3
        go_upto_region 11 with fail
        rw [← HW4.out]
        go_quiet (fail)
        go_wp2_with fail
        go_ret
        exact ⟨by rw [HE.out]; rfl, below_drewN HBB4.out _⟩
      have hdd3 : decide (s < 1) = false := decide_eq_false d3
      by_cases d4 : 4000 < s
      · have HE := hid (HNI.out (fun h => by omega))
        have hdd4 : decide (4000 < s) = true := decide_eq_true d4
        go_upto_region 11 with fail
        rw [← HW4.out]
        go_quiet (fail)
        go_wp2_with fail
        go_ret
        exact ⟨by rw [HE.out]; rfl, below_drewN HBB4.out _⟩
      have hdd4 : decide (4000 < s) = false := decide_eq_false d4
      have hok : 1 ≤ q ∧ q ≤ 16 ∧ 1 ≤ s ∧ s ≤ 4000 := ⟨by omega, by omega, by omega, by omega⟩
      have HOKI := hid hok
      rcases Nat.eq_zero_or_pos k with hk0 | hkp
      · subst hk0
        have HO : Hid (Ids (sup.take (0 + 1))) := hid (by
          rw [HT.out]
          exact HID.out.snoc HOKI.out (fun a ha => by simp at ha))
        have hg : decide ((0 : Int) < ((0 : Nat) : Int)) = false := by simp
        go_upto_region 11 with fail
        rw [← HW4.out]
        go_quiet (fail)
        go_wp2_with fail
        go_roundw
        case rel => exact ⟨0 + 1, by go_num, by omega, HO, hid (below_drewN (HJ.out.trans (HB4.out.mono HJ.out.size)) _)⟩
        case measure => simp [intOf]; omega
      · obtain ⟨j, rfl⟩ : ∃ j, k = j + 1 := ⟨k - 1, by omega⟩
        obtain ⟨p, hp⟩ : ∃ x, sup[j]? = some x := ⟨_, List.getElem?_eq_getElem (by rw [HL.out.2.1]; omega)⟩
        have HPP := hid hp
        obtain ⟨ad2, ap, hA2, hb2, hap, hbp, u0, u1⟩ := id_at2 (HSE.out w4 HBB4.out) hp
        obtain rfl := Option.some.inj hA2
        obtain ⟨pq, ps⟩ := p
        simp only at u0 u1
        have HBE := hid (fun W => refBefore_any pq ps q s W)
        obtain ⟨b2, hb2'⟩ : ∃ b, beforeI pq ps q s = b := ⟨_, rfl⟩
        have HB2' := hid hb2'
        rw [hb2'] at HBE
        have HKS : Hid (∀ W, Below w4.heap.size w4 W → (fun W => W.cell? ⟨w.heap.size, 6, none⟩ = some (.slice (some ad) sn sc) ∧ W.cell? ⟨wj.heap.size, 0, none⟩ = some (.int .i64 q) ∧ W.cell? ⟨wj.heap.size, 1, none⟩ = some (.int .i64 s) ∧ W.cell? ap = some (.int .i64 pq) ∧ W.cell? ⟨ap.block, ap.off + 1, none⟩ = some (.int .i64 ps)) W) := hid (fun W hW => by
          have h1 := HX4.out.lt
          have h2 : wj.heap.size < w4.heap.size := by rw [HW4.out]; simp
          have h3 : ap.block < w4.heap.size := by rw [hbp]; exact hb2
          exact ⟨(hW.cell h1).trans z6, (hW.cell h2).trans y0, (hW.cell h2).trans y1, (hW.cell h3).trans u0, (hW.cell (p := ⟨ap.block, ap.off + 1, none⟩) h3).trans u1⟩)
        have HQ2 : Hid (Below w4.heap.size w4 w4) := hid (Below.refl _ _)
        have e1 : (((j + 1 : Nat) : Int)) - 1 = (j : Int) := by omega
        have e2 : IntKind.i64.wrap ((((j + 1 : Nat) : Int)) - 1) = (j : Int) := by rw [e1, IntKind.wrap_i64]; omega
        have e3 : (j : Int) + 1 - 1 = (j : Int) := by omega
        have e4 : IntKind.i64.wrap ((j : Int) + 1 - 1) = (j : Int) := by rw [e3, IntKind.wrap_i64]; omega
        have hj0 : (0 : Int) ≤ (j : Int) := Int.natCast_nonneg _
        have e5 : IntKind.i64.wrap (j : Int) = (j : Int) := by rw [IntKind.wrap_i64]; omega
        have hj2 : (j : Int) + 1 < (sn : Int) := by omega
        have hj3 : (0 : Int) ≤ (j : Int) + 1 := by omega
        have hj1 : (j : Int) < (sn : Int) := by omega
        have hg0 : (0 : Int) < ((j + 1 : Nat) : Int) := by omega
        have hg : decide ((0 : Int) < ((j + 1 : Nat) : Int)) = true := decide_eq_true hg0
        clear hp hb2 hbp u0 u1 hb2'
        cases b2
        · have HE := hid (HNO.out (fun h => by
            have h2 := h.sup.up j _ _ HPP.out HR.out
            rw [HB2'.out] at h2
            cases h2))
          go_upto_region 11 with fail
          rw [← HW4.out]
          go_region_held3 (fun W => W.cell? ⟨w.heap.size, 6, none⟩ = some (.slice (some ad) sn sc) ∧ W.cell? ⟨wj.heap.size, 0, none⟩ = some (.int .i64 q) ∧ W.cell? ⟨wj.heap.size, 1, none⟩ = some (.int .i64 s) ∧ W.cell? ap = some (.int .i64 pq) ∧ W.cell? ⟨ap.block, ap.off + 1, none⟩ = some (.int .i64 ps))
            (first | exact HKS.out _ HQ2.out.drew | exact HKS.out _ HQ3.out)
            ((first | (go_at_call 35; (refine (HBE.out _).mono ?_); rintro er w5 ⟨rfl, q5⟩; have HQ3 : Hid (Below w4.heap.size w4 w5) := hid (HQ2.out.drew.trans (q5.mono HQ2.out.drew.size)); clear q5)))
          all_goals
            go_wp2_with fail
            go_ret
            exact ⟨by rw [HE.out]; rfl, HBB4.out.trans (HQ3.out.mono HBB4.out.size)⟩
        · have HO : Hid (Ids (sup.take (j + 1 + 1))) := hid (by
            rw [HT.out]
            refine HID.out.snoc HOKI.out (fun a ha => ?_)
            rw [List.length_take, HL.out.2.1, Nat.min_eq_left (by omega), Nat.add_sub_cancel, List.getElem?_take, if_pos (by omega), HPP.out] at ha
            injection ha with ha
            subst ha
            exact HB2'.out)
          go_upto_region 11 with fail
          rw [← HW4.out]
          go_region_held3 (fun W => W.cell? ⟨w.heap.size, 6, none⟩ = some (.slice (some ad) sn sc) ∧ W.cell? ⟨wj.heap.size, 0, none⟩ = some (.int .i64 q) ∧ W.cell? ⟨wj.heap.size, 1, none⟩ = some (.int .i64 s) ∧ W.cell? ap = some (.int .i64 pq) ∧ W.cell? ⟨ap.block, ap.off + 1, none⟩ = some (.int .i64 ps))
            (first | exact HKS.out _ HQ2.out.drew | exact HKS.out _ HQ3.out)
            ((first | (go_at_call 35; (refine (HBE.out _).mono ?_); rintro er w5 ⟨rfl, q5⟩; have HQ3 : Hid (Below w4.heap.size w4 w5) := hid (HQ2.out.drew.trans (q5.mono HQ2.out.drew.size)); clear q5)))
          all_goals
            go_wp2_with fail
            go_roundw
            case rel => exact ⟨j + 1 + 1, by go_num, by omega, HO, hid ((HJ.out.trans (HB4.out.mono HJ.out.size)).trans (HQ3.out.mono (HJ.out.trans (HB4.out.mono HJ.out.size)).size))⟩
            case measure => simp [intOf]; omega
    · obtain rfl : k = sn := by omega
      have HIDS : Hid (Ids sup) := hid (by have := HID.out; rwa [List.take_of_length_le (by rw [HL.out.2.1]; exact Nat.le_refl _)] at this)
      go_wp2_with fail
      go_loopw [7] (fun i wr => ∃ j : Nat, i = .int .i64 (j : Int) ∧ j ≤ cn ∧ Hid (∀ c ∈ cavs.take j, OkCav c) ∧ Hid (Below wj.heap.size wj wr)) (fun i _ => cn - (intOf i).toNat)
      case atStart => exact ⟨0, rfl, Nat.zero_le _, hid (by simp), hid (Below.refl _ _)⟩
      case round =>
        obtain ⟨wv, hwv⟩ : ∃ y, y = wr := ⟨_, rfl⟩
        subst hwv
        obtain ⟨j, rfl, hj, HOC, HV⟩ := hrel
        have hj00 : (0 : Int) ≤ (j : Int) := Int.natCast_nonneg _
        have HXV := hid (HXJ.out.below HV.out)
        have HBV := hid (HBJ.out.trans (HV.out.mono HBJ.out.size))
        clear c0 c1 c2 c3 c4 c5 c6 c7 c8
        obtain ⟨c0, c1, c2, c3, c4, c5, c6, c7, c8⟩ := HXV.out.all
        simp only at c0 c1 c2 c3 c4 c5 c6 c7 c8
        by_cases hlt2 : j < cn
        · have hj1 : (j : Int) < (cn : Int) := by omega
          obtain ⟨cv, hcv⟩ : ∃ y, cavs[j]? = some y := ⟨_, List.getElem?_eq_getElem (by rw [HL.out.2.2.1]; exact hlt2)⟩
          have HT : Hid (cavs.take (j + 1) = cavs.take j ++ [cv]) := hid (take_snoc_of hcv)
          have HMM := hid (List.mem_of_getElem? hcv)
          obtain ⟨ad, aj, ch, hA, hab, haj, hbj, hca, x0, x1, x2, x3⟩ := (HCE.out wv HBV.out).at hcv
          subst hA
          have HCV := hid (refCaveat_any hca (by rw [← hca.rl]; exact HCR.out cv HMM.out))
          obtain ⟨ck, cr, crn, crc, ct, ca⟩ := ch
          simp only at x0 x1 x2 x3 HCV
          obtain ⟨b, hb⟩ : ∃ b, decide (OkCav cv) = b := ⟨_, rfl⟩
          have HBB := hid hb
          rw [hb] at HCV
          clear hca hcv hab hbj hb
          go_wp2_with fail
          refine HCV.out.mono ?_
          rintro er w3 ⟨rfl, b3⟩
          have HV3 := hid (HV.out.trans (b3.mono HV.out.size))
          have HB3 := hid (HBV.out.trans (b3.mono HBV.out.size))
          clear b3
          cases b
          · have HE := hid (HNO.out (fun h => of_decide_eq_false HBB.out (h.cavs cv HMM.out)))
            go_wp2_with fail
            go_ret
            exact ⟨by rw [HE.out]; rfl, HB3.out⟩
          · have HOC2 : Hid (∀ c ∈ cavs.take (j + 1), OkCav c) := hid (by
              rw [HT.out]
              intro c hc
              rcases List.mem_append.1 hc with hc | hc
              · exact HOC.out c hc
              · rw [List.mem_singleton.1 hc]; exact of_decide_eq_true HBB.out)
            go_wp2_with fail
            go_roundw
            case rel => exact ⟨j + 1, by go_num, by omega, HOC2, HV3⟩
            case measure => simp [intOf]; omega
        · obtain rfl : j = cn := by omega
          have HOA : Hid (∀ c ∈ cavs, OkCav c) := hid (by have := HOC.out; rwa [List.take_of_length_le (by rw [HL.out.2.2.1]; exact Nat.le_refl _)] at this)
          have HE : Hid (decide (OkTok ⟨d, e, n, who, roles, til, sup, cavs, tag⟩) = true) := hid (decide_eq_true (by
            obtain ⟨p1, p2, p3, p4, p5, p6, p7, p8⟩ := HG.out
            obtain ⟨l1, l2, l3, l4⟩ := HL.out
            exact ⟨⟨p1, p2⟩, ⟨p3, p4⟩, ⟨p5, p6⟩, ⟨p7, p8⟩, HBM.out, of_decide_eq_true HBR.out, (fun hh => by simp only at hh; rw [hh] at l1; simp at l1; omega), (by simp only; omega), (by simp only; omega), l4, HIDS.out, HOA.out⟩))
          go_wp2_with fail
          go_ret
          exact ⟨by rw [HE.out]; rfl, HBV.out⟩
end Go.Proofs.YtaadmgbmaekicaaGreatDoor.Sh
