/-
  The document's own SameRoles, SameIDs, Same (of one token in two places), Tick, by contract.
-/
import Derived.Test.YtaadmgbmaekicaaGreatDoorJn27
set_option linter.unusedVariables false
set_option linter.unusedSimpArgs false
namespace Go.Proofs.YtaadmgbmaekicaaGreatDoor.Sh
open Go Go.RowKit

set_option linter.unusedSimpArgs false
set_option linter.unusedVariables false
set_option maxHeartbeats 4000000 in
theorem sameIds12_eq (A B : Option Addr) (l : List (Int × Int)) (n c d : Nat) (hn : l.length = n) (hm : n ≤ 1000000000) (w : World) (h : Els encI w w.heap.size A l) (h' : Els encI w w.heap.size B l) :
    Calls Tryz.prog 26 #[.slice A n c, .slice B n d] w fun e w' => e = .returned (.bool true) ∧ ∃ k, w' = w.drewN k := by
  have HN := hid hn
  clear hn
  go_enter Tryz.func26, Tryz.ntmps26
  go_wp2
  go_loopw [5] (fun i wr => ∃ k : Nat, k ≤ n ∧ i = .int .i64 k ∧ Hid (∃ q, wr = w.drewN q)) (fun i _ => n - (intOf i).toNat)
  case atStart => exact ⟨0, Nat.zero_le _, rfl, hid ⟨0, rfl⟩⟩
  case round =>
    obtain ⟨k, hk, rfl, hw⟩ := hrel
    have hwr : Below w.heap.size w wr := by obtain ⟨q, rfl⟩ := hw.out; exact below_drewN (Below.refl _ _) q
    by_cases hlt : k < n
    · obtain ⟨⟨i1, i2⟩, hx⟩ : ∃ x, l[k]? = some x := ⟨_, List.getElem?_eq_getElem (by rw [HN.out]; exact hlt)⟩
      obtain ⟨ad, aj, rfl, -, ea, -, a0, a1⟩ := id_at2 (h.below hwr) hx
      obtain ⟨bd, bj, rfl, -, eb, -, b0, b1⟩ := id_at2 (h'.below hwr) hx
      have hk0 : (0 : Int) ≤ (k : Int) := Int.natCast_nonneg _
      have hk1 : (k : Int) < (n : Int) := by omega
      clear hx h h' hwr
      go_wp2_with fail
      go_quiet (fail)
      go_wp2
      go_roundw
      case rel => exact ⟨k + 1, by omega, by go_num, by
        obtain ⟨q, rfl⟩ := hw.out
        exact hid ⟨q + nq, World.drewN_drewN _ _ _⟩⟩
      case measure => simp [intOf]; omega
    · obtain rfl : k = n := by omega
      go_wp2
      go_ret
      exact ⟨rfl, hw.out⟩
set_option maxHeartbeats 4000000 in
theorem sameRoles12_eq (A B : Option Addr) (l : List Ro) (n c d : Nat) (hn : l.length = n) (hm : n ≤ 1099511627776) (w : World) (h : Els encR w w.heap.size A l) (h' : Els encR w w.heap.size B l) :
    Calls Tryz.prog 25 #[.slice A n c, .slice B n d] w fun e w' => e = .returned (.bool true) ∧ ∃ k, w' = w.drewN k := by
  have HN := hid hn
  clear hn
  go_enter Tryz.func25, Tryz.ntmps25
  go_wp2
  go_loopw [5] (fun i wr => ∃ k : Nat, k ≤ n ∧ i = .int .i64 k ∧ Hid (∃ q, wr = w.drewN q)) (fun i _ => n - (intOf i).toNat)
  case atStart => exact ⟨0, Nat.zero_le _, rfl, hid ⟨0, rfl⟩⟩
  case round =>
    obtain ⟨k, hk, rfl, hw⟩ := hrel
    have hwr : Below w.heap.size w wr := by obtain ⟨q, rfl⟩ := hw.out; exact below_drewN (Below.refl _ _) q
    by_cases hlt : k < n
    · obtain ⟨⟨i1, i2⟩, hx⟩ : ∃ x, l[k]? = some x := ⟨_, List.getElem?_eq_getElem (by rw [HN.out]; exact hlt)⟩
      obtain ⟨ad, aj, rfl, -, ea, -, a0, a1⟩ := role_at2 (h.below hwr) hx
      obtain ⟨bd, bj, rfl, -, eb, -, b0, b1⟩ := role_at2 (h'.below hwr) hx
      have hk0 : (0 : Int) ≤ (k : Int) := Int.natCast_nonneg _
      have hk1 : (k : Int) < (n : Int) := by omega
      clear hx h h' hwr
      go_wp2_with fail
      go_quiet (fail)
      go_wp2
      go_roundw
      case rel => exact ⟨k + 1, by omega, by go_num, by
        obtain ⟨q, rfl⟩ := hw.out
        exact hid ⟨q + nq, World.drewN_drewN _ _ _⟩⟩
      case measure => simp [intOf]; omega
    · obtain rfl : k = n := by omega
      go_wp2
      go_ret
      exact ⟨rfl, hw.out⟩
/-- A tick. -/
def tickT (z : Int) : Int := if z < 0 then 0 else if 1099511627776 < z then 1099511627776 else z
set_option maxHeartbeats 16000000 in
set_option maxRecDepth 100000 in
theorem sameTok_eq {w : World} {Q R : Nat → Prop} {th uh : TH} {t : Tok} (a : TokAt w Q th t) (b : TokAt w R uh t) (h1 : t.roles.length ≤ 1000000) (h2 : t.sup.length ≤ 1000000) (h3 : t.tag.length ≤ 1000000) (h4 : ∀ c ∈ t.cavs, c.roles.length ≤ 1000000) :
    Calls Tryz.prog 9 #[.agg #[.int .i64 th.d, .int .i64 th.e, .int .i64 th.n, .string th.who, .slice th.rA th.rn th.rc, .int .i64 th.til, .slice th.sA th.sn th.sc, .slice th.cA th.cn th.cc, .slice th.tA th.tn th.tc], .agg #[.int .i64 uh.d, .int .i64 uh.e, .int .i64 uh.n, .string uh.who, .slice uh.rA uh.rn uh.rc, .int .i64 uh.til, .slice uh.sA uh.sn uh.sc, .slice uh.cA uh.cn uh.cc, .slice uh.tA uh.tn uh.tc]] w fun e w' => e = .returned (.bool true) ∧ Below w.heap.size w w' := by
  have HA := hid (fun W (hW : Below w.heap.size w W) => a.below hW)
  have HB := hid (fun W (hW : Below w.heap.size w W) => b.below hW)
  have H4 := hid h4
  have r1 := a.rl
  have r2 := b.rl
  have s1 := a.sl
  have s2 := b.sl
  have k1 := a.cl
  have k2 := b.cl
  have t1 := a.tl
  have t2 := b.tl
  have e1 := a.d
  have e2 := b.d
  have e3 := a.e
  have e4 := b.e
  have e5 := a.n
  have e6 := b.n
  have e7 := a.who
  have e8 := b.who
  have e9 := a.til
  have e10 := b.til
  have hcm : th.cn ≤ 9223372036854775807 := Nat.le_trans a.cc a.cm
  obtain ⟨d, e, m, who, rA, rn, rc, til, sA, sn, sc, cA, cn, cc, tA, tn, tc⟩ := th
  obtain ⟨d', e', m', who', rA', rn', rc', til', sA', sn', sc', cA', cn', cc', tA', tn', tc'⟩ := uh
  simp only at HA HB r1 r2 s1 s2 k1 k2 t1 t2 e1 e2 e3 e4 e5 e6 e7 e8 e9 e10 hcm ⊢
  obtain rfl : d = d' := e1.trans e2.symm
  obtain rfl : e = e' := e3.trans e4.symm
  obtain rfl : m = m' := e5.trans e6.symm
  obtain rfl : who = who' := e7.trans e8.symm
  obtain rfl : til = til' := e9.trans e10.symm
  obtain rfl : rn = rn' := r1.symm.trans r2
  obtain rfl : sn = sn' := s1.symm.trans s2
  obtain rfl : cn = cn' := k1.symm.trans k2
  obtain rfl : tn = tn' := t1.symm.trans t2
  have HL := hid (And.intro r1 (And.intro s1 (And.intro k1 t1)))
  obtain ⟨w1, hw1⟩ : ∃ y, y = (w.alloc (.cells #[.int .i64 d, .int .i64 e, .int .i64 m, .string who, .slice rA rn rc, .int .i64 til, .slice sA sn sc, .slice cA cn cc, .slice tA tn tc] 27)).alloc (.cells #[.int .i64 d, .int .i64 e, .int .i64 m, .string who, .slice rA' rn rc', .int .i64 til, .slice sA' sn sc', .slice cA' cn cc', .slice tA' tn tc'] 27) := ⟨_, rfl⟩
  have HB1 : Hid (Below w.heap.size w w1) := hid (by rw [hw1]; exact ((Below.refl _ _).alloc (Nat.le_refl _) _).alloc (by simp) _)
  have HX1 : Hid (ThAt w1 w.heap.size ⟨d, e, m, who, rA, rn, rc, til, sA, sn, sc, cA, cn, cc, tA, tn, tc⟩) := hid (by
    rw [hw1]
    exact (ThAt.new w ⟨d, e, m, who, rA, rn, rc, til, sA, sn, sc, cA, cn, cc, tA, tn, tc⟩).below ((Below.refl _ _).alloc (Nat.le_refl _) _))
  have HZ1 : Hid (ThAt w1 (w.heap.size + 1) ⟨d, e, m, who, rA', rn, rc', til, sA', sn, sc', cA', cn, cc', tA', tn, tc'⟩) := hid (by
    rw [hw1]
    have q := ThAt.new (w.alloc (.cells #[.int .i64 d, .int .i64 e, .int .i64 m, .string who, .slice rA rn rc, .int .i64 til, .slice sA sn sc, .slice cA cn cc, .slice tA tn tc] 27)) ⟨d, e, m, who, rA', rn, rc', til, sA', sn, sc', cA', cn, cc', tA', tn, tc'⟩
    rw [World.size_alloc] at q
    exact q)
  have HW1 := hid hw1
  have HR1 := hid (sameRoles12_eq rA rA' t.roles rn rc rc' r1 (by omega) w1 ((HA.out w1 HB1.out).re.els) ((HB.out w1 HB1.out).re.els))
  try simp only at HR1
  obtain ⟨c0, c1, c2, c3, c4, c5, c6, c7, c8⟩ := HX1.out.all
  obtain ⟨z0, z1, z2, z3, z4, z5, z6, z7, z8⟩ := HZ1.out.all
  simp only at c0 c1 c2 c3 c4 c5 c6 c7 c8 z0 z1 z2 z3 z4 z5 z6 z7 z8
  clear a b r1 r2 s1 s2 k1 k2 t1 t2 e1 e2 e3 e4 e5 e6 e7 e8 e9 e10 h4 hw1
  go_enter Tryz.func9, Tryz.ntmps9
  go_upto_region 1 with fail
  rw [← HW1.out]
  go_wp2_with fail
  refine HR1.out.mono ?_
  rintro er w2 ⟨rfl, hq⟩
  have b2 : Below w1.heap.size w1 w2 := by obtain ⟨q, rfl⟩ := hq; exact below_drewN (Below.refl _ _) q
  have HX2 := hid (HX1.out.below b2)
  have HZ2 := hid (HZ1.out.below b2)
  have HB2 := hid (HB1.out.trans (b2.mono HB1.out.size))
  have HS2 := hid (sameIds12_eq sA sA' t.sup sn sc sc' HL.out.2.1 (by have := HL.out.2.1; omega) w2 ((HA.out w2 HB2.out).se.els) ((HB.out w2 HB2.out).se.els))
  try simp only at HS2
  clear b2 hq c0 c1 c2 c3 c4 c5 c6 c7 c8 z0 z1 z2 z3 z4 z5 z6 z7 z8
  obtain ⟨c0, c1, c2, c3, c4, c5, c6, c7, c8⟩ := HX2.out.all
  obtain ⟨z0, z1, z2, z3, z4, z5, z6, z7, z8⟩ := HZ2.out.all
  simp only at c0 c1 c2 c3 c4 c5 c6 c7 c8 z0 z1 z2 z3 z4 z5 z6 z7 z8
  go_wp2_with fail
  refine HS2.out.mono ?_
  rintro er w3 ⟨rfl, hq⟩
  have b3 : Below w2.heap.size w2 w3 := by obtain ⟨q, rfl⟩ := hq; exact below_drewN (Below.refl _ _) q
  have HX3 := hid (HX2.out.below b3)
  have HZ3 := hid (HZ2.out.below b3)
  have HB3 := hid (HB2.out.trans (b3.mono HB2.out.size))
  have HT3 := hid (same_eq tA tA' t.tag tn tc tc' HL.out.2.2.2 (by have := HL.out.2.2.2; omega) w3 ((HA.out w3 HB3.out).te.byt) ((HB.out w3 HB3.out).te.byt))
  try simp only at HT3
  clear b3 hq c0 c1 c2 c3 c4 c5 c6 c7 c8 z0 z1 z2 z3 z4 z5 z6 z7 z8
  obtain ⟨c0, c1, c2, c3, c4, c5, c6, c7, c8⟩ := HX3.out.all
  obtain ⟨z0, z1, z2, z3, z4, z5, z6, z7, z8⟩ := HZ3.out.all
  simp only at c0 c1 c2 c3 c4 c5 c6 c7 c8 z0 z1 z2 z3 z4 z5 z6 z7 z8
  go_wp2_with fail
  refine HT3.out.mono ?_
  rintro er w4 ⟨rfl, hq⟩
  have b4 : Below w3.heap.size w3 w4 := by first | exact hq | (obtain ⟨q, rfl⟩ := hq; exact below_drewN (Below.refl _ _) q)
  have HX4 := hid (HX3.out.below b4)
  have HZ4 := hid (HZ3.out.below b4)
  have HB4 := hid (HB3.out.trans (b4.mono HB3.out.size))
  clear b4 hq c0 c1 c2 c3 c4 c5 c6 c7 c8 z0 z1 z2 z3 z4 z5 z6 z7 z8 HX1 HZ1 HX2 HZ2 HX3 HZ3 HB1 HB2 HB3
  obtain ⟨c0, c1, c2, c3, c4, c5, c6, c7, c8⟩ := HX4.out.all
  obtain ⟨z0, z1, z2, z3, z4, z5, z6, z7, z8⟩ := HZ4.out.all
  simp only at c0 c1 c2 c3 c4 c5 c6 c7 c8 z0 z1 z2 z3 z4 z5 z6 z7 z8
  go_wp2_with fail
  go_loopw [8] (fun i wr => ∃ k : Nat, k ≤ cn ∧ i = .int .i64 (k : Int) ∧ Hid (ThAt wr w.heap.size ⟨d, e, m, who, rA, rn, rc, til, sA, sn, sc, cA, cn, cc, tA, tn, tc⟩) ∧ Hid (ThAt wr (w.heap.size + 1) ⟨d, e, m, who, rA', rn, rc', til, sA', sn, sc', cA', cn, cc', tA', tn, tc'⟩) ∧ Hid (Below w.heap.size w wr)) (fun i _ => cn - (intOf i).toNat)
  case atStart => exact ⟨0, Nat.zero_le _, rfl, HX4, HZ4, HB4⟩
  case round =>
    clear HX4 HZ4 HB4 c0 c1 c2 c3 c4 c5 c6 c7 c8 z0 z1 z2 z3 z4 z5 z6 z7 z8
    obtain ⟨wj, hwj⟩ : ∃ x, x = wr := ⟨_, rfl⟩
    subst hwj
    obtain ⟨k, hk, rfl, HXJ, HZJ, HBJ⟩ := hrel
    have hk0 : (0 : Int) ≤ (k : Int) := Int.natCast_nonneg _
    obtain ⟨c0, c1, c2, c3, c4, c5, c6, c7, c8⟩ := HXJ.out.all
    obtain ⟨z0, z1, z2, z3, z4, z5, z6, z7, z8⟩ := HZJ.out.all
    simp only at c0 c1 c2 c3 c4 c5 c6 c7 c8 z0 z1 z2 z3 z4 z5 z6 z7 z8
    by_cases hlt : k < cn
    · have hk1 : (k : Int) < (cn : Int) := by omega
      obtain ⟨cv, hx⟩ : ∃ r, t.cavs[k]? = some r := ⟨_, List.getElem?_eq_getElem (by rw [HL.out.2.2.1]; exact hlt)⟩
      obtain ⟨ad, aj, ch, hA, hab, haj, hbj, hca, x0, x1, x2, x3⟩ := (HA.out wj HBJ.out).ce.at hx
      obtain ⟨bd, bj, dh, hA', hab', haj', hbj', hcb, y0, y1, y2, y3⟩ := (HB.out wj HBJ.out).ce.at hx
      simp only at hA hA'
      subst hA
      subst hA'
      have hcr := H4.out cv (List.mem_of_getElem? hx)
      have q1 := hca.kind
      have q2 := hcb.kind
      have q3 := hca.til
      have q4 := hcb.til
      have q5 := hca.aud
      have q6 := hcb.aud
      have q7 := hca.rl
      have q8 := hcb.rl
      have HCA := hid hca.re
      have HCB := hid hcb.re
      obtain ⟨kd, qA, qn, qc, tl, au⟩ := ch
      obtain ⟨kd', qA', qn', qc', tl', au'⟩ := dh
      simp only at x0 x1 x2 x3 y0 y1 y2 y3 q1 q2 q3 q4 q5 q6 q7 q8 HCA HCB
      obtain rfl : kd = kd' := q1.trans q2.symm
      obtain rfl : tl = tl' := q3.trans q4.symm
      obtain rfl : au = au' := q5.trans q6.symm
      obtain rfl : qn = qn' := q7.symm.trans q8
      obtain ⟨u1, hu1⟩ : ∃ y, y = wj.alloc (.cells #[.int .i64 kd, .slice qA qn qc, .int .i64 tl, .string au] 51) := ⟨_, rfl⟩
      obtain ⟨u2, hu2⟩ : ∃ y, y = u1.alloc (.cells #[.int .i64 kd, .slice qA' qn qc', .int .i64 tl, .string au] 51) := ⟨_, rfl⟩
      have hbu1 : Below wj.heap.size wj u1 := by rw [hu1]; exact (Below.refl _ _).alloc (Nat.le_refl _) _
      have hbu2 : Below u1.heap.size u1 u2 := by rw [hu2]; exact (Below.refl _ _).alloc (Nat.le_refl _) _
      have HB12 := hid (hbu1.trans (hbu2.mono hbu1.size))
      have HC1 : Hid (ChAt u1 wj.heap.size ⟨kd, qA, qn, qc, tl, au⟩) := hid (by rw [hu1]; exact ChAt.new wj ⟨kd, qA, qn, qc, tl, au⟩)
      have HC2 : Hid (ChAt u2 u1.heap.size ⟨kd, qA', qn, qc', tl, au⟩) := hid (by rw [hu2]; exact ChAt.new u1 ⟨kd, qA', qn, qc', tl, au⟩)
      have HC12 := hid (HC1.out.below hbu2)
      have HX1' := hid (HXJ.out.below hbu1)
      have HZ1' := hid (HZJ.out.below hbu1)
      have y0' := (hbu1.cell (p := bj) (by rw [hbj']; exact hab')).trans y0
      have y1' := (hbu1.cell (p := ⟨bj.block, bj.off + 1, none⟩) (by rw [hbj']; exact hab')).trans y1
      have y2' := (hbu1.cell (p := ⟨bj.block, bj.off + 2, none⟩) (by rw [hbj']; exact hab')).trans y2
      have y3' := (hbu1.cell (p := ⟨bj.block, bj.off + 3, none⟩) (by rw [hbj']; exact hab')).trans y3
      have HRR := hid (sameRoles12_eq qA qA' cv.roles qn qc qc' q7 (by omega) u2 ((HCA.out.below HB12.out).els) ((HCB.out.below HB12.out).els))
      have HU1 := hid hu1
      have HU2 := hid hu2
      have hajj : ad.add (k * 4) = aj := haj
      have hajj' : bd.add (k * 4) = bj := haj'
      clear hx hab hbj hab' hbj' hca hcb haj haj' hu1 hu2 hbu1 hbu2 q1 q2 q3 q4 q5 q6 q7 q8 hcr
      go_upto_region 10 with fail
      rw [← HU1.out]
      clear c0 c1 c2 c3 c4 c5 c6 c7 c8 z0 z1 z2 z3 z4 z5 z6 z7 z8 x0 x1 x2 x3 y0 y1 y2 y3
      obtain ⟨z0, z1, z2, z3, z4, z5, z6, z7, z8⟩ := HZ1'.out.all
      simp only at z0 z1 z2 z3 z4 z5 z6 z7 z8
      go_upto_region 11 with fail
      rw [← HU2.out]
      clear z0 z1 z2 z3 z4 z5 z6 z7 z8 y0' y1' y2' y3'
      obtain ⟨v0, v1, v2, v3⟩ := HC12.out.all
      obtain ⟨u0, u1', u2', u3⟩ := HC2.out.all
      simp only at v0 v1 v2 v3 u0 u1' u2' u3
      go_wp2_with fail
      refine HRR.out.mono ?_
      rintro er w9 ⟨rfl, hq⟩
      have b9 : Below u2.heap.size u2 w9 := by obtain ⟨q, rfl⟩ := hq; exact below_drewN (Below.refl _ _) q
      have HC19 := hid (HC12.out.below b9)
      have HC29 := hid (HC2.out.below b9)
      have HBJ9 := hid (HB12.out.trans (b9.mono HB12.out.size))
      clear hq b9 v0 v1 v2 v3 u0 u1' u2' u3
      obtain ⟨v0, v1, v2, v3⟩ := HC19.out.all
      obtain ⟨u0, u1', u2', u3⟩ := HC29.out.all
      simp only at v0 v1 v2 v3 u0 u1' u2' u3
      go_wp2_with fail
      go_roundw
      case rel => exact ⟨k + 1, by omega, by go_num, hid (HXJ.out.below HBJ9.out), hid (HZJ.out.below HBJ9.out), hid (HBJ.out.trans (HBJ9.out.mono HBJ.out.size))⟩
      case measure => simp [intOf]; omega
    · obtain rfl : k = cn := by omega
      go_wp2_with fail
      go_ret
      exact ⟨rfl, HBJ.out⟩
end Go.Proofs.YtaadmgbmaekicaaGreatDoor.Sh
