/-
  The program's own Roles, Until and Allows of a token, by contract. Written by mk_tkpgf.py.
-/
import Derived.Test.YtaadmgbmaekicaaGreatDoorJn35
set_option linter.unusedVariables false
set_option linter.unusedSimpArgs false
namespace Go.Proofs.YtaadmgbmaekicaaGreatDoor.Sh
open Go Go.RowKit

set_option linter.unusedSimpArgs false
set_option linter.unusedVariables false
/-- A caveat in a box: its cells. -/
theorem boxC (w : World) (x : CH) : (w.alloc (.cells #[.int .i64 x.kind, .slice x.rA x.rn x.rc, .int .i64 x.til, .string x.aud] 51)).cell? ⟨w.heap.size, 0, none⟩ = some (.int .i64 x.kind) ∧
    (w.alloc (.cells #[.int .i64 x.kind, .slice x.rA x.rn x.rc, .int .i64 x.til, .string x.aud] 51)).cell? ⟨w.heap.size, 1, none⟩ = some (.slice x.rA x.rn x.rc) ∧
    (w.alloc (.cells #[.int .i64 x.kind, .slice x.rA x.rn x.rc, .int .i64 x.til, .string x.aud] 51)).cell? ⟨w.heap.size, 2, none⟩ = some (.int .i64 x.til) ∧
    (w.alloc (.cells #[.int .i64 x.kind, .slice x.rA x.rn x.rc, .int .i64 x.til, .string x.aud] 51)).cell? ⟨w.heap.size, 3, none⟩ = some (.string x.aud) := (ChAt.new w x).all
open Classical in
/-- Does a caveat strike a role? -/
noncomputable def strikes (r : Ro) (c : Cav) : Bool := decide (c.kind = 1 ∧ r ∉ c.roles)
open Classical in
theorem pRoles11_any {w : World} {Q : Nat → Prop} {x : CH} {c : Cav} (a : CavAt w Q x c) (hm : c.roles.length ≤ 1000000000) (g : Nat) (o s : ByteArray) (hr : RoleAt w g o s) :
    Calls Tryz.prog 81 #[.agg (encC.cells x).toArray, .pointer (some ⟨g, 0, none⟩)] w fun e w' => e = .returned (.bool (strikes (o, s) c)) ∧ Below w.heap.size w w' := by
  obtain ⟨kd, rA, rn, rc, til, aud⟩ := x
  obtain ⟨kd', roles, til', aud'⟩ := c
  obtain rfl : kd = kd' := a.kind
  have hrl := a.rl
  have HRE := hid (fun W (hW : Below w.heap.size w W) => (a.re.els.below hW).more hW.size)
  simp only [encC, CH.cells] at hrl hm HRE ⊢
  obtain ⟨w1, hw1⟩ : ∃ y, y = w.alloc (.cells #[.int .i64 kd, .slice rA rn rc, .int .i64 til, .string aud] 51) := ⟨_, rfl⟩
  have HB1 : Hid (Below w.heap.size w w1) := hid (by rw [hw1]; exact (Below.refl _ _).alloc (Nat.le_refl _) _)
  have HX1 : Hid (ChAt w1 w.heap.size ⟨kd, rA, rn, rc, til, aud⟩) := hid (by rw [hw1]; exact ChAt.new w ⟨kd, rA, rn, rc, til, aud⟩)
  have HR1 := hid (hr.kept HB1.out)
  have HW1 := hid hw1
  have HC := hid (conR_any rA roles rn rc hrl (by omega) o s w1 (HRE.out w1 HB1.out))
  obtain ⟨c0, c1, c2, c3⟩ := HX1.out.all
  simp only at c0 c1 c2 c3
  have d0 := HR1.out.c0
  have d1 := HR1.out.c1
  clear a hw1 hr hrl
  by_cases hk : kd = 1
  · subst hk
    have HE : Hid (strikes (o, s) ⟨1, roles, til', aud'⟩ = !decide ((o, s) ∈ roles)) := hid (by unfold strikes; simp)
    obtain ⟨b, hb⟩ : ∃ b, decide ((o, s) ∈ roles) = b := ⟨_, rfl⟩
    rw [hb] at HC HE
    clear hb
    go_enter Tryz.func81, Tryz.ntmps81
    go_upto_region 1 with fail
    rw [← HW1.out]
    go_wp2_with fail
    refine HC.out.mono ?_
    rintro er w2 ⟨rfl, b2⟩
    have HB2 := hid (HB1.out.trans (b2.mono HB1.out.size))
    cases b
    all_goals
      go_wp2_with fail
      go_ret
      exact ⟨by rw [HE.out]; rfl, HB2.out⟩
  · have hk1 : (kd == 1) = false := beq_eq_false_iff_ne.2 hk
    have HE : Hid (strikes (o, s) ⟨kd, roles, til', aud'⟩ = false) := hid (by unfold strikes; simp [hk])
    go_enter Tryz.func81, Tryz.ntmps81
    go_upto_region 1 with fail
    rw [← HW1.out]
    go_wp2_with fail
    go_ret
    exact ⟨by rw [HE.out]; rfl, HB1.out⟩
open Classical in
theorem keeps_not (cs : List Cav) (r : Ro) : anyN (atN (strikes r) cs) cs.length = !keepsR cs r := by
  rw [Bool.eq_iff_iff, anyN_iff, Bool.not_eq_true', ← Bool.not_eq_true, keepsR_iff]
  constructor
  · rintro ⟨j, hj, hp⟩ h
    rw [atN_at (List.getElem?_eq_getElem hj)] at hp
    unfold strikes at hp
    have h2 := of_decide_eq_true hp
    exact h2.2 (h _ (List.getElem_mem hj) h2.1)
  · intro h
    refine Classical.byContradiction fun hn => h fun c hc hk => ?_
    refine Classical.byContradiction fun hr => hn ?_
    obtain ⟨j, hj, rfl⟩ := List.getElem_of_mem hc
    exact ⟨j, hj, by rw [atN_at (List.getElem?_eq_getElem hj)]; unfold strikes; exact decide_eq_true ⟨hk, hr⟩⟩
set_option maxHeartbeats 8000000 in
theorem pRoles1_any {w : World} {Q : Nat → Prop} {th : TH} {t : Tok} (a : TokAt w Q th t) (hf : FewTok t) (gt : Nat) (hx : ThAt w gt th) (o s : ByteArray) :
    Calls Tryz.prog 79 #[.agg #[.string o, .string s], .pointer (some ⟨gt, 0, none⟩)] w fun e w' => e = .returned (.bool (!keepsR t.cavs (o, s))) ∧ Below w.heap.size w w' := by
  have hmf : ∀ (fn : Fn) (first cap : Array Value) (w : World), (Instr.makeFunc fn first cap).run Tryz.prog w = .ok (.func fn first cap) w := fun _ _ _ _ => rfl
  have HE := hid (keeps_not t.cavs (o, s))
  obtain ⟨w1, hw1⟩ : ∃ y, y = w.alloc (.cells #[.string o, .string s] 69) := ⟨_, rfl⟩
  have HR1 : Hid (RoleAt w1 w.heap.size o s) := hid (by rw [hw1]; exact RoleAt.new w o s)
  have hb1 : Below w.heap.size w w1 := by rw [hw1]; exact below_box w o s
  have HB1 := hid hb1
  have HX1 := hid (hx.below hb1)
  have a1 := a.below hb1
  obtain ⟨hs, h1, h2, h3⟩ := a1.ce
  have HC := hid (pconC2_any w.heap.size th.cA hs th.cn th.cc (h1.trans a.cl) (by have := a.cl; have := hf.n; omega) w1 h2.els (atN (strikes (o, s)) t.cavs) (fun j x hj W hW => by
    obtain ⟨cv, hcv⟩ : ∃ y, t.cavs[j]? = some y := ⟨_, List.getElem?_eq_getElem (by rw [← h1]; exact (List.getElem?_eq_some_iff.1 hj).1)⟩
    rw [atN_at hcv]
    exact pRoles11_any ((h3 j x cv hj hcv).kept (fun b _ hl => hW.block b hl) hW.size) (by have := hf.c cv (List.mem_of_getElem? hcv); omega) w.heap.size o s (HR1.out.kept hW)))
  rw [a.cl] at HE
  rw [HE.out] at HC
  have HW1 := hid hw1
  obtain ⟨b, hb⟩ : ∃ b, (!keepsR t.cavs (o, s)) = b := ⟨_, rfl⟩
  rw [hb] at HC ⊢
  obtain ⟨c0, c1, c2, c3, c4, c5, c6, c7, c8⟩ := HX1.out.all
  clear a hf hx a1 h1 h2 h3 hw1 hb1 HE hb
  obtain ⟨d, e, m, who, rA, rn, rc, til, sA, sn, sc, cA, cn, cc, tA, tn, tc⟩ := th
  simp only at c0 c1 c2 c3 c4 c5 c6 c7 c8 HC
  go_enter Tryz.func79, Tryz.ntmps79
  go_upto_region 1 with fail
  rw [← HW1.out]
  go_wp2_with fail
  refine HC.out.mono ?_
  rintro er w2 ⟨rfl, b2⟩
  have HB2 := hid (HB1.out.trans (b2.mono HB1.out.size))
  go_wp2_with fail
  go_ret
  exact ⟨rfl, HB2.out⟩
theorem Own.openN {w : World} {B n c : Nat} {A : Option Addr} {l : List Ro} (h : Own (E := encR) w B 69 (.slice A n c) l) (hn : l.length = n) : OpN w 69 2 B w.heap.size A n := fun h0 => by
  obtain ⟨g, tl, e, hb, row, hc, hm, hs⟩ := h.rowE hn h0
  exact ⟨g, e, hb, row.lt, _, row, by rw [List.size_toArray, List.length_append, ev_length, hn]; show n * 2 ≤ n * 2 + _; omega⟩
set_option maxHeartbeats 8000000 in
theorem pRoles12_any {w : World} {Q : Nat → Prop} {th : TH} {t : Tok} (a : TokAt w Q th t) (hf : FewTok t) :
    Calls Tryz.prog 38 #[.agg #[.int .i64 th.d, .int .i64 th.e, .int .i64 th.n, .string th.who, .slice th.rA th.rn th.rc, .int .i64 th.til, .slice th.sA th.sn th.sc, .slice th.cA th.cn th.cc, .slice th.tA th.tn th.tc]] w fun e w' => ∃ (A : Option Addr) (n c : Nat), e = .returned (.slice A n c) ∧ n ≤ c ∧ c ≤ 9223372036854775807 ∧ (rolesT t).length = n ∧ ElsQ encR w' (fun b => w.heap.size ≤ b) A (rolesT t) ∧ OpN w' 69 2 w.heap.size w'.heap.size A n ∧ Below w.heap.size w w' := by
  have hmf : ∀ (fn : Fn) (first cap : Array Value) (w : World), (Instr.makeFunc fn first cap).run Tryz.prog w = .ok (.func fn first cap) w := fun _ _ _ _ => rfl
  have HA := hid a
  have HF := hid hf
  have HRN : Hid (th.rn ≤ 6) := hid (by have := a.rl; have := hf.r; omega)
  have HRL := hid a.rl
  have HRE := hid a.re.els
  clear a hf
  obtain ⟨d, e, m, who, rA, rn, rc, til, sA, sn, sc, cA, cn, cc, tA, tn, tc⟩ := th
  simp only at HRN HRL HRE ⊢
  obtain ⟨w1, hw1⟩ : ∃ y, y = w.alloc (.cells #[.int .i64 d, .int .i64 e, .int .i64 m, .string who, .slice rA rn rc, .int .i64 til, .slice sA sn sc, .slice cA cn cc, .slice tA tn tc] 27) := ⟨_, rfl⟩
  have HB1 : Hid (Below w.heap.size w w1) := hid (by rw [hw1]; exact (Below.refl _ _).alloc (Nat.le_refl _) _)
  have HX1 : Hid (ThAt w1 w.heap.size ⟨d, e, m, who, rA, rn, rc, til, sA, sn, sc, cA, cn, cc, tA, tn, tc⟩) := hid (by rw [hw1]; exact ThAt.new w ⟨d, e, m, who, rA, rn, rc, til, sA, sn, sc, cA, cn, cc, tA, tn, tc⟩)
  have HW1 := hid hw1
  have HC := hid (cloneR_any rA t.roles rn rc HRL.out (by have := HRN.out; omega) w1 ((HRE.out.below HB1.out).more HB1.out.size))
  obtain ⟨c0, c1, c2, c3, c4, c5, c6, c7, c8⟩ := HX1.out.all
  simp only at c0 c1 c2 c3 c4 c5 c6 c7 c8
  clear hw1
  go_enter Tryz.func38, Tryz.ntmps38
  go_upto_region 1 with fail
  rw [← HW1.out]
  go_wp2_with fail
  refine HC.out.mono ?_
  rintro er w2 ⟨A2, c2', rfl, o2, b2⟩
  have HD := hid (pdel_any (wb := w1) (w := w2) w.heap.size w1.heap.size b2.size b2 (fun r => !keepsR t.cavs r)
    (fun x W hW => pRoles1_any (HA.out.below (HB1.out.trans (hW.mono HB1.out.size))) HF.out w.heap.size (HX1.out.below hW) x.1 x.2) A2 t.roles rn c2' HRL.out (by have := HRN.out; omega) o2)
  have HEQ : Hid (t.roles.filter (fun x => !(!keepsR t.cavs x)) = rolesT t) := hid (by unfold rolesT; simp)
  rw [HEQ.out] at HD
  clear o2 b2 c0 c1 c2 c3 c4 c5 c6 c7 c8
  go_wp2_with fail
  refine HD.out.mono ?_
  rintro er w3 ⟨k, rfl, hk, o3, b3⟩
  have HK := hid hk
  have HO3 := hid o3
  have HB3 := hid b3
  clear hk o3 b3
  go_wp2_with fail
  go_ret
  obtain ⟨A9, c9, e9, h9, h8, h7⟩ := HO3.out.els
  simp only [Value.slice.injEq] at e9
  obtain ⟨rfl, e8, rfl⟩ := e9
  exact ⟨A2, k, c2', rfl, by rw [← HK.out]; exact h9, h8, HK.out, ElsQ.of_own HO3.out (fun b hb => Nat.le_trans HB1.out.size hb), fun h0 => by
    obtain ⟨g, e1, e2, e3⟩ := HO3.out.openN HK.out h0
    exact ⟨g, e1, Nat.le_trans HB1.out.size e2, e3⟩, HB1.out.trans (HB3.out.mono HB1.out.size)⟩
theorem tk_tickT (z : Int) : tk z = tickT z := rfl
set_option maxHeartbeats 8000000 in
theorem pUntil12_any {w : World} {Q : Nat → Prop} {th : TH} {t : Tok} (a : TokAt w Q th t) (hf : FewTok t) :
    Calls Tryz.prog 40 #[.agg #[.int .i64 th.d, .int .i64 th.e, .int .i64 th.n, .string th.who, .slice th.rA th.rn th.rc, .int .i64 th.til, .slice th.sA th.sn th.sc, .slice th.cA th.cn th.cc, .slice th.tA th.tn th.tc]] w fun e w' => e = .returned (.int .i64 (untilT t)) ∧ Below w.heap.size w w' := by
  have HA := hid (fun W (hW : Below w.heap.size w W) => (a.below hW).ce)
  have HCL := hid a.cl
  have HC8 := hid hf.n
  have HU : Hid (untilT t = untilC (tickT th.til) t.cavs) := hid (by unfold untilT; rw [a.til])
  clear a hf
  obtain ⟨d, e, m, who, rA, rn, rc, til, sA, sn, sc, cA, cn, cc, tA, tn, tc⟩ := th
  simp only at HA HCL HU ⊢
  obtain ⟨w1, hw1⟩ : ∃ y, y = w.alloc (.cells #[.int .i64 d, .int .i64 e, .int .i64 m, .string who, .slice rA rn rc, .int .i64 til, .slice sA sn sc, .slice cA cn cc, .slice tA tn tc] 27) := ⟨_, rfl⟩
  have HB1 : Hid (Below w.heap.size w w1) := hid (by rw [hw1]; exact (Below.refl _ _).alloc (Nat.le_refl _) _)
  have HX1 : Hid (ThAt w1 w.heap.size ⟨d, e, m, who, rA, rn, rc, til, sA, sn, sc, cA, cn, cc, tA, tn, tc⟩) := hid (by rw [hw1]; exact ThAt.new w ⟨d, e, m, who, rA, rn, rc, til, sA, sn, sc, cA, cn, cc, tA, tn, tc⟩)
  have HW1 := hid hw1
  have hc8 : cn ≤ 8 := by have := HC8.out; have := HCL.out; omega
  have HS1 : Hid (w1.heap.size = w.heap.size + 1) := hid (by rw [hw1]; simp)
  obtain ⟨c0, c1, c2, c3, c4, c5, c6, c7, c8⟩ := HX1.out.all
  simp only at c0 c1 c2 c3 c4 c5 c6 c7 c8
  clear hw1
  go_enter Tryz.func40, Tryz.ntmps40
  go_upto_region 1 with fail
  rw [← HW1.out]
  obtain ⟨w2, hw2⟩ : ∃ y, y = w1.alloc (.cells #[.int .i64 til] 3) := ⟨_, rfl⟩
  have hb2 : Below w1.heap.size w1 w2 := by rw [hw2]; exact (Below.refl _ _).alloc (Nat.le_refl _) _
  have HB2 := hid (HB1.out.trans (hb2.mono HB1.out.size))
  have HX2 := hid (HX1.out.below hb2)
  have HO2 : Hid (Own (E := encN) w2 w1.heap.size 3 (.slice (some ⟨w1.heap.size, 0, none⟩) 1 1) [til]) := hid (by
    rw [hw2]
    exact ⟨rfl, .inr ⟨w1.heap.size, 1, #[.int .i64 til], rfl, Nat.le_refl _, heap_alloc_new w1 _, Nat.le_refl _, by unfold maxLen; omega, rfl, rfl⟩⟩)
  have HL2 : Hid (leastT [til] = untilC (tickT til) (t.cavs.take 0)) := hid (by
    have := tickT_b til
    unfold leastT
    rw [List.take_zero]
    show min 1099511627776 (tk til) = tickT til
    rw [tk_tickT]; omega)
  have HW2 := hid hw2
  clear hw2 hb2
  go_upto_region 2 with fail
  rw [← HW2.out]
  clear c0 c1 c2 c3 c4 c5 c6 c7 c8
  obtain ⟨c0, c1, c2, c3, c4, c5, c6, c7, c8⟩ := HX2.out.all
  simp only at c0 c1 c2 c3 c4 c5 c6 c7 c8
  go_wp2_with fail
  go_loopw [3, 12] (fun v i wr => ∃ (k n2 c2 : Nat) (A2 : Option Addr) (L : List Int), k ≤ cn ∧ v = .slice A2 n2 c2 ∧ i = .int .i64 (k : Int) ∧ n2 ≤ k + 1 ∧ Hid (L.length = n2) ∧ Hid (Own (E := encN) wr w1.heap.size 3 (.slice A2 n2 c2) L) ∧ Hid (leastT L = untilC (tickT til) (t.cavs.take k)) ∧ Hid (Below w1.heap.size w1 wr)) (fun _ i _ => cn - (intOf i).toNat)
  case atStart => exact ⟨0, 1, 1, _, [til], Nat.zero_le _, rfl, rfl, Nat.le_refl _, hid rfl, HO2, HL2, hid (by rw [HW2.out]; exact (Below.refl _ _).alloc (Nat.le_refl _) _)⟩
  case round =>
    clear HO2 HL2 c0 c1 c2 c3 c4 c5 c6 c7 c8
    obtain ⟨wj, hwj⟩ : ∃ x, x = wr := ⟨_, rfl⟩
    subst hwj
    obtain ⟨k, n2, c2, A2, L, hk, rfl, rfl, hn2, HLL, HO, HLE, HB⟩ := hrel
    have hk0 : (0 : Int) ≤ (k : Int) := Int.natCast_nonneg _
    have HBW := hid (HB1.out.trans (HB.out.mono HB1.out.size))
    by_cases hlt : k < cn
    · have hk1 : (k : Int) < (cn : Int) := by omega
      obtain ⟨cv, hcv⟩ : ∃ y, t.cavs[k]? = some y := ⟨_, List.getElem?_eq_getElem (by rw [HCL.out]; exact hlt)⟩
      obtain ⟨ad, aj, x, hA2, hab, haj, hbj, hca, z0, z1, z2, z3⟩ := (HA.out wj HBW.out).at hcv
      subst hA2
      have HSN : Hid (untilC (tickT til) (t.cavs.take (k + 1)) = if cv.kind = 2 then min (untilC (tickT til) (t.cavs.take k)) (tickT cv.til) else untilC (tickT til) (t.cavs.take k)) := hid (by rw [take_snoc_of hcv, untilC_snoc])
      rw [← hca.kind, ← hca.til] at HSN
      obtain ⟨xk, xA, xn, xc, xt, xa⟩ := x
      simp only at z0 z1 z2 z3 HSN
      obtain ⟨w3, hw3⟩ : ∃ y, y = wj.alloc (.cells #[.int .i64 xk, .slice xA xn xc, .int .i64 xt, .string xa] 51) := ⟨_, rfl⟩
      have hb3 : Below wj.heap.size wj w3 := by rw [hw3]; exact (Below.refl _ _).alloc (Nat.le_refl _) _
      have HV3 : Hid (ChAt w3 wj.heap.size ⟨xk, xA, xn, xc, xt, xa⟩) := hid (by rw [hw3]; exact ChAt.new wj ⟨xk, xA, xn, xc, xt, xa⟩)
      have HO3 := hid (HO.out.below hb3)
      have HB3 := hid (HB.out.trans (hb3.mono HB.out.size))
      have HW3 := hid hw3
      clear hcv hab hbj hca hw3 hb3
      go_upto_region 5 with fail
      rw [← HW3.out]
      clear z0 z1 z2 z3
      obtain ⟨z0, z1, z2, z3⟩ := HV3.out.all
      simp only at z0 z1 z2 z3
      by_cases h2 : xk = 2
      · subst h2
        obtain ⟨w4, hw4⟩ : ∃ y, y = w3.alloc (.cells #[.int .i64 xt] 3) := ⟨_, rfl⟩
        have hb4 : Below w3.heap.size w3 w4 := by rw [hw4]; exact (Below.refl _ _).alloc (Nat.le_refl _) _
        have HO4 := hid (HO3.out.below hb4)
        have HB4 := hid (HB3.out.trans (hb4.mono HB3.out.size))
        have HRD : Hid (Reads w4 (some ⟨w3.heap.size, 0, none⟩) [.int .i64 xt]) := hid (by rw [hw4]; exact reads_new w3 #[.int .i64 xt] _ _)
        have hs4 : w1.heap.size ≤ w4.heap.size := HB4.out.size
        have hn9 : n2 ≤ 1000000000000 := by have := HC8.out; have := HCL.out; omega
        have HN : Hid (L.length ≤ 1000000000000) := hid (by rw [HLL.out]; exact hn9)
        have HW4 := hid hw4
        clear hw4 hb4
        go_wp2_with (at_builtin; rw [← HW4.out]; refine wpList_app1 (E := encN) rfl slN (.tmp 19) (.tmp 22) rfl (B := w1.heap.size) (v := .slice A2 n2 c2) (l := L) HO4.out rfl (ad := ⟨w3.heap.size, 0, none⟩) (c := 1) xt rfl HRD.out HN.out (by omega) hs4 ?_; intro A9 c9 w9 ho9 hg9 he9; rw [HLL.out] at ho9; rw [HLL.out]; have HO9 := hid ho9; have HB9 := hid (HB4.out.grown hg9 hs4 (fun g e => (HO4.out.lt g e).1)); clear ho9 hg9 he9)
        have HL9 : Hid ((L ++ [xt]).length = n2 + 1) := hid (by rw [List.length_append, HLL.out]; rfl)
        have HE9 : Hid (leastT (L ++ [xt]) = untilC (tickT til) (t.cavs.take (k + 1))) := hid (by rw [leastT_snoc, HLE.out, tk_tickT, HSN.out, if_pos rfl])
        go_roundw
        case rel => exact ⟨k + 1, n2 + 1, c9, A9, L ++ [xt], by omega, rfl, by go_num, by omega, HL9, HO9, HE9, HB9⟩
        case measure => simp [intOf]; omega
      · have h21 : (xk == 2) = false := beq_eq_false_iff_ne.2 h2
        have HE9 : Hid (leastT L = untilC (tickT til) (t.cavs.take (k + 1))) := hid (by rw [HLE.out, HSN.out, if_neg h2])
        go_wp2_with fail
        go_roundw
        case rel => exact ⟨k + 1, n2, c2, A2, L, by omega, rfl, by go_num, by omega, HLL, HO3, HE9, HB3⟩
        case measure => simp [intOf]; omega
    · obtain rfl : k = cn := by omega
      have HLS := hid (least_any A2 L n2 c2 HLL.out (by have := HC8.out; have := HCL.out; omega) wj (fun h0 => by
        obtain ⟨ad, e, hb, hc⟩ := own_els HO.out h0
        refine ⟨ad, e, hb, fun j x hx => ?_⟩
        obtain ⟨ad2, e2, _, h2⟩ := (own_els HO.out).num hx
        obtain rfl := Option.some.inj (e.symm.trans e2)
        exact h2))
      have HEND : Hid (leastT L = untilT t) := hid (by rw [HLE.out, HU.out, List.take_of_length_le (by rw [HCL.out]; exact Nat.le_refl _)])
      rw [HEND.out] at HLS
      go_wp2_with fail
      refine HLS.out.mono ?_
      rintro er w5 ⟨rfl, hw5⟩
      have hw6 : wj = w5 := hw5
      subst hw6
      clear hw5
      go_wp2_with fail
      go_ret
      exact ⟨rfl, HBW.out⟩
end Go.Proofs.YtaadmgbmaekicaaGreatDoor.Sh
