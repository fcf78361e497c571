/-
  The program's own Allows of a token, by contract. Written by mk_tkpgg.py.
-/
import Derived.Test.YtaadmgbmaekicaaGreatDoorJn36
set_option linter.unusedVariables false
set_option linter.unusedSimpArgs false
namespace Go.Proofs.YtaadmgbmaekicaaGreatDoor.Sh
open Go Go.RowKit

set_option linter.unusedSimpArgs false
set_option linter.unusedVariables false
open Classical in
noncomputable def bars (aud : ByteArray) (c : Cav) : Bool := decide (c.kind = 3 ∧ c.aud ≠ aud)
theorem strne {a b : ByteArray} (h : a ≠ b) : ¬ a.toList = b.toList ∧ (a.toList == b.toList) = false := by
  have : ¬ a.toList = b.toList := fun e => h (ba_eq (by rw [← Lib.toList_data, ← Lib.toList_data, e]))
  exact ⟨this, beq_eq_false_iff_ne.2 this⟩
open Classical in
theorem pAllows1_any {w : World} {Q : Nat → Prop} {x : CH} {c : Cav} (a : CavAt w Q x c) (g : Nat) (aud : ByteArray) (hg : w.cell? ⟨g, 0, none⟩ = some (.string aud)) :
    Calls Tryz.prog 83 #[.agg (encC.cells x).toArray, .pointer (some ⟨g, 0, none⟩)] w fun e w' => e = .returned (.bool (bars aud c)) ∧ Below w.heap.size w w' := by
  have hgl : g < w.heap.size := World.block_lt_of_cell? w _ hg
  obtain ⟨kd, rA, rn, rc, til, xa⟩ := x
  obtain ⟨kd', roles, til', xa'⟩ := c
  obtain rfl : kd = kd' := a.kind
  obtain rfl : xa = xa' := a.aud
  simp only [encC, CH.cells]
  obtain ⟨w1, hw1⟩ : ∃ y, y = w.alloc (.cells #[.int .i64 kd, .slice rA rn rc, .int .i64 til, .string xa] 51) := ⟨_, rfl⟩
  have hb1 : Below w.heap.size w w1 := by rw [hw1]; exact (Below.refl _ _).alloc (Nat.le_refl _) _
  have HB1 := hid hb1
  have HX1 : Hid (ChAt w1 w.heap.size ⟨kd, rA, rn, rc, til, xa⟩) := hid (by rw [hw1]; exact ChAt.new w ⟨kd, rA, rn, rc, til, xa⟩)
  have hg1 : w1.cell? ⟨g, 0, none⟩ = some (.string aud) := (hb1.cell (p := ⟨g, 0, none⟩) hgl).trans hg
  have HW1 := hid hw1
  obtain ⟨c0, c1, c2, c3⟩ := HX1.out.all
  simp only at c0 c1 c2 c3
  clear a hw1 hg hb1
  by_cases hk : kd = 3
  · subst hk
    by_cases ha : xa = aud
    · subst ha
      have HE : Hid (bars xa ⟨3, roles, til', xa⟩ = false) := hid (by unfold bars; simp)
      go_enter Tryz.func83, Tryz.ntmps83
      go_upto_region 1 with fail
      rw [← HW1.out]
      go_wp2_with fail
      go_ret
      exact ⟨by rw [HE.out]; rfl, HB1.out⟩
    · have HE : Hid (bars aud ⟨3, roles, til', xa⟩ = true) := hid (by unfold bars; simp [ha])
      obtain ⟨s1, s2⟩ := strne ha
      clear ha
      go_enter Tryz.func83, Tryz.ntmps83
      go_upto_region 1 with fail
      rw [← HW1.out]
      go_wp2_with fail
      go_ret
      exact ⟨by rw [HE.out]; rfl, HB1.out⟩
  · have hk1 : (kd == 3) = false := beq_eq_false_iff_ne.2 hk
    have HE : Hid (bars aud ⟨kd, roles, til', xa⟩ = false) := hid (by unfold bars; simp [hk])
    go_enter Tryz.func83, Tryz.ntmps83
    go_upto_region 1 with fail
    rw [← HW1.out]
    go_wp2_with fail
    go_ret
    exact ⟨by rw [HE.out]; rfl, HB1.out⟩
open Classical in
theorem bars_any (cs : List Cav) (aud : ByteArray) : anyN (atN (bars aud) cs) cs.length = decide (∃ c ∈ cs, c.kind = 3 ∧ c.aud ≠ aud) := by
  rw [Bool.eq_iff_iff, anyN_iff, decide_eq_true_eq]
  constructor
  · rintro ⟨j, hj, hp⟩
    rw [atN_at (List.getElem?_eq_getElem hj)] at hp
    unfold bars at hp
    exact ⟨_, List.getElem_mem hj, of_decide_eq_true hp⟩
  · rintro ⟨c, hc, h⟩
    obtain ⟨j, hj, rfl⟩ := List.getElem_of_mem hc
    exact ⟨j, hj, by rw [atN_at (List.getElem?_eq_getElem hj)]; unfold bars; exact decide_eq_true h⟩
open Classical in
set_option maxHeartbeats 16000000 in
set_option maxRecDepth 100000 in
theorem pAllows12_any {w : World} {Q : Nat → Prop} {th : TH} {t : Tok} (a : TokAt w Q th t) (hf : FewTok t) (o nm aud : ByteArray) (now : Int) :
    Calls Tryz.prog 39 #[.agg #[.int .i64 th.d, .int .i64 th.e, .int .i64 th.n, .string th.who, .slice th.rA th.rn th.rc, .int .i64 th.til, .slice th.sA th.sn th.sc, .slice th.cA th.cn th.cc, .slice th.tA th.tn th.tc], .agg #[.string o, .string nm], .string aud, .int .i64 now] w fun e w' => e = .returned (.int .i64 (allowE t (o, nm) aud now)) ∧ Below w.heap.size w w' := by
  have hmf : ∀ (fn : Fn) (first cap : Array Value) (w : World), (Instr.makeFunc fn first cap).run Tryz.prog w = .ok (.func fn first cap) w := fun _ _ _ _ => rfl
  have HUN := hid (fun W (hW : Below w.heap.size w W) => pUntil12_any (a.below hW) hf)
  have HRO := hid (fun W (hW : Below w.heap.size w W) => pRoles12_any (a.below hW) hf)
  have HOV := hid (fun W => over_any now (untilT t) W)
  have HTI : Hid (tk (untilT t) = untilT t) := hid (tickT_id (untilT_b t).1 (untilT_b t).2)
  have HTN : Hid (tk now = tickT now) := hid rfl
  rw [HTI.out, HTN.out] at HOV
  have HAE : Hid (allowE t (o, nm) aud now = if untilT t ≤ tickT now then 21 else if (o, nm) ∉ rolesT t then 23 else if ∃ c ∈ t.cavs, c.kind = 3 ∧ c.aud ≠ aud then 22 else 0) := hid rfl
  have HRL6 : Hid ((rolesT t).length ≤ 6) := hid (Nat.le_trans (List.length_filter_le _ _) hf.r)
  have HBA := hid (bars_any t.cavs aud)
  obtain ⟨w1, hw1⟩ : ∃ y, y = ((w.alloc (.cells #[.int .i64 th.d, .int .i64 th.e, .int .i64 th.n, .string th.who, .slice th.rA th.rn th.rc, .int .i64 th.til, .slice th.sA th.sn th.sc, .slice th.cA th.cn th.cc, .slice th.tA th.tn th.tc] 27)).alloc (.cells #[.string o, .string nm] 69)).alloc (.cells #[.string aud] 9) := ⟨_, rfl⟩
  have hb1 : Below w.heap.size w w1 := by rw [hw1]; exact (((Below.refl _ _).alloc (Nat.le_refl _) _).alloc (by simp) _).alloc (by simp; omega) _
  have HB1 := hid hb1
  have HX1 : Hid (ThAt w1 w.heap.size th) := hid (by
    rw [hw1]
    have q := (ThAt.new w th).below (((Below.refl (w.alloc (.cells th.cells.toArray 27)).heap.size _).alloc (Nat.le_refl _) (.cells #[.string o, .string nm] 69)).alloc (by simp) (.cells #[.string aud] 9))
    exact q)
  have HR1 : Hid (RoleAt w1 (w.heap.size + 1) o nm) := hid (by
    rw [hw1]
    have q := (RoleAt.new (w.alloc (.cells #[.int .i64 th.d, .int .i64 th.e, .int .i64 th.n, .string th.who, .slice th.rA th.rn th.rc, .int .i64 th.til, .slice th.sA th.sn th.sc, .slice th.cA th.cn th.cc, .slice th.tA th.tn th.tc] 27)) o nm).kept ((Below.refl _ _).alloc (Nat.le_refl _) (.cells #[.string aud] 9))
    rw [World.size_alloc] at q
    exact q)
  have HG1 : Hid (w1.cell? ⟨w.heap.size + 1 + 1, 0, none⟩ = some (.string aud)) := hid (by
    have q : w1.heap[w.heap.size + 1 + 1]? = some (.cells #[.string aud] 9 (0, 0)) := by
      rw [hw1]
      have q := heap_alloc_new ((w.alloc (.cells #[.int .i64 th.d, .int .i64 th.e, .int .i64 th.n, .string th.who, .slice th.rA th.rn th.rc, .int .i64 th.til, .slice th.sA th.sn th.sc, .slice th.cA th.cn th.cc, .slice th.tA th.tn th.tc] 27)).alloc (.cells #[.string o, .string nm] 69)) (.cells #[.string aud] 9)
      rw [World.size_alloc, World.size_alloc] at q
      exact q
    rw [cell_of_row _ _ 0 _ _ (0, 0) q]; rfl)
  have HGL : Hid (w.heap.size + 1 + 1 < w1.heap.size) := hid (World.block_lt_of_cell? w1 _ HG1.out)
  have HBR := hid (fun W (hW : Below w1.heap.size w1 W) => by
    have a1 := a.below (hb1.trans (hW.mono hb1.size))
    obtain ⟨hs, h1, h2, h3⟩ := a1.ce
    have q := pconC3_any (w.heap.size + 1 + 1) th.cA hs th.cn th.cc (h1.trans a.cl) (by have := a.cl; have := hf.n; omega) W h2.els (atN (bars aud) t.cavs) (fun j x hj V hV => by
      obtain ⟨cv, hcv⟩ : ∃ y, t.cavs[j]? = some y := ⟨_, List.getElem?_eq_getElem (by rw [← h1]; exact (List.getElem?_eq_some_iff.1 hj).1)⟩
      rw [atN_at hcv]
      exact pAllows1_any ((h3 j x cv hj hcv).kept (fun b _ hl => hV.block b hl) hV.size) (w.heap.size + 1 + 1) aud (((hW.trans (hV.mono hW.size)).cell (p := ⟨w.heap.size + 1 + 1, 0, none⟩) HGL.out).trans HG1.out))
    have e := HBA.out
    rw [a.cl] at e
    rw [e] at q
    exact q)
  have HW1 := hid hw1
  clear a hf hb1
  obtain ⟨U, hU⟩ : ∃ U, untilT t = U := ⟨_, rfl⟩
  obtain ⟨N, hN⟩ : ∃ N, tickT now = N := ⟨_, rfl⟩
  rw [hU] at HUN HOV HAE
  rw [hN] at HOV HAE
  obtain ⟨b3, hb3⟩ : ∃ b, decide (∃ c ∈ t.cavs, c.kind = 3 ∧ c.aud ≠ aud) = b := ⟨_, rfl⟩
  rw [hb3] at HBR
  have HB3' : Hid ((∃ c ∈ t.cavs, c.kind = 3 ∧ c.aud ≠ aud) ↔ b3 = true) := hid (by rw [← hb3]; exact decide_eq_true_iff.symm)
  obtain ⟨d, e, m, who, rA, rn, rc, til, sA, sn, sc, cA, cn, cc, tA, tn, tc⟩ := th
  simp only at HUN HRO HBR hw1 HW1 ⊢
  have HXS := hid (fun W (hW : Below w1.heap.size w1 W) => by
    obtain ⟨c0, c1, c2, c3, c4, c5, c6, c7, c8⟩ := (HX1.out.below hW).all
    exact (⟨c0, c1, c2, c3, c4, c5, c6, c7, c8, (HR1.out.kept hW).c0, (HR1.out.kept hW).c1⟩ : W.cell? ⟨w.heap.size, 0, none⟩ = some (.int .i64 d) ∧ W.cell? ⟨w.heap.size, 1, none⟩ = some (.int .i64 e) ∧ W.cell? ⟨w.heap.size, 2, none⟩ = some (.int .i64 m) ∧ W.cell? ⟨w.heap.size, 3, none⟩ = some (.string who) ∧ W.cell? ⟨w.heap.size, 4, none⟩ = some (.slice rA rn rc) ∧ W.cell? ⟨w.heap.size, 5, none⟩ = some (.int .i64 til) ∧ W.cell? ⟨w.heap.size, 6, none⟩ = some (.slice sA sn sc) ∧ W.cell? ⟨w.heap.size, 7, none⟩ = some (.slice cA cn cc) ∧ W.cell? ⟨w.heap.size, 8, none⟩ = some (.slice tA tn tc) ∧ W.cell? ⟨w.heap.size + 1, 0, none⟩ = some (.string o) ∧ W.cell? ⟨w.heap.size + 1, 1, none⟩ = some (.string nm)))
  obtain ⟨c0, c1, c2, c3, c4, c5, c6, c7, c8, d0, d1⟩ := HXS.out w1 (Below.refl _ _)
  have HU1 := hid (HUN.out w1 HB1.out)
  have HRO1 := hid (fun W (hW : Below w1.heap.size w1 W) => HRO.out W (HB1.out.trans (hW.mono HB1.out.size)))
  clear hw1 hU hN hb3 HUN HRO HBA
  go_enter Tryz.func39, Tryz.ntmps39
  go_upto_region 1 with fail
  rw [← HW1.out]
  go_wp2_with fail
  refine HU1.out.mono ?_
  rintro er w2 ⟨rfl, b2⟩
  have HQ2 := hid b2
  have HB2 := hid (HB1.out.trans (b2.mono HB1.out.size))
  clear b2 c0 c1 c2 c3 c4 c5 c6 c7 c8 d0 d1
  go_wp2_with fail
  refine (HOV.out w2).mono ?_
  rintro er w3 ⟨rfl, hw3⟩
  have hw4 : w2 = w3 := hw3
  subst hw4
  clear hw3
  by_cases hov : U ≤ N
  · rw [decide_eq_true hov]
    have HE : Hid (allowE t (o, nm) aud now = 21) := hid (by rw [HAE.out, if_pos hov])
    go_wp2_with fail
    go_ret
    exact ⟨by rw [HE.out]; rfl, HB2.out⟩
  · rw [decide_eq_false hov]
    have HA23 : Hid ((o, nm) ∉ rolesT t → allowE t (o, nm) aud now = 23) := hid (fun h => by rw [HAE.out, if_neg hov, if_pos h])
    have HA22 : Hid ((o, nm) ∈ rolesT t → b3 = true → allowE t (o, nm) aud now = 22) := hid (fun h h3 => by rw [HAE.out, if_neg hov, if_neg (fun k => k h), if_pos (HB3'.out.2 h3)])
    have HA0 : Hid ((o, nm) ∈ rolesT t → b3 = false → allowE t (o, nm) aud now = 0) := hid (fun h h3 => by rw [HAE.out, if_neg hov, if_neg (fun k => k h), if_neg (fun k => by have := HB3'.out.1 k; rw [h3] at this; cases this)])
    clear hov HB3' HAE
    go_wp2_with fail
    by_cases hin : (o, nm) ∈ rolesT t
    · have HIN := hid hin
      clear hin
      go_region_held3 (fun W => W.cell? ⟨w.heap.size, 0, none⟩ = some (.int .i64 d) ∧ W.cell? ⟨w.heap.size, 1, none⟩ = some (.int .i64 e) ∧ W.cell? ⟨w.heap.size, 2, none⟩ = some (.int .i64 m) ∧ W.cell? ⟨w.heap.size, 3, none⟩ = some (.string who) ∧ W.cell? ⟨w.heap.size, 4, none⟩ = some (.slice rA rn rc) ∧ W.cell? ⟨w.heap.size, 5, none⟩ = some (.int .i64 til) ∧ W.cell? ⟨w.heap.size, 6, none⟩ = some (.slice sA sn sc) ∧ W.cell? ⟨w.heap.size, 7, none⟩ = some (.slice cA cn cc) ∧ W.cell? ⟨w.heap.size, 8, none⟩ = some (.slice tA tn tc) ∧ W.cell? ⟨w.heap.size + 1, 0, none⟩ = some (.string o) ∧ W.cell? ⟨w.heap.size + 1, 1, none⟩ = some (.string nm))
        ((refine HXS.out _ ?_; repeat (first | with_reducible exact BQ8.out | with_reducible exact BQ7.out | with_reducible exact HQ2.out | with_reducible refine Below.drew ?_)))
        ((first
          | (go_at_call 38; ((with_reducible refine (HRO1.out _ ?_).mono ?_); (with_reducible exact HQ2.out.drew); rintro er w7 ⟨A7, n7, c7, rfl, -, -, l7, e7, -, b7⟩; have HC7 := hid (conR_any A7 (rolesT t) n7 c7 l7 (by have := HRL6.out; omega) o nm w7 e7.els); have BQ7 := hid (HQ2.out.drew.trans (b7.mono HQ2.out.size)); clear l7 e7 b7))
          | (go_at_call 82; ((with_reducible refine HC7.out.mono ?_); rintro er w8 ⟨rfl, b8⟩; have BQ8 := hid (BQ7.out.trans (b8.mono BQ7.out.size)); clear b8))))
      all_goals
        rw [decide_eq_true HIN.out]
        have HC9 := hid (HBR.out _ BQ8.out)
        obtain ⟨c0, c1, c2, c3, c4, c5, c6, c7, c8, -, -⟩ := HXS.out _ BQ8.out
        go_wp2_with fail
        refine HC9.out.mono ?_
        rintro er w9 ⟨rfl, b9⟩
        have BQ9 := hid (HB1.out.trans ((BQ8.out.trans (b9.mono BQ8.out.size)).mono HB1.out.size))
        clear b9 c0 c1 c2 c3 c4 c5 c6 c7 c8
        cases b3
        · have HE : Hid (allowE t (o, nm) aud now = 0) := hid (HA0.out HIN.out rfl)
          go_wp2_with fail
          go_ret
          exact ⟨by rw [HE.out]; rfl, BQ9.out⟩
        · have HE : Hid (allowE t (o, nm) aud now = 22) := hid (HA22.out HIN.out rfl)
          go_wp2_with fail
          go_ret
          exact ⟨by rw [HE.out]; rfl, BQ9.out⟩
    · have HIN := hid hin
      have HE : Hid (allowE t (o, nm) aud now = 23) := hid (HA23.out hin)
      clear hin
      go_region_held3 (fun W => W.cell? ⟨w.heap.size, 0, none⟩ = some (.int .i64 d) ∧ W.cell? ⟨w.heap.size, 1, none⟩ = some (.int .i64 e) ∧ W.cell? ⟨w.heap.size, 2, none⟩ = some (.int .i64 m) ∧ W.cell? ⟨w.heap.size, 3, none⟩ = some (.string who) ∧ W.cell? ⟨w.heap.size, 4, none⟩ = some (.slice rA rn rc) ∧ W.cell? ⟨w.heap.size, 5, none⟩ = some (.int .i64 til) ∧ W.cell? ⟨w.heap.size, 6, none⟩ = some (.slice sA sn sc) ∧ W.cell? ⟨w.heap.size, 7, none⟩ = some (.slice cA cn cc) ∧ W.cell? ⟨w.heap.size, 8, none⟩ = some (.slice tA tn tc) ∧ W.cell? ⟨w.heap.size + 1, 0, none⟩ = some (.string o) ∧ W.cell? ⟨w.heap.size + 1, 1, none⟩ = some (.string nm))
        ((refine HXS.out _ ?_; repeat (first | with_reducible exact BQ8.out | with_reducible exact BQ7.out | with_reducible exact HQ2.out | with_reducible refine Below.drew ?_)))
        ((first
          | (go_at_call 38; ((with_reducible refine (HRO1.out _ ?_).mono ?_); (with_reducible exact HQ2.out.drew); rintro er w7 ⟨A7, n7, c7, rfl, -, -, l7, e7, -, b7⟩; have HC7 := hid (conR_any A7 (rolesT t) n7 c7 l7 (by have := HRL6.out; omega) o nm w7 e7.els); have BQ7 := hid (HQ2.out.drew.trans (b7.mono HQ2.out.size)); clear l7 e7 b7))
          | (go_at_call 82; ((with_reducible refine HC7.out.mono ?_); rintro er w8 ⟨rfl, b8⟩; have BQ8 := hid (BQ7.out.trans (b8.mono BQ7.out.size)); clear b8))))
      all_goals
        rw [decide_eq_false HIN.out]
        go_wp2_with fail
        go_ret
        exact ⟨by rw [HE.out]; rfl, HB1.out.trans (BQ8.out.mono HB1.out.size)⟩
end Go.Proofs.YtaadmgbmaekicaaGreatDoor.Sh
