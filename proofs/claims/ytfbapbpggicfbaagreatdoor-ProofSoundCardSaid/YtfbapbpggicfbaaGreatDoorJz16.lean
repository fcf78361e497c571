/-
  The program's follows, by contract.
-/
import Derived.Test.YtfbapbpggicfbaaGreatDoorJz15
set_option linter.unusedVariables false
set_option linter.unusedSimpArgs false
namespace Go.Proofs.YtfbapbpggicfbaaGreatDoor.Sh
open Go Go.RowKit

set_option linter.unusedVariables false
set_option linter.unusedSimpArgs false

def KindP (c : Crd) (p : PT) : Prop := (c.kd = 1 ∧ p.x = c.wh ∧ p.ps = []) ∨ (c.kd = 2 ∧ ∃ a, p.ps = [a] ∧ a.pr = ((c.ao, c.an), p.x)) ∨ (c.kd = 3 ∧ LinkP c p) ∨
   (c.kd = 4 ∧ ∃ a b, p.ps = [a, b] ∧ a.pr = ((c.ao, c.an), p.x) ∧ b.pr = ((c.bo, c.bn), p.x))
theorem fol_none {cs : List Crd} {p : PT} (h : look cs (p.d, p.q) = none) : ¬ Fol cs p := by
  rintro ⟨c, hc, hd, hq, _⟩
  exact look_none h c hc (by rw [hd, hq])
theorem fol_iff {cs : List Crd} (ho : OnceI cs) {p : PT} {c : Crd} (h : look cs (p.d, p.q) = some c) : Fol cs p ↔ roleOf c = (p.o, p.n) ∧ KindP c p := by
  obtain ⟨h1, h2⟩ := look_mem h
  constructor
  · rintro ⟨c', hc, hd, hq, hr, hk⟩
    obtain rfl : c' = c := ho c' hc c h1 (by rw [h2, hd, hq])
    exact ⟨hr, hk⟩
  · rintro ⟨hr, hk⟩
    simp only [Prod.mk.injEq] at h2
    exact ⟨c, h1, h2.1, h2.2, hr, hk⟩
theorem pr_nil {ps : List PT} : ps.map PT.pr = [] ↔ ps = [] := List.map_eq_nil_iff
theorem pr_one {ps : List PT} {r : Pr} : ps.map PT.pr = [r] ↔ ∃ a, ps = [a] ∧ a.pr = r := by
  constructor
  · intro h
    match ps, h with
    | [a], h => exact ⟨a, rfl, (List.cons.inj h).1⟩
  · rintro ⟨a, rfl, rfl⟩; rfl
theorem pr_two {ps : List PT} {r s : Pr} : ps.map PT.pr = [r, s] ↔ ∃ a b, ps = [a, b] ∧ a.pr = r ∧ b.pr = s := by
  constructor
  · intro h
    match ps, h with
    | [a, b], h =>
      simp only [List.map_cons, List.map_nil, List.cons.injEq, and_true] at h
      exact ⟨a, b, rfl, h.1, h.2⟩
  · rintro ⟨a, b, rfl, rfl, rfl⟩; rfl
/-- The checker: its map of credentials at block b. -/
def KAt (w : World) (gk b : Nat) : Prop := w.heap[gk]? = some (.cells #[.map (some b), .map none, .int .i64 0] 41 (0, 0))
theorem KAt.lt {w : World} {gk b : Nat} (h : KAt w gk b) : gk < w.heap.size := (Array.getElem?_eq_some_iff.1 h).1
theorem KAt.kept {w w' : World} {gk b : Nat} (h : KAt w gk b) (hb : Below w.heap.size w w') : KAt w' gk b := (hb.block gk h.lt).trans h
theorem KAt.cell {w : World} {gk b : Nat} (h : KAt w gk b) : w.cell? ⟨gk, 0, none⟩ = some (.map (some b)) := by rw [cell_of_row w gk 0 _ _ (0, 0) h]; rfl
set_option maxHeartbeats 8000000 in
set_option maxRecDepth 100000 in
theorem follows_any (cs : List Crd) (hmay : ∀ c ∈ cs, mayC c = true) (honce : OnceI cs) (gk b nb : Nat) (p : PT) (w : World) (hk : KAt w gk b) (hm : CMap w b nb cs) (hp : PIn w w.heap.size p) :
    Calls Tryz.prog 13 #[.pointer (some ⟨gk, 0, none⟩), .agg p.cells.toArray] w fun e w' => e = .returned (.bool (dc (Fol cs p))) ∧ Below w.heap.size w w' := by
  obtain ⟨o, n, x, d, q, A, cp, ps⟩ := p
  obtain ⟨g1, g2, g3, g4⟩ := hp.open'
  have hok := hp.ok
  obtain ⟨w1, hw1⟩ : ∃ w1, w1 = w.alloc (.cells (PT.mk o n x d q A cp ps).cells.toArray 29) := ⟨_, rfl⟩
  have HQ1 : Hid (Below w.heap.size w w1) := hid (by rw [hw1]; exact below_pr w _)
  have HPA : Hid (PrAt w1 w.heap.size (.mk o n x d q A cp ps)) := hid (by rw [hw1]; exact PrAt.new w _)
  have HPX := hid hp
  have HEL := hid (fun W (hW : Below w1.heap.size w1 W) => (g3.below (HQ1.out.trans (hW.mono HQ1.out.size))).more (Nat.le_trans HQ1.out.size hW.size))
  have HKA := hid (hk.kept HQ1.out)
  have HCM := hid (hm.kept HQ1.out)
  obtain ⟨gp, hgp⟩ : ∃ g, w.heap.size = g := ⟨_, rfl⟩
  have HGP := hid hgp
  rw [hgp] at HPA
  obtain ⟨np, hnp⟩ : ∃ np, ps.length = np := ⟨_, rfl⟩
  have HNP := hid hnp
  have hnp63 : np ≤ 9223372036854775807 := by omega
  have HK := hid (fun W (hW : Below w1.heap.size w1 W) => (⟨(HPA.out.kept hW).all, (HKA.out.kept hW).cell⟩ : _ ∧ _))
  rw [hnp] at HK
  obtain ⟨Z, hZ⟩ : ∃ Z, dc (Fol cs (.mk o n x d q A cp ps)) = Z := ⟨_, rfl⟩
  rw [hZ]
  have HLK := hid (fun W (hW : Below w1.heap.size w1 W) => (HCM.out.kept hW).look (i := (d, q)) hok)
  have HS0 := hid (fun W (hW : Below w1.heap.size w1 W) => (⟨(HK.out W hW).2, (HK.out W hW).1.2.2.2.1, (HK.out W hW).1.2.2.2.2.1⟩ : W.cell? ⟨gk, 0, none⟩ = some (.map (some b)) ∧ W.cell? ⟨gp, 3, none⟩ = some (.int .i64 d) ∧ W.cell? ⟨gp, 4, none⟩ = some (.int .i64 q)))
  have HDR := hid (Below.refl w1.heap.size w1).drew
  have hle : w1.heap.size ≤ w1.heap.size := Nat.le_refl _
  unfold PT.cells at hw1 ⊢
  simp only [hnp] at hw1 ⊢
  cases hl : look cs (d, q) with
  | none =>
    have HF : Hid (Z = false) := hid (by rw [← hZ]; exact dc_false (fol_none hl))
    rw [hl] at HLK
    simp only [Option.map_none, Option.getD_none, Option.isSome_none] at HLK
    clear hp g1 g2 g3 g4 hnp hZ hk hm hl hok
    go_enter Tryz.func13, Tryz.ntmps13
    go_wp2_with fail
    rw [← hw1]
    clear hw1 hgp
    go_region_held3 (fun w' => (w'.cell? ⟨gk, 0, none⟩ = some (.map (some b)) ∧ w'.cell? ⟨gp, 3, none⟩ = some (.int .i64 d) ∧ w'.cell? ⟨gp, 4, none⟩ = some (.int .i64 q)) ∧
        (Instr.lookup 38 (.map (some b)) (.agg #[.int .i64 d, .int .i64 q]) true).run Tryz.prog w' = .ok (.tuple #[.agg #[.int .i64 0, .int .i64 0, .string ⟨#[]⟩, .int .i64 0, .string ⟨#[]⟩, .string ⟨#[]⟩, .string ⟨#[]⟩, .string ⟨#[]⟩, .string ⟨#[]⟩], .bool false]) w')
      (first | exact ⟨HS0.out _ HDR.out, HLK.out _ HDR.out⟩ | exact ⟨HS0.out _ (HDR.out.alloc HDR.out.size _), HLK.out _ (HDR.out.alloc HDR.out.size _)⟩ | exact ⟨HS0.out _ ((HDR.out.alloc HDR.out.size _).setCell HDR.out.size _), HLK.out _ ((HDR.out.alloc HDR.out.size _).setCell HDR.out.size _)⟩)
      ((first | fail))
    all_goals
      go_wp2_with fail
      go_quiet (fail)
      go_wp2
      go_ret
      exact ⟨by rw [HF.out]; rfl, HQ1.out.trans ((below_drewN ((HDR.out.alloc HDR.out.size _)) _).mono HQ1.out.size)⟩
  | some c =>
    obtain ⟨hc1, hc2⟩ := look_mem hl
    have hmc := may_kd (hmay c hc1)
    have HZI : Hid (Z = true ↔ roleOf c = (o, n) ∧ KindP c (.mk o n x d q A cp ps)) := hid (by rw [← hZ, dc_iff, fol_iff honce (p := .mk o n x d q A cp ps) hl]; rfl)
    obtain ⟨cd, cq, nm, kd, wh, ao, an, bo, bn⟩ := c
    simp only at hmc
    rw [hl] at HLK
    simp only [Option.map_some, Option.getD_some, Option.isSome_some] at HLK
    have HRO := hid (fun W => roleC_any ⟨cd, cq, nm, kd, wh, ao, an, bo, bn⟩ (show -9223372036854775808 ≤ cd by omega) (show cd < 9223372036854775808 by omega) W)
    obtain ⟨D, hD⟩ : ∃ D : ByteArray, domB cd = D := ⟨_, rfl⟩
    have HZI := hid (show Z = true ↔ (D = o ∧ nm = n) ∧ KindP ⟨cd, cq, nm, kd, wh, ao, an, bo, bn⟩ (.mk o n x d q A cp ps) by
      rw [← hD, HZI.out]
      unfold roleOf
      simp)
    simp only [hD] at HRO
    have HCA : Hid (∀ W : World, CrAt (W.alloc (.cells (Crd.cells ⟨cd, cq, nm, kd, wh, ao, an, bo, bn⟩).toArray 43)).drew W.heap.size ⟨cd, cq, nm, kd, wh, ao, an, bo, bn⟩) := hid (fun W => CrAt.new W _)
    have HLN := hid (fun (W : World) (hW : PIn W W.heap.size (.mk o n x d q A cp ps)) => linked_any ⟨cd, cq, nm, kd, wh, ao, an, bo, bn⟩ (show -9223372036854775808 ≤ cd by omega) (show cd < 9223372036854775808 by omega) (.mk o n x d q A cp ps) W hW)
    unfold Crd.cells at HLK HRO HCA HLN
    unfold PT.cells at HLN
    simp only [hnp] at HLN
    have hkd := hmc.1
    clear hp g1 g2 g3 g4 hZ hk hm hl hok hc1 hc2 hmc hD hmay honce
    go_enter Tryz.func13, Tryz.ntmps13
    go_wp2_with fail
    rw [← hw1]
    clear hw1 hgp
    go_region_held3 (fun w' => (w'.cell? ⟨gk, 0, none⟩ = some (.map (some b)) ∧ w'.cell? ⟨gp, 3, none⟩ = some (.int .i64 d) ∧ w'.cell? ⟨gp, 4, none⟩ = some (.int .i64 q)) ∧
        (Instr.lookup 38 (.map (some b)) (.agg #[.int .i64 d, .int .i64 q]) true).run Tryz.prog w' = .ok (.tuple #[.agg #[.int .i64 cd, .int .i64 cq, .string nm, .int .i64 kd, .string wh, .string ao, .string an, .string bo, .string bn], .bool true]) w')
      (first | exact ⟨HS0.out _ HDR.out, HLK.out _ HDR.out⟩ | exact ⟨HS0.out _ (HDR.out.alloc HDR.out.size _), HLK.out _ (HDR.out.alloc HDR.out.size _)⟩ | exact ⟨HS0.out _ ((HDR.out.alloc HDR.out.size _).setCell HDR.out.size _), HLK.out _ ((HDR.out.alloc HDR.out.size _).setCell HDR.out.size _)⟩)
      ((first | fail))
    all_goals
      obtain ⟨w2, hw2⟩ : ∃ w2, w2 = (w1.alloc (.cells #[.int .i64 cd, .int .i64 cq, .string nm, .int .i64 kd, .string wh, .string ao, .string an, .string bo, .string bn] 43)).drew := ⟨_, rfl⟩
      have HB2 : Hid (Below w1.heap.size w1 w2) := hid (by rw [hw2]; exact ((Below.refl _ _).alloc (Nat.le_refl _) _).drew)
      obtain ⟨gc, hgc⟩ : ∃ g, w1.heap.size = g := ⟨_, rfl⟩
      have HC2 : Hid (CrAt w2 gc ⟨cd, cq, nm, kd, wh, ao, an, bo, bn⟩) := hid (by rw [hw2, ← hgc]; exact HCA.out w1)
      rw [← hw2, hgc]
      clear hw2 hgc HCA HLK HS0 HDR
      have HKK := hid (fun W (hW : Below w2.heap.size w2 W) => (⟨(HC2.out.kept hW).all, (HK.out W (HB2.out.trans (hW.mono HB2.out.size))).1⟩ : _ ∧ _))
      have HDR := hid (Below.refl w2.heap.size w2).drew
      have HEND : Hid (∀ W, Below w2.heap.size w2 W → Below w.heap.size w W) := hid (fun W hW => HQ1.out.trans ((HB2.out.trans (hW.mono HB2.out.size)).mono HQ1.out.size))
      have HEL2 := hid (fun W (hW : Below w2.heap.size w2 W) => HEL.out W (HB2.out.trans (hW.mono HB2.out.size)))
      by_cases hro : D = o ∧ nm = n
      · obtain ⟨rfl, rfl⟩ := hro
        have HZK : Hid (Z = true ↔ KindP ⟨cd, cq, nm, kd, wh, ao, an, bo, bn⟩ (.mk D nm x d q A cp ps)) := hid (by rw [HZI.out]; simp)
        clear HZI
        go_wp2_with fail
        have c0 := fun x : Wn w2.heap.size w2 => (HKK.out x.1 x.2).1.1
        have c1 := fun x : Wn w2.heap.size w2 => (HKK.out x.1 x.2).1.2.1
        have c2 := fun x : Wn w2.heap.size w2 => (HKK.out x.1 x.2).1.2.2.1
        have c3 := fun x : Wn w2.heap.size w2 => (HKK.out x.1 x.2).1.2.2.2.1
        have c4 := fun x : Wn w2.heap.size w2 => (HKK.out x.1 x.2).1.2.2.2.2.1
        have c5 := fun x : Wn w2.heap.size w2 => (HKK.out x.1 x.2).1.2.2.2.2.2.1
        have c6 := fun x : Wn w2.heap.size w2 => (HKK.out x.1 x.2).1.2.2.2.2.2.2.1
        have c7 := fun x : Wn w2.heap.size w2 => (HKK.out x.1 x.2).1.2.2.2.2.2.2.2.1
        have c8 := fun x : Wn w2.heap.size w2 => (HKK.out x.1 x.2).1.2.2.2.2.2.2.2.2
        have k0 := fun x : Wn w2.heap.size w2 => (HKK.out x.1 x.2).2.1
        have k1 := fun x : Wn w2.heap.size w2 => (HKK.out x.1 x.2).2.2.1
        have k2 := fun x : Wn w2.heap.size w2 => (HKK.out x.1 x.2).2.2.2.1
        have k3 := fun x : Wn w2.heap.size w2 => (HKK.out x.1 x.2).2.2.2.2.1
        have k4 := fun x : Wn w2.heap.size w2 => (HKK.out x.1 x.2).2.2.2.2.2.1
        have k5 := fun x : Wn w2.heap.size w2 => (HKK.out x.1 x.2).2.2.2.2.2.2
        refine region_in w2.heap.size w2 (by kernel_rfl) (by kernel_rfl) HDR.out ?_
        repeat (go_big_quiet_step (first | (go_at_call 27; exact call_in (Nat.le_refl _) (HRO.out _))))
        refine wpQuiet_nil ?_
        intro wq hwq
        have HWQ := hid hwq
        clear c0 c1 c2 c3 c4 c5 c6 c7 c8 k0 k1 k2 k3 k4 k5
        obtain ⟨⟨c0, c1, c2, c3, c4, c5, c6, c7, c8⟩, k0, k1, k2, k3, k4, k5⟩ := HKK.out wq hwq
        clear hwq
        rcases hkd with rfl | rfl | rfl | rfl
        · by_cases hx : x = wh
          · subst hx
            obtain ⟨T, hT⟩ : ∃ T, dc (ps.map PT.pr = []) = T := ⟨_, rfl⟩
            have HF : Hid (Z = T) := hid (Bool.eq_iff_iff.2 (by
              rw [HZK.out, ← hT, dc_iff, pr_nil]
              unfold KindP PT.x PT.ps
              simp))
            have HPV := hid (prove_any ps [] A none np 0 cp 0 HNP.out rfl hnp63 wq (HEL2.out wq HWQ.out) Els.nil)
            rw [hT] at HPV
            clear HZK hT
            go_wp2_with fail
            refine HPV.out.mono ?_
            rintro er w10 ⟨rfl, hb10⟩
            cases T <;>
            · go_wp2_with fail
              go_ret
              exact ⟨by rw [HF.out]; rfl, HEND.out _ (HWQ.out.trans (hb10.mono HWQ.out.size))⟩
          · have HF : Hid (Z = false) := hid (Bool.eq_false_iff.2 fun e => by
              have := HZK.out.1 e
              unfold KindP PT.x at this
              simp at this
              exact hx this.1)
            obtain ⟨x1, x2⟩ := inne hx
            clear hx HZK
            go_wp2_with fail
            go_ret
            exact ⟨by rw [HF.out]; rfl, HEND.out _ HWQ.out⟩
        · obtain ⟨T, hT⟩ : ∃ T, dc (ps.map PT.pr = [((ao, an), x)]) = T := ⟨_, rfl⟩
          have HF : Hid (Z = T) := hid (Bool.eq_iff_iff.2 (by
            rw [HZK.out, ← hT, dc_iff, pr_one]
            unfold KindP PT.x PT.ps
            simp))
          obtain ⟨w9, hw9⟩ : ∃ w9, w9 = wq.alloc (.cells (ev encP [((ao, an), x)]).toArray 55) := ⟨_, rfl⟩
          have HB9 : Hid (Below w2.heap.size w2 w9) := hid (by rw [hw9]; exact HWQ.out.alloc HWQ.out.size _)
          have HPV := hid (prove_any ps [((ao, an), x)] A (some ⟨wq.heap.size, 0, none⟩) np 1 cp 1 HNP.out rfl hnp63 w9 (HEL2.out w9 HB9.out) (by rw [hw9]; exact els_new wq encP _ _))
          rw [hT] at HPV
          have hw9' : w9 = wq.alloc (.cells #[.string ao, .string an, .string x] 55) := hw9
          clear HZK hT hw9
          go_wp2_with fail
          rw [← hw9']
          refine HPV.out.mono ?_
          rintro er w10 ⟨rfl, hb10⟩
          go_wp2_with fail
          go_ret
          exact ⟨by rw [HF.out]; rfl, HEND.out _ (HB9.out.trans (hb10.mono HB9.out.size))⟩
        · have HF : Hid (Z = dc (LinkP ⟨cd, cq, nm, 3, wh, ao, an, bo, bn⟩ (.mk D nm x d q A cp ps))) := hid (Bool.eq_iff_iff.2 (by
            rw [HZK.out, dc_iff]
            unfold KindP
            simp))
          have HPV := hid (HLN.out wq (HPX.out.now (HEND.out wq HWQ.out)))
          clear HZK HLN
          go_wp2_with fail
          refine HPV.out.mono ?_
          rintro er w10 ⟨rfl, hb10⟩
          go_wp2_with fail
          go_ret
          exact ⟨by rw [HF.out]; rfl, HEND.out _ (HWQ.out.trans (hb10.mono HWQ.out.size))⟩
        · obtain ⟨T, hT⟩ : ∃ T, dc (ps.map PT.pr = [((ao, an), x), ((bo, bn), x)]) = T := ⟨_, rfl⟩
          have HF : Hid (Z = T) := hid (Bool.eq_iff_iff.2 (by
            rw [HZK.out, ← hT, dc_iff, pr_two]
            unfold KindP PT.x PT.ps
            simp))
          obtain ⟨w9, hw9⟩ : ∃ w9, w9 = wq.alloc (.cells (ev encP [((ao, an), x), ((bo, bn), x)]).toArray 55) := ⟨_, rfl⟩
          have HB9 : Hid (Below w2.heap.size w2 w9) := hid (by rw [hw9]; exact HWQ.out.alloc HWQ.out.size _)
          have HPV := hid (prove_any ps [((ao, an), x), ((bo, bn), x)] A (some ⟨wq.heap.size, 0, none⟩) np 2 cp 2 HNP.out rfl hnp63 w9 (HEL2.out w9 HB9.out) (by rw [hw9]; exact els_new wq encP _ _))
          rw [hT] at HPV
          have hw9' : w9 = wq.alloc (.cells #[.string ao, .string an, .string x, .string bo, .string bn, .string x] 55) := hw9
          clear HZK hT hw9
          go_wp2_with fail
          rw [← hw9']
          refine HPV.out.mono ?_
          rintro er w10 ⟨rfl, hb10⟩
          go_wp2_with fail
          go_ret
          exact ⟨by rw [HF.out]; rfl, HEND.out _ (HB9.out.trans (hb10.mono HB9.out.size))⟩
      · have HF : Hid (Z = false) := hid (Bool.eq_false_iff.2 fun e => hro (HZI.out.1 e).1)
        by_cases ho : D = o
        · subst ho
          have hn : nm ≠ n := fun e => hro ⟨rfl, e⟩
          obtain ⟨x1, x2⟩ := inne hn
          clear hro hn HZI
          go_wp2_with fail
          have c0 := fun x : Wn w2.heap.size w2 => (HKK.out x.1 x.2).1.1
          have c1 := fun x : Wn w2.heap.size w2 => (HKK.out x.1 x.2).1.2.1
          have c2 := fun x : Wn w2.heap.size w2 => (HKK.out x.1 x.2).1.2.2.1
          have c3 := fun x : Wn w2.heap.size w2 => (HKK.out x.1 x.2).1.2.2.2.1
          have c4 := fun x : Wn w2.heap.size w2 => (HKK.out x.1 x.2).1.2.2.2.2.1
          have c5 := fun x : Wn w2.heap.size w2 => (HKK.out x.1 x.2).1.2.2.2.2.2.1
          have c6 := fun x : Wn w2.heap.size w2 => (HKK.out x.1 x.2).1.2.2.2.2.2.2.1
          have c7 := fun x : Wn w2.heap.size w2 => (HKK.out x.1 x.2).1.2.2.2.2.2.2.2.1
          have c8 := fun x : Wn w2.heap.size w2 => (HKK.out x.1 x.2).1.2.2.2.2.2.2.2.2
          have k0 := fun x : Wn w2.heap.size w2 => (HKK.out x.1 x.2).2.1
          have k1 := fun x : Wn w2.heap.size w2 => (HKK.out x.1 x.2).2.2.1
          have k2 := fun x : Wn w2.heap.size w2 => (HKK.out x.1 x.2).2.2.2.1
          have k3 := fun x : Wn w2.heap.size w2 => (HKK.out x.1 x.2).2.2.2.2.1
          have k4 := fun x : Wn w2.heap.size w2 => (HKK.out x.1 x.2).2.2.2.2.2.1
          have k5 := fun x : Wn w2.heap.size w2 => (HKK.out x.1 x.2).2.2.2.2.2.2
          refine region_in w2.heap.size w2 (by kernel_rfl) (by kernel_rfl) HDR.out ?_
          repeat (go_big_quiet_step (first | (go_at_call 27; exact call_in (Nat.le_refl _) (HRO.out _))))
          refine wpQuiet_nil ?_
          intro wq hwq
          have HWQ := hid hwq
          clear c0 c1 c2 c3 c4 c5 c6 c7 c8 k0 k1 k2 k3 k4 k5
          obtain ⟨⟨c0, c1, c2, c3, c4, c5, c6, c7, c8⟩, k0, k1, k2, k3, k4, k5⟩ := HKK.out wq hwq
          clear hwq
          go_wp2_with fail
          go_ret
          exact ⟨by rw [HF.out]; rfl, HEND.out _ HWQ.out⟩
        · obtain ⟨x1, x2⟩ := inne ho
          clear hro ho HZI
          go_wp2_with fail
          have c0 := fun x : Wn w2.heap.size w2 => (HKK.out x.1 x.2).1.1
          have c1 := fun x : Wn w2.heap.size w2 => (HKK.out x.1 x.2).1.2.1
          have c2 := fun x : Wn w2.heap.size w2 => (HKK.out x.1 x.2).1.2.2.1
          have c3 := fun x : Wn w2.heap.size w2 => (HKK.out x.1 x.2).1.2.2.2.1
          have c4 := fun x : Wn w2.heap.size w2 => (HKK.out x.1 x.2).1.2.2.2.2.1
          have c5 := fun x : Wn w2.heap.size w2 => (HKK.out x.1 x.2).1.2.2.2.2.2.1
          have c6 := fun x : Wn w2.heap.size w2 => (HKK.out x.1 x.2).1.2.2.2.2.2.2.1
          have c7 := fun x : Wn w2.heap.size w2 => (HKK.out x.1 x.2).1.2.2.2.2.2.2.2.1
          have c8 := fun x : Wn w2.heap.size w2 => (HKK.out x.1 x.2).1.2.2.2.2.2.2.2.2
          have k0 := fun x : Wn w2.heap.size w2 => (HKK.out x.1 x.2).2.1
          have k1 := fun x : Wn w2.heap.size w2 => (HKK.out x.1 x.2).2.2.1
          have k2 := fun x : Wn w2.heap.size w2 => (HKK.out x.1 x.2).2.2.2.1
          have k3 := fun x : Wn w2.heap.size w2 => (HKK.out x.1 x.2).2.2.2.2.1
          have k4 := fun x : Wn w2.heap.size w2 => (HKK.out x.1 x.2).2.2.2.2.2.1
          have k5 := fun x : Wn w2.heap.size w2 => (HKK.out x.1 x.2).2.2.2.2.2.2
          refine region_in w2.heap.size w2 (by kernel_rfl) (by kernel_rfl) HDR.out ?_
          repeat (go_big_quiet_step (first | (go_at_call 27; exact call_in (Nat.le_refl _) (HRO.out _))))
          refine wpQuiet_nil ?_
          intro wq hwq
          have HWQ := hid hwq
          clear c0 c1 c2 c3 c4 c5 c6 c7 c8 k0 k1 k2 k3 k4 k5
          obtain ⟨⟨c0, c1, c2, c3, c4, c5, c6, c7, c8⟩, k0, k1, k2, k3, k4, k5⟩ := HKK.out wq hwq
          clear hwq
          go_wp2_with fail
          go_ret
          exact ⟨by rw [HF.out]; rfl, HEND.out _ HWQ.out⟩
end Go.Proofs.YtfbapbpggicfbaaGreatDoor.Sh
