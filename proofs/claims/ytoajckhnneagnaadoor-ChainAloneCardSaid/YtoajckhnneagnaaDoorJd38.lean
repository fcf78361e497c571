/-
  The program's follows, by contract.
-/
import Derived.Test.YtoajckhnneagnaaDoorJd37
import Derived.Test.YtoajckhnneagnaaDoorJd14
set_option linter.unusedVariables false
set_option linter.unusedSimpArgs false
namespace Go.Proofs.YtoajckhnneagnaaDoor.Sh
open Go Go.RowKit

set_option linter.unusedVariables false
set_option linter.unusedSimpArgs false

def KindP (c : Crd) (p : PT) : Prop := (c.kd = 1 ∧ p.x = c.wh ∧ p.ps = []) ∨ (c.kd = 2 ∧ ∃ a, p.ps = [a] ∧ a.pr = ((c.ao, c.an), p.x)) ∨ (c.kd = 3 ∧ LinkP c p) ∨
   (c.kd = 4 ∧ ∃ a b, p.ps = [a, b] ∧ a.pr = ((c.ao, c.an), p.x) ∧ b.pr = ((c.bo, c.bn), p.x))
theorem fol_none {cs : List Crd} {p : PT} (h : look cs (p.d, p.q) = none) : ¬ Fol cs p := by
  rintro ⟨c, hc, hd, hq, _⟩
  exact look_none h c hc (by rw [hd, hq])
theorem fol_iff {cs : List Crd} (ho : OnceI cs) {p : PT} {c : Crd} (h : look cs (p.d, p.q) = some c) : Fol cs p ↔ roleOf c = (p.o, p.n) ∧ KindP c p := by
  obtain ⟨h1, h2⟩ := look_mem h
  constructor
  · rintro ⟨c', hc, hd, hq, hr, hk⟩
    obtain rfl : c' = c := ho c' hc c h1 (by rw [h2, hd, hq])
    exact ⟨hr, hk⟩
  · rintro ⟨hr, hk⟩
    simp only [Prod.mk.injEq] at h2
    exact ⟨c, h1, h2.1, h2.2, hr, hk⟩
theorem pr_nil {ps : List PT} : ps.map PT.pr = [] ↔ ps = [] := List.map_eq_nil_iff
theorem pr_one {ps : List PT} {r : Pr} : ps.map PT.pr = [r] ↔ ∃ a, ps = [a] ∧ a.pr = r := by
  constructor
  · intro h
    match ps, h with
    | [a], h => exact ⟨a, rfl, (List.cons.inj h).1⟩
  · rintro ⟨a, rfl, rfl⟩; rfl
theorem pr_two {ps : List PT} {r s : Pr} : ps.map PT.pr = [r, s] ↔ ∃ a b, ps = [a, b] ∧ a.pr = r ∧ b.pr = s := by
  constructor
  · intro h
    match ps, h with
    | [a, b], h =>
      simp only [List.map_cons, List.map_nil, List.cons.injEq, and_true] at h
      exact ⟨a, b, rfl, h.1, h.2⟩
  · rintro ⟨a, b, rfl, rfl, rfl⟩; rfl
def KAt (w : World) (gk b : Nat) : Prop := w.heap[gk]? = some (.cells #[.map (some b), .map none, .int .i64 0] 80 (0, 0))
theorem KAt.lt {w : World} {gk b : Nat} (h : KAt w gk b) : gk < w.heap.size := (Array.getElem?_eq_some_iff.1 h).1
theorem KAt.kept {w w' : World} {gk b : Nat} (h : KAt w gk b) (hb : Below w.heap.size w w') : KAt w' gk b := (hb.block gk h.lt).trans h
theorem KAt.cell {w : World} {gk b : Nat} (h : KAt w gk b) : w.cell? ⟨gk, 0, none⟩ = some (.map (some b)) := by rw [cell_of_row w gk 0 _ _ (0, 0) h]; rfl
set_option maxHeartbeats 8000000 in
set_option maxRecDepth 100000 in
theorem follows_any (cs : List Crd) (hmay : ∀ c ∈ cs, mayC c = true) (honce : OnceI cs) (gk b nb : Nat) (p : PT) (w : World) (hk : KAt w gk b) (hm : CMap w b nb cs) (hp : PIn w w.heap.size p) :
    Calls Tryd.prog 39 #[.pointer (some ⟨gk, 0, none⟩), .agg p.cells.toArray] w fun e w' => e = .returned (.bool (dc (Fol cs p))) ∧ Below w.heap.size w w' := by
  obtain ⟨o, n, x, d, q, A, cp, ps⟩ := p
  obtain ⟨g1, g2, g3, g4⟩ := hp.open'
  have hok := hp.ok
  obtain ⟨w1, hw1⟩ : ∃ w1, w1 = w.alloc (.cells (PT.mk o n x d q A cp ps).cells.toArray 30) := ⟨_, rfl⟩
  have HQ1 : Hid (Below w.heap.size w w1) := hid (by rw [hw1]; exact below_pr w _)
  have HPA : Hid (PrAt w1 w.heap.size (.mk o n x d q A cp ps)) := hid (by rw [hw1]; exact PrAt.new w _)
  have HPX := hid hp
  have HEL := hid (fun W (hW : Below w1.heap.size w1 W) => (g3.below (HQ1.out.trans (hW.mono HQ1.out.size))).more (Nat.le_trans HQ1.out.size hW.size))
  have HKA := hid (hk.kept HQ1.out)
  have HCM := hid (hm.kept HQ1.out)
  obtain ⟨gp, hgp⟩ : ∃ g, w.heap.size = g := ⟨_, rfl⟩
  have HGP := hid hgp
  rw [hgp] at HPA
  obtain ⟨np, hnp⟩ : ∃ np, ps.length = np := ⟨_, rfl⟩
  have HNP := hid hnp
  have hnp63 : np ≤ 9223372036854775807 := by omega
  have HK := hid (fun W (hW : Below w1.heap.size w1 W) => (⟨(HPA.out.kept hW).all, (HKA.out.kept hW).cell⟩ : _ ∧ _))
  rw [hnp] at HK
  obtain ⟨Z, hZ⟩ : ∃ Z, dc (Fol cs (.mk o n x d q A cp ps)) = Z := ⟨_, rfl⟩
  rw [hZ]
  have HLK := hid (fun W (hW : Below w1.heap.size w1 W) => (HCM.out.kept hW).look (i := (d, q)) hok)
  have HS0 := hid (fun W (hW : Below w1.heap.size w1 W) => (⟨(HK.out W hW).2, (HK.out W hW).1.2.2.2.1, (HK.out W hW).1.2.2.2.2.1⟩ : W.cell? ⟨gk, 0, none⟩ = some (.map (some b)) ∧ W.cell? ⟨gp, 3, none⟩ = some (.int .i64 d) ∧ W.cell? ⟨gp, 4, none⟩ = some (.int .i64 q)))
  have HDR := hid (Below.refl w1.heap.size w1).drew
  have hle : w1.heap.size ≤ w1.heap.size := Nat.le_refl _
  unfold PT.cells at hw1 ⊢
  simp only [hnp] at hw1 ⊢
  cases hl : look cs (d, q) with
  | none =>
    have HF : Hid (Z = false) := hid (by rw [← hZ]; exact dc_false (fol_none hl))
    rw [hl] at HLK
    simp only [Option.map_none, Option.getD_none, Option.isSome_none] at HLK
    clear hp g1 g2 g3 g4 hnp hZ hk hm hl hok
    go_enter Tryd.func39, Tryd.ntmps39
    go_wp2_with fail
    rw [← hw1]
    clear hw1 hgp
    go_region_held3 (fun w' => (w'.cell? ⟨gk, 0, none⟩ = some (.map (some b)) ∧ w'.cell? ⟨gp, 3, none⟩ = some (.int .i64 d) ∧ w'.cell? ⟨gp, 4, none⟩ = some (.int .i64 q)) ∧
        (Instr.lookup 77 (.map (some b)) (.agg #[.int .i64 d, .int .i64 q]) true).run Tryd.prog w' = .ok (.tuple #[.agg #[.int .i64 0, .int .i64 0, .string ⟨#[]⟩, .int .i64 0, .string ⟨#[]⟩, .string ⟨#[]⟩, .string ⟨#[]⟩, .string ⟨#[]⟩, .string ⟨#[]⟩], .bool false]) w')
      (first | exact ⟨HS0.out _ HDR.out, HLK.out _ HDR.out⟩ | exact ⟨HS0.out _ (HDR.out.alloc HDR.out.size _), HLK.out _ (HDR.out.alloc HDR.out.size _)⟩ | exact ⟨HS0.out _ ((HDR.out.alloc HDR.out.size _).setCell HDR.out.size _), HLK.out _ ((HDR.out.alloc HDR.out.size _).setCell HDR.out.size _)⟩)
      ((first | fail))
    all_goals
      go_wp2_with fail
      go_quiet (fail)
      go_wp2
      go_ret
      exact ⟨by rw [HF.out]; rfl, HQ1.out.trans ((below_drewN ((HDR.out.alloc HDR.out.size _)) _).mono HQ1.out.size)⟩
  | some c =>
    obtain ⟨hc1, hc2⟩ := look_mem hl
    have hmc := may_kd (hmay c hc1)
    have HZI : Hid (Z = true ↔ roleOf c = (o, n) ∧ KindP c (.mk o n x d q A cp ps)) := hid (by rw [← hZ, dc_iff, fol_iff honce (p := .mk o n x d q A cp ps) hl]; rfl)
    obtain ⟨cd, cq, nm, kd, wh, ao, an, bo, bn⟩ := c
    simp only at hmc
    rw [hl] at HLK
    simp only [Option.map_some, Option.getD_some, Option.isSome_some] at HLK
    have HRO := hid (fun W => roleC_any ⟨cd, cq, nm, kd, wh, ao, an, bo, bn⟩ (show -9223372036854775808 ≤ cd by omega) (show cd < 9223372036854775808 by omega) W)
    obtain ⟨D, hD⟩ : ∃ D : ByteArray, domB cd = D := ⟨_, rfl⟩
    have HZI := hid (show Z = true ↔ (D = o ∧ nm = n) ∧ KindP ⟨cd, cq, nm, kd, wh, ao, an, bo, bn⟩ (.mk o n x d q A cp ps) by
      rw [← hD, HZI.out]
      unfold roleOf
      simp)
    simp only [hD] at HRO
    have HCA : Hid (∀ W : World, CrAt (W.alloc (.cells (Crd.cells ⟨cd, cq, nm, kd, wh, ao, an, bo, bn⟩).toArray 55)).drew W.heap.size ⟨cd, cq, nm, kd, wh, ao, an, bo, bn⟩) := hid (fun W => CrAt.new W _)
    have HLN := hid (fun (W : World) (hW : PIn W W.heap.size (.mk o n x d q A cp ps)) => linked_any ⟨cd, cq, nm, kd, wh, ao, an, bo, bn⟩ (show -9223372036854775808 ≤ cd by omega) (show cd < 9223372036854775808 by omega) (.mk o n x d q A cp ps) W hW)
    unfold Crd.cells at HLK HRO HCA HLN
    unfold PT.cells at HLN
    simp only [hnp] at HLN
    have hkd := hmc.1
    clear hp g1 g2 g3 g4 hZ hk hm hl hok hc1 hc2 hmc hD hmay honce
    go_enter Tryd.func39, Tryd.ntmps39
    go_wp2_with fail
    rw [← hw1]
    clear hw1 hgp
    go_region_held3 (fun w' => (w'.cell? ⟨gk, 0, none⟩ = some (.map (some b)) ∧ w'.cell? ⟨gp, 3, none⟩ = some (.int .i64 d) ∧ w'.cell? ⟨gp, 4, none⟩ = some (.int .i64 q)) ∧
        (Instr.lookup 77 (.map (some b)) (.agg #[.int .i64 d, .int .i64 q]) true).run Tryd.prog w' = .ok (.tuple #[.agg #[.int .i64 cd, .int .i64 cq, .string nm, .int .i64 kd, .string wh, .string ao, .string an, .string bo, .string bn], .bool true]) w')
      (first | exact ⟨HS0.out _ HDR.out, HLK.out _ HDR.out⟩ | exact ⟨HS0.out _ (HDR.out.alloc HDR.out.size _), HLK.out _ (HDR.out.alloc HDR.out.size _)⟩ | exact ⟨HS0.out _ ((HDR.out.alloc HDR.out.size _).setCell HDR.out.size _), HLK.out _ ((HDR.out.alloc HDR.out.size _).setCell HDR.out.size _)⟩)
      ((first | fail))
    all_goals
      obtain ⟨w2, hw2⟩ : ∃ w2, w2 = (w1.alloc (.cells #[.int .i64 cd, .int .i64 cq, .string nm, .int .i64 kd, .string wh, .string ao, .string an, .string bo, .string bn] 55)).drew := ⟨_, rfl⟩
      have HB2 : Hid (Below w1.heap.size w1 w2) := hid (by rw [hw2]; exact ((Below.refl _ _).alloc (Nat.le_refl _) _).drew)
      obtain ⟨gc, hgc⟩ : ∃ g, w1.heap.size = g := ⟨_, rfl⟩
      have HC2 : Hid (CrAt w2 gc ⟨cd, cq, nm, kd, wh, ao, an, bo, bn⟩) := hid (by rw [hw2, ← hgc]; exact HCA.out w1)
      rw [← hw2, hgc]
      clear hw2 hgc HCA HLK HS0 HDR
      have HKK := hid (fun W (hW : Below w2.heap.size w2 W) => (⟨(HC2.out.kept hW).all, (HK.out W (HB2.out.trans (hW.mono HB2.out.size))).1⟩ : _ ∧ _))
      have HDR := hid (Below.refl w2.heap.size w2).drew
      have HEND : Hid (∀ W, Below w2.heap.size w2 W → Below w.heap.size w W) := hid (fun W hW => HQ1.out.trans ((HB2.out.trans (hW.mono HB2.out.size)).mono HQ1.out.size))
      have HEL2 := hid (fun W (hW : Below w2.heap.size w2 W) => HEL.out W (HB2.out.trans (hW.mono HB2.out.size)))
      by_cases hro : D = o ∧ nm = n
      · obtain ⟨rfl, rfl⟩ := hro
        have HZK : Hid (Z = true ↔ KindP ⟨cd, cq, nm, kd, wh, ao, an, bo, bn⟩ (.mk D nm x d q A cp ps)) := hid (by rw [HZI.out]; simp)
        clear HZI
        go_wp2_with fail
        have c0 := fun x : Wn w2.heap.size w2 => (HKK.out x.1 x.2).1.1
        have c1 := fun x : Wn w2.heap.size w2 => (HKK.out x.1 x.2).1.2.1
        have c2 := fun x : Wn w2.heap.size w2 => (HKK.out x.1 x.2).1.2.2.1
        have c3 := fun x : Wn w2.heap.size w2 => (HKK.out x.1 x.2).1.2.2.2.1
        have c4 := fun x : Wn w2.heap.size w2 => (HKK.out x.1 x.2).1.2.2.2.2.1
        have c5 := fun x : Wn w2.heap.size w2 => (HKK.out x.1 x.2).1.2.2.2.2.2.1
        have c6 := fun x : Wn w2.heap.size w2 => (HKK.out x.1 x.2).1.2.2.2.2.2.2.1
        have c7 := fun x : Wn w2.heap.size w2 => (HKK.out x.1 x.2).1.2.2.2.2.2.2.2.1
        have c8 := fun x : Wn w2.heap.size w2 => (HKK.out x.1 x.2).1.2.2.2.2.2.2.2.2
        have k0 := fun x : Wn w2.heap.size w2 => (HKK.out x.1 x.2).2.1
        have k1 := fun x : Wn w2.heap.size w2 => (HKK.out x.1 x.2).2.2.1
        have k2 := fun x : Wn w2.heap.size w2 => (HKK.out x.1 x.2).2.2.2.1
        have k3 := fun x : Wn w2.heap.size w2 => (HKK.out x.1 x.2).2.2.2.2.1
        have k4 := fun x : Wn w2.heap.size w2 => (HKK.out x.1 x.2).2.2.2.2.2.1
        have k5 := fun x : Wn w2.heap.size w2 => (HKK.out x.1 x.2).2.2.2.2.2.2
        refine region_in w2.heap.size w2 (by kernel_rfl) (by kernel_rfl) HDR.out ?_
        repeat (go_big_quiet_step (first | (go_at_call 58; exact call_in (Nat.le_refl _) (HRO.out _))))
        refine wpQuiet_nil ?_
        intro wq hwq
        have HWQ := hid hwq
        clear c0 c1 c2 c3 c4 c5 c6 c7 c8 k0 k1 k2 k3 k4 k5
        obtain ⟨⟨c0, c1, c2, c3, c4, c5, c6, c7, c8⟩, k0, k1, k2, k3, k4, k5⟩ := HKK.out wq hwq
        clear hwq
        rcases hkd with rfl | rfl | rfl | rfl
        · by_cases hx : x = wh
          · subst hx
            obtain ⟨T, hT⟩ : ∃ T, dc (ps.map PT.pr = []) = T := ⟨_, rfl⟩
            have HF : Hid (Z = T) := hid (Bool.eq_iff_iff.2 (by
              rw [HZK.out, ← hT, dc_iff, pr_nil]
              unfold KindP PT.x PT.ps
              simp))
            have HPV := hid (prove_any ps [] A none np 0 cp 0 HNP.out rfl hnp63 wq (HEL2.out wq HWQ.out) Els.nil)
            rw [hT] at HPV
            clear HZK hT
            go_wp2_with fail
            refine HPV.out.mono ?_
            rintro er w10 ⟨rfl, hb10⟩
            cases T <;>
            · go_wp2_with fail
              go_ret
              exact ⟨by rw [HF.out]; rfl, HEND.out _ (HWQ.out.trans (hb10.mono HWQ.out.size))⟩
          · have HF : Hid (Z = false) := hid (Bool.eq_false_iff.2 fun e => by
              have := HZK.out.1 e
              unfold KindP PT.x at this
              simp at this
              exact hx this.1)
            obtain ⟨x1, x2⟩ := inne hx
            clear hx HZK
            go_wp2_with fail
            go_ret
            exact ⟨by rw [HF.out]; rfl, HEND.out _ HWQ.out⟩
        · obtain ⟨T, hT⟩ : ∃ T, dc (ps.map PT.pr = [((ao, an), x)]) = T := ⟨_, rfl⟩
          have HF : Hid (Z = T) := hid (Bool.eq_iff_iff.2 (by
            rw [HZK.out, ← hT, dc_iff, pr_one]
            unfold KindP PT.x PT.ps
            simp))
          obtain ⟨w9, hw9⟩ : ∃ w9, w9 = wq.alloc (.cells (ev encP [((ao, an), x)]).toArray 58) := ⟨_, rfl⟩
          have HB9 : Hid (Below w2.heap.size w2 w9) := hid (by rw [hw9]; exact HWQ.out.alloc HWQ.out.size _)
          have HPV := hid (prove_any ps [((ao, an), x)] A (some ⟨wq.heap.size, 0, none⟩) np 1 cp 1 HNP.out rfl hnp63 w9 (HEL2.out w9 HB9.out) (by rw [hw9]; exact els_new wq encP _ _))
          rw [hT] at HPV
          have hw9' : w9 = wq.alloc (.cells #[.string ao, .string an, .string x] 58) := hw9
          clear HZK hT hw9
          go_wp2_with fail
          rw [← hw9']
          refine HPV.out.mono ?_
          rintro er w10 ⟨rfl, hb10⟩
          go_wp2_with fail
          go_ret
          exact ⟨by rw [HF.out]; rfl, HEND.out _ (HB9.out.trans (hb10.mono HB9.out.size))⟩
        · have HF : Hid (Z = dc (LinkP ⟨cd, cq, nm, 3, wh, ao, an, bo, bn⟩ (.mk D nm x d q A cp ps))) := hid (Bool.eq_iff_iff.2 (by
            rw [HZK.out, dc_iff]
            unfold KindP
            simp))
          have HPV := hid (HLN.out wq (HPX.out.now (HEND.out wq HWQ.out)))
          clear HZK HLN
          go_wp2_with fail
          refine HPV.out.mono ?_
          rintro er w10 ⟨rfl, hb10⟩
          go_wp2_with fail
          go_ret
          exact ⟨by rw [HF.out]; rfl, HEND.out _ (HWQ.out.trans (hb10.mono HWQ.out.size))⟩
        · obtain ⟨T, hT⟩ : ∃ T, dc (ps.map PT.pr = [((ao, an), x), ((bo, bn), x)]) = T := ⟨_, rfl⟩
          have HF : Hid (Z = T) := hid (Bool.eq_iff_iff.2 (by
            rw [HZK.out, ← hT, dc_iff, pr_two]
            unfold KindP PT.x PT.ps
            simp))
          obtain ⟨w9, hw9⟩ : ∃ w9, w9 = wq.alloc (.cells (ev encP [((ao, an), x), ((bo, bn), x)]).toArray 58) := ⟨_, rfl⟩
          have HB9 : Hid (Below w2.heap.size w2 w9) := hid (by rw [hw9]; exact HWQ.out.alloc HWQ.out.size _)
          have HPV := hid (prove_any ps [((ao, an), x), ((bo, bn), x)] A (some ⟨wq.heap.size, 0, none⟩) np 2 cp 2 HNP.out rfl hnp63 w9 (HEL2.out w9 HB9.out) (by rw [hw9]; exact els_new wq encP _ _))
          rw [hT] at HPV
          have hw9' : w9 = wq.alloc (.cells #[.string ao, .string an, .string x, .string bo, .string bn, .string x] 58) := hw9
          clear HZK hT hw9
          go_wp2_with fail
          rw [← hw9']
          refine HPV.out.mono ?_
          rintro er w10 ⟨rfl, hb10⟩
          go_wp2_with fail
          go_ret
          exact ⟨by rw [HF.out]; rfl, HEND.out _ (HB9.out.trans (hb10.mono HB9.out.size))⟩
      · have HF : Hid (Z = false) := hid (Bool.eq_false_iff.2 fun e => hro (HZI.out.1 e).1)
        by_cases ho : D = o
        · subst ho
          have hn : nm ≠ n := fun e => hro ⟨rfl, e⟩
          obtain ⟨x1, x2⟩ := inne hn
          clear hro hn HZI
          go_wp2_with fail
          have c0 := fun x : Wn w2.heap.size w2 => (HKK.out x.1 x.2).1.1
          have c1 := fun x : Wn w2.heap.size w2 => (HKK.out x.1 x.2).1.2.1
          have c2 := fun x : Wn w2.heap.size w2 => (HKK.out x.1 x.2).1.2.2.1
          have c3 := fun x : Wn w2.heap.size w2 => (HKK.out x.1 x.2).1.2.2.2.1
          have c4 := fun x : Wn w2.heap.size w2 => (HKK.out x.1 x.2).1.2.2.2.2.1
          have c5 := fun x : Wn w2.heap.size w2 => (HKK.out x.1 x.2).1.2.2.2.2.2.1
          have c6 := fun x : Wn w2.heap.size w2 => (HKK.out x.1 x.2).1.2.2.2.2.2.2.1
          have c7 := fun x : Wn w2.heap.size w2 => (HKK.out x.1 x.2).1.2.2.2.2.2.2.2.1
          have c8 := fun x : Wn w2.heap.size w2 => (HKK.out x.1 x.2).1.2.2.2.2.2.2.2.2
          have k0 := fun x : Wn w2.heap.size w2 => (HKK.out x.1 x.2).2.1
          have k1 := fun x : Wn w2.heap.size w2 => (HKK.out x.1 x.2).2.2.1
          have k2 := fun x : Wn w2.heap.size w2 => (HKK.out x.1 x.2).2.2.2.1
          have k3 := fun x : Wn w2.heap.size w2 => (HKK.out x.1 x.2).2.2.2.2.1
          have k4 := fun x : Wn w2.heap.size w2 => (HKK.out x.1 x.2).2.2.2.2.2.1
          have k5 := fun x : Wn w2.heap.size w2 => (HKK.out x.1 x.2).2.2.2.2.2.2
          refine region_in w2.heap.size w2 (by kernel_rfl) (by kernel_rfl) HDR.out ?_
          repeat (go_big_quiet_step (first | (go_at_call 58; exact call_in (Nat.le_refl _) (HRO.out _))))
          refine wpQuiet_nil ?_
          intro wq hwq
          have HWQ := hid hwq
          clear c0 c1 c2 c3 c4 c5 c6 c7 c8 k0 k1 k2 k3 k4 k5
          obtain ⟨⟨c0, c1, c2, c3, c4, c5, c6, c7, c8⟩, k0, k1, k2, k3, k4, k5⟩ := HKK.out wq hwq
          clear hwq
          go_wp2_with fail
          go_ret
          exact ⟨by rw [HF.out]; rfl, HEND.out _ HWQ.out⟩
        · obtain ⟨x1, x2⟩ := inne ho
          clear hro ho HZI
          go_wp2_with fail
          have c0 := fun x : Wn w2.heap.size w2 => (HKK.out x.1 x.2).1.1
          have c1 := fun x : Wn w2.heap.size w2 => (HKK.out x.1 x.2).1.2.1
          have c2 := fun x : Wn w2.heap.size w2 => (HKK.out x.1 x.2).1.2.2.1
          have c3 := fun x : Wn w2.heap.size w2 => (HKK.out x.1 x.2).1.2.2.2.1
          have c4 := fun x : Wn w2.heap.size w2 => (HKK.out x.1 x.2).1.2.2.2.2.1
          have c5 := fun x : Wn w2.heap.size w2 => (HKK.out x.1 x.2).1.2.2.2.2.2.1
          have c6 := fun x : Wn w2.heap.size w2 => (HKK.out x.1 x.2).1.2.2.2.2.2.2.1
          have c7 := fun x : Wn w2.heap.size w2 => (HKK.out x.1 x.2).1.2.2.2.2.2.2.2.1
          have c8 := fun x : Wn w2.heap.size w2 => (HKK.out x.1 x.2).1.2.2.2.2.2.2.2.2
          have k0 := fun x : Wn w2.heap.size w2 => (HKK.out x.1 x.2).2.1
          have k1 := fun x : Wn w2.heap.size w2 => (HKK.out x.1 x.2).2.2.1
          have k2 := fun x : Wn w2.heap.size w2 => (HKK.out x.1 x.2).2.2.2.1
          have k3 := fun x : Wn w2.heap.size w2 => (HKK.out x.1 x.2).2.2.2.2.1
          have k4 := fun x : Wn w2.heap.size w2 => (HKK.out x.1 x.2).2.2.2.2.2.1
          have k5 := fun x : Wn w2.heap.size w2 => (HKK.out x.1 x.2).2.2.2.2.2.2
          refine region_in w2.heap.size w2 (by kernel_rfl) (by kernel_rfl) HDR.out ?_
          repeat (go_big_quiet_step (first | (go_at_call 58; exact call_in (Nat.le_refl _) (HRO.out _))))
          refine wpQuiet_nil ?_
          intro wq hwq
          have HWQ := hid hwq
          clear c0 c1 c2 c3 c4 c5 c6 c7 c8 k0 k1 k2 k3 k4 k5
          obtain ⟨⟨c0, c1, c2, c3, c4, c5, c6, c7, c8⟩, k0, k1, k2, k3, k4, k5⟩ := HKK.out wq hwq
          clear hwq
          go_wp2_with fail
          go_ret
          exact ⟨by rw [HF.out]; rfl, HEND.out _ HWQ.out⟩
end Go.Proofs.YtoajckhnneagnaaDoor.Sh
namespace Go.Proofs.YtoajckhnneagnaaDoor.Sh
open Go Go.RowKit

set_option linter.unusedVariables false
set_option linter.unusedSimpArgs false

set_option maxHeartbeats 4000000 in
theorem visitF_any (cs : List Crd) (hmay : ∀ c ∈ cs, mayC c = true) (honce : OnceI cs) (gk b nb : Nat) (p : PT) : ∀ (w : World), KAt w gk b → CMap w b nb cs → PIn w w.heap.size p →
    Calls Tryd.prog 38 #[.agg p.cells.toArray, .func (.func 39) #[.pointer (some ⟨gk, 0, none⟩)] #[]] w fun e w' => e = .returned (.bool (dc (Cor cs p))) ∧ Below w.heap.size w w' := by
  induction p using PT.ind
  rename_i o n x d q A c ps ih
  intro w hk hm hp
  have HIH := hid ih
  have HPX := hid hp
  obtain ⟨h1, h2, h3, h4⟩ := hp.open'
  obtain ⟨w1, hw1⟩ : ∃ w1, w1 = w.alloc (.cells (PT.mk o n x d q A c ps).cells.toArray 30) := ⟨_, rfl⟩
  have HQ1 : Hid (Below w.heap.size w w1) := hid (by rw [hw1]; exact below_pr w _)
  have HPA : Hid (PrAt w1 w.heap.size (.mk o n x d q A c ps)) := hid (by rw [hw1]; exact PrAt.new w _)
  have HPI := hid h4
  have HEL := hid (h3.below HQ1.out)
  obtain ⟨np, hnp⟩ : ∃ np, ps.length = np := ⟨_, rfl⟩
  have HNP := hid hnp
  have hnp63 : np ≤ 9223372036854775807 := by omega
  have HPA5 := hid (fun W (hW : Below w1.heap.size w1 W) => (HPA.out.kept hW).all)
  rw [hnp] at HPA5
  unfold PT.cells at hw1 ⊢
  simp only [hnp] at hw1 ⊢
  have HKM := hid (fun W (hW : Below w1.heap.size w1 W) => (⟨(hk.kept HQ1.out).kept hW, (hm.kept HQ1.out).kept hW⟩ : KAt W gk b ∧ CMap W b nb cs))
  have HFO := hid (follows_any cs hmay honce gk b nb (.mk o n x d q A c ps) w1 (hk.kept HQ1.out) (hm.kept HQ1.out) (hp.now HQ1.out))
  unfold PT.cells at HFO
  simp only [hnp] at HFO
  obtain ⟨Z, hZ⟩ : ∃ Z, dc (Cor cs (.mk o n x d q A c ps)) = Z := ⟨_, rfl⟩
  obtain ⟨F, hF⟩ : ∃ F, dc (Fol cs (.mk o n x d q A c ps)) = F := ⟨_, rfl⟩
  have HZ : Hid (Z = true ↔ F = true ∧ ∀ a ∈ ps, Cor cs a) := hid (by rw [← hZ, ← hF, dc_iff, dc_iff, cor_iff]; rfl)
  rw [hF] at HFO
  rw [hZ]
  clear ih hp h1 h2 h3 h4 hnp hZ hF hk hm hmay honce
  go_enter Tryd.func38, Tryd.ntmps38
  go_wp2_with fail
  rw [← hw1]
  clear hw1
  refine HFO.out.mono ?_
  rintro er w2 ⟨rfl, hb2⟩
  have HB2 := hid hb2
  clear HFO hb2
  obtain ⟨k0, k1, k2, k3, k4, k5⟩ := HPA5.out _ HB2.out
  cases F with
  | false =>
    have HF : Hid (Z = false) := hid (Bool.eq_false_iff.2 fun e => by have := (HZ.out.1 e).1; cases this)
    go_wp2_with fail
    go_ret
    exact ⟨by rw [HF.out]; rfl, HQ1.out.trans (HB2.out.mono HQ1.out.size)⟩
  | true =>
    have HZT : Hid ((∀ a ∈ ps, Cor cs a) → Z = true) := hid (fun h => HZ.out.2 ⟨rfl, h⟩)
    have HZF : Hid (∀ a ∈ ps, ¬ Cor cs a → Z = false) := hid (fun a ha h => Bool.eq_false_iff.2 fun e => h ((HZ.out.1 e).2 a ha))
    clear HZ
    go_wp2_with fail
    go_loopw [14] (fun i wr => ∃ j : Nat, j ≤ np ∧ i = .int .i64 (j : Int) ∧ Hid (∀ p ∈ ps.take j, Cor cs p) ∧ Hid (Below w1.heap.size w1 wr)) (fun i _ => np - (intOf i).toNat)
    case atStart => exact ⟨0, Nat.zero_le _, rfl, hid (by simp), HB2⟩
    case round =>
      obtain ⟨j, hj, rfl, HAL, HB⟩ := hrel
      by_cases hlt : j < np
      · obtain ⟨⟨o2, n2, x2, d2, q2, A2, c2, ps2⟩, hx⟩ : ∃ x, ps[j]? = some x := ⟨_, List.getElem?_eq_getElem (by rw [HNP.out]; exact hlt)⟩
        have HX := hid hx
        have HME : Hid (PT.mk o2 n2 x2 d2 q2 A2 c2 ps2 ∈ ps) := hid (List.mem_of_getElem? hx)
        obtain ⟨ad, aj, rfl, hab, ea, hbj, a0, a1, a2, a3, a4, a5⟩ := PIn.get (HEL.out.below (HB.out.mono HQ1.out.size)) hx
        have hj0 : (0 : Int) ≤ (j : Int) := Int.natCast_nonneg _
        have hj1 : (j : Int) < (np : Int) := by omega
        have HPN := hid (fun W (hW : Below w1.heap.size w1 W) => (HPI.out _ HME.out).now (HQ1.out.trans (hW.mono HQ1.out.size)))
        clear hx hab hbj
        obtain ⟨wb, hwb⟩ : ∃ wb, wb = wr.alloc (.cells (PT.mk o2 n2 x2 d2 q2 A2 c2 ps2).cells.toArray 30) := ⟨_, rfl⟩
        have HBB : Hid (Below w1.heap.size w1 wb) := hid (by rw [hwb]; exact HB.out.alloc HB.out.size _)
        have HCA := hid (HIH.out _ HME.out wb (HKM.out _ HBB.out).1 (HKM.out _ HBB.out).2 (HPN.out _ HBB.out))
        unfold PT.cells at HCA hwb
        simp only at HCA hwb
        obtain ⟨T, hT⟩ : ∃ T, dc (Cor cs (.mk o2 n2 x2 d2 q2 A2 c2 ps2)) = T := ⟨_, rfl⟩
        have HT : Hid (T = true ↔ Cor cs (.mk o2 n2 x2 d2 q2 A2 c2 ps2)) := hid (by rw [← hT, dc_iff])
        rw [hT] at HCA
        clear hT
        go_wp2_with fail
        rw [← hwb]
        refine HCA.out.mono ?_
        rintro er w3 ⟨rfl, hb3⟩
        have HB3 := hid (HBB.out.trans (hb3.mono HBB.out.size))
        clear hb3 HCA hwb a0 a1 a2 a3 a4 a5
        cases T with
        | true =>
          have HT2 := hid (mem_take_succ HX.out HAL.out (HT.out.1 rfl))
          go_wp2_with fail
          go_roundw
          case rel => exact ⟨j + 1, by omega, by go_num, HT2, HB3⟩
          case measure => simp [intOf]; omega
        | false =>
          have HF : Hid (Z = false) := hid (HZF.out _ HME.out (fun e => by have := HT.out.2 e; cases this))
          go_wp2_with fail
          go_ret
          exact ⟨by rw [HF.out]; rfl, HQ1.out.trans (HB3.out.mono HQ1.out.size)⟩
      · obtain rfl : j = np := by omega
        have HF : Hid (Z = true) := hid (HZT.out (by have := HAL.out; rwa [List.take_of_length_le (by rw [HNP.out]; exact Nat.le_refl _)] at this))
        go_wp2_with fail
        go_ret
        exact ⟨by rw [HF.out]; rfl, HQ1.out.trans (HB.out.mono HQ1.out.size)⟩
end Go.Proofs.YtoajckhnneagnaaDoor.Sh
namespace Go.Proofs.YtoajckhnneagnaaDoor.Sh
open Go Go.RowKit

set_option linter.unusedVariables false
set_option linter.unusedSimpArgs false

theorem counts_onceI {out l : List Crd} (h : CountsOf out l) : OnceI out := fun c hc c' hc' e => by
  have h1 := counts_one h hc
  have h2 := counts_one h hc'
  simp only [Prod.mk.injEq] at e
  rw [← e.1, ← e.2, h1] at h2
  exact (List.cons.inj h2).1
theorem look_take {cs : List Crd} (h : OnceI cs) (hn : cs.Nodup) {j : Nat} {c : Crd} (hx : cs[j]? = some c) : look (cs.take j) (c.d, c.q) = none := by
  cases hl : look (cs.take j) (c.d, c.q) with
  | none => rfl
  | some c' =>
    obtain ⟨h1, h2⟩ := look_mem hl
    obtain rfl : c' = c := h c' (List.mem_of_mem_take h1) c (List.mem_of_getElem? hx) h2
    exfalso
    obtain ⟨i, hi, e⟩ := List.mem_iff_getElem.1 h1
    rw [List.getElem_take] at e
    have hi2 : i < j := by rw [List.length_take] at hi; omega
    obtain ⟨hj, e2⟩ := List.getElem?_eq_some_iff.1 hx
    have := (List.getElem_inj hn).1 (e.trans e2.symm)
    omega
theorem counts_nodup {out l : List Crd} (h : CountsOf out l) : out.Nodup := by
  have : ∀ (a : List Crd), (∀ c ∈ a, a.filter (idIs c.d c.q) = [c]) → a.Nodup := by
    intro a
    induction a with
    | nil => intro _; exact List.nodup_nil
    | cons x t ih =>
      intro ha
      have hx := ha x (by simp)
      rw [List.filter_cons_of_pos (by simp [idIs])] at hx
      have hx0 : t.filter (idIs x.d x.q) = [] := (List.cons.inj hx).2
      have hnot : ∀ c ∈ t, ¬ (c.d = x.d ∧ c.q = x.q) := fun c hc hh => by
        have : c ∈ t.filter (idIs x.d x.q) := List.mem_filter.2 ⟨hc, idIs_iff.2 hh⟩
        rw [hx0] at this
        cases this
      refine List.nodup_cons.2 ⟨fun hh => hnot x hh ⟨rfl, rfl⟩, ih fun c hc => ?_⟩
      have hc1 := ha c (by simp [hc])
      rwa [List.filter_cons_of_neg (by rw [idIs_iff]; intro hh; exact hnot c hc ⟨hh.1.symm, hh.2.symm⟩)] at hc1
  exact this out fun c hc => counts_one h hc
theorem may_okI {c : Crd} (h : mayC c = true) : okI (c.d, c.q) := by
  unfold mayC headOk at h
  simp only [Bool.and_eq_true, decide_eq_true_eq] at h
  obtain ⟨⟨⟨h1, h2, h3, h4⟩, _⟩, _⟩ := h
  refine ⟨⟨?_, ?_⟩, ⟨?_, ?_⟩⟩ <;> simp only <;> omega
theorem wpList_cmap {ops : Array Oper} {rest : List Oper} {o : Oper} {a : Act} {w : World} {Q : Exit → Act → World → Prop} (hg : o.guard = none) (m x v : Operand) (hop : o.op = Op.mapUpdate 77 m x v)
    {b n : Nat} {cs : List Crd} (hm : a.eval m = .map (some b)) (h : CMap w b n cs) (hn : n < 1000000) (c : Crd) (hx : a.eval x = .agg #[.int .i64 c.d, .int .i64 c.q]) (hv : a.eval v = .agg c.cells.toArray) (hi : okI (c.d, c.q)) (hno : look cs (c.d, c.q) = none)
    (hK : ∀ w', CMap w' b (n + 1) (cs ++ [c]) → w.grownBy w' (some b) → wpList Tryd.prog ops Q rest (a.put o.dst undef) w') : wpList Tryd.prog ops Q (o :: rest) a w := by
  refine wpList_plain hg fun K' hK' => ?_
  obtain ⟨w', hrun, r1, r2⟩ := h.store hn hi hno
  unfold Oper.wp
  simp [execOp, hop, hm, hx, hv, hrun, Result.andThen]
  exact hK' _ _ (hK w' r1 r2)
set_option maxHeartbeats 4000000 in
set_option maxRecDepth 100000 in
theorem check_any (A : Option Addr) (all : List Crd) (n c : Nat) (hn : all.length = n) (hc : n ≤ c) (hc2 : c ≤ 9223372036854775807) (hm : n ≤ 1000) (p : PT) (w : World) (h : Crs w w.heap.size A all) (hp : PIn w w.heap.size p) :
    Calls Tryd.prog 20 #[.slice A n c, .agg p.cells.toArray] w fun e w' => ∃ out, CountsOf out all ∧ e = .returned (.int .i64 (bif dc (Cor out p) then 0 else 15)) ∧ Below w.heap.size w w' := by
  have hmf : ∀ (fn : Fn) (first cap : Array Value) (w : World), (Instr.makeFunc fn first cap).run Tryd.prog w = .ok (.func fn first cap) w := fun _ _ _ _ => rfl
  have hmm := @run_makeMap Tryd.prog
  obtain ⟨o, n', x, d, q, A', cp, ps⟩ := p
  obtain ⟨g0, hg0⟩ : ∃ g, w.heap.size = g := ⟨_, rfl⟩
  obtain ⟨w1, hw1⟩ : ∃ w1, w1 = ((w.alloc (.cells (PT.mk o n' x d q A' cp ps).cells.toArray 30)).alloc (.map #[] 0)).alloc (.cells #[.map (some (g0 + 1)), .map none, .int .i64 0] 80) := ⟨_, rfl⟩
  have hsz : w1.heap.size = g0 + 3 := by rw [hw1, World.size_alloc, World.size_alloc, World.size_alloc, hg0]
  have HQ1 : Hid (Below w.heap.size w w1) := hid (by rw [hw1]; exact (((Below.refl _ w).alloc (Nat.le_refl _) _).alloc (by rw [World.size_alloc]; exact Nat.le_succ _) _).alloc (by rw [World.size_alloc, World.size_alloc]; omega) _)
  have HPA : Hid (PrAt w1 g0 (.mk o n' x d q A' cp ps)) := hid (by
    rw [hw1, ← hg0]
    exact ((PrAt.new w _).kept ((Below.refl _ _).alloc (Nat.le_refl _) _)).kept ((Below.refl _ _).alloc (Nat.le_refl _) _))
  have HCM : Hid (CMap w1 (g0 + 1) 0 []) := hid (by
    rw [hw1]
    have := CMap.new (w.alloc (.cells (PT.mk o n' x d q A' cp ps).cells.toArray 30))
    rw [World.size_alloc, hg0] at this
    exact this.kept ((Below.refl _ _).alloc (Nat.le_refl _) _))
  have HKA : Hid (KAt w1 (g0 + 1 + 1) (g0 + 1)) := hid (by
    rw [hw1]
    have := heap_alloc_new ((w.alloc (.cells (PT.mk o n' x d q A' cp ps).cells.toArray 30)).alloc (.map #[] 0)) (.cells #[.map (some (g0 + 1)), .map none, .int .i64 0] 80)
    rw [World.size_alloc, World.size_alloc, hg0] at this
    exact this)
  have HCO := hid (counts_any A all n c hn hc hc2 (by omega) w1 ((h.below HQ1.out).more HQ1.out.size))
  have HPI := hid hp
  obtain ⟨np, hnp⟩ : ∃ np, ps.length = np := ⟨_, rfl⟩
  have HNP := hid hnp
  have HM : Hid (n ≤ 1000) := hid hm
  unfold PT.cells at hw1 ⊢
  simp only [hnp] at hw1 ⊢
  have HSZ := hid hsz
  have HG0 := hid hg0
  clear h hp hn hc hc2 hnp hm hsz
  go_enter Tryd.func20, Tryd.ntmps20
  go_wp2_with fail
  rw [← hw1]
  obtain ⟨gk, hgk⟩ : ∃ g, g0 + 1 + 1 = g := ⟨_, rfl⟩
  obtain ⟨gb, hgb⟩ : ∃ g, g0 + 1 = g := ⟨_, rfl⟩
  have HGK : Hid (g0 + 1 + 1 = gk ∧ g0 + 1 = gb) := hid ⟨hgk, hgb⟩
  rw [hgk] at HKA ⊢
  rw [hgb] at HKA HCM ⊢
  clear hw1 hg0 hgk hgb
  refine HCO.out.mono ?_
  rintro er w2 ⟨Ac, nc, cc, cs, rfl, hnc, oc, hco, bb⟩
  have HB2 := hid bb
  have HCN := hid hco
  have HCS := hid oc.crs
  have HCL := hid oc.len
  have HCI := hid (counts_onceI hco)
  have HND := hid (counts_nodup hco)
  have HMY : Hid (∀ c ∈ cs, mayC c = true) := hid (fun c hc => (counts_mem hco hc).1)
  have HFA : Hid (∀ ad, Ac = some ad → g0 + 3 ≤ ad.block ∨ cs = []) := hid (fun ad e => by
    rcases oc.2 with ⟨h1, h2⟩ | ⟨g, cap, cur, hv, hb, hg, h3⟩
    · refine .inr (List.eq_nil_of_length_eq_zero ?_)
      have := oc.len
      omega
    · simp only [Value.slice.injEq] at hv
      rw [hv.1] at e
      injection e with e
      subst e
      rw [HSZ.out] at hb
      exact .inl hb)
  have hnc63 : nc ≤ 1000 := by have := HM.out; omega
  clear HCO bb oc hco hnc
  go_wp2_with fail
  go_loopw [13] (fun i wr => ∃ j : Nat, j ≤ nc ∧ i = .int .i64 (j : Int) ∧ Hid (CMap wr gb j (cs.take j)) ∧ Hid (w2.grownBy wr (some gb))) (fun i _ => nc - (intOf i).toNat)
  case atStart => exact ⟨0, Nat.zero_le _, rfl, hid (by simpa using HCM.out.kept HB2.out), hid ⟨rfl, rfl, rfl, Nat.le_refl _, fun _ _ _ => rfl⟩⟩
  case round =>
    obtain ⟨j, hj, rfl, HMJ, HGR⟩ := hrel
    have HKR : Hid (KAt wr gk gb) := hid ((HGR.out.block gk (HKA.out.kept HB2.out).lt (fun e => by injection e with e; have := HGK.out; omega)).trans (HKA.out.kept HB2.out))
    have HPR : Hid (PrAt wr g0 (.mk o n' x d q A' cp ps)) := hid ((HGR.out.block g0 (HPA.out.kept HB2.out).lt (fun e => by injection e with e; have := HGK.out; omega)).trans (HPA.out.kept HB2.out))
    have HBW : Hid (Below w.heap.size w wr) := hid ((HQ1.out.trans (HB2.out.mono HQ1.out.size)).grown HGR.out (by have := HQ1.out.size; have := HB2.out.size; omega) (fun k e => by injection e with e; have := HG0.out; have := HGK.out; omega))
    have kc := HKR.out.cell
    obtain ⟨k0, k1, k2, k3, k4, k5⟩ := HPR.out.all
    rw [HNP.out] at k5
    by_cases hlt : j < nc
    · obtain ⟨⟨cd, cq, nm, kd, wh, ao, an, bo, bn⟩, hx⟩ : ∃ x, cs[j]? = some x := ⟨_, List.getElem?_eq_getElem (by rw [HCL.out]; exact hlt)⟩
      have HX := hid hx
      have HCR : Hid (Crs wr w2.heap.size Ac cs) := hid (fun hn => by
        obtain ⟨ad, e, hb, hcl⟩ := HCS.out hn
        refine ⟨ad, e, hb, fun j x hx => ?_⟩
        rw [← hcl j x hx]
        unfold World.cell?
        rw [block_add, HGR.out.block ad.block hb (fun e2 => by
          injection e2 with e2
          have := HGK.out
          rcases HFA.out ad e with h | h
          · omega
          · rw [h] at hn; simp at hn)])
      obtain ⟨ad, aj, rfl, hab, ea, hbj, a0, a1, a2, a3, a4, a5, a6, a7, a8⟩ := HCR.out.get hx
      simp only at a0 a1 a2 a3 a4 a5 a6 a7 a8
      have hj0 : (0 : Int) ≤ (j : Int) := Int.natCast_nonneg _
      have hj1 : (j : Int) < (nc : Int) := by omega
      have HOK := hid (may_okI (HMY.out _ (List.mem_of_getElem? hx)))
      have HNO := hid (look_take HCI.out HND.out hx)
      have HMB := hid (HMJ.out.kept ((Below.refl wr.heap.size wr).alloc (Nat.le_refl _) (.cells #[.int .i64 cd, .int .i64 cq, .string nm, .int .i64 kd, .string wh, .string ao, .string an, .string bo, .string bn] 55)))
      have HGB : Hid (w2.grownBy (wr.alloc (.cells #[.int .i64 cd, .int .i64 cq, .string nm, .int .i64 kd, .string wh, .string ao, .string an, .string bo, .string bn] 55)) (some gb)) := hid (HGR.out.trans (World.grownBy_alloc wr _ _))
      have hjm : j < 1000000 := by omega
      have kc2 := (HKR.out.kept ((Below.refl wr.heap.size wr).alloc (Nat.le_refl _) (.cells #[.int .i64 cd, .int .i64 cq, .string nm, .int .i64 kd, .string wh, .string ao, .string an, .string bo, .string bn] 55))).cell
      clear hx hab hbj
      go_wp2_with (first | (at_mapUpdate; refine wpList_cmap rfl (.tmp 18) (.tmp 20) (.tmp 21) rfl rfl HMB.out hjm ⟨cd, cq, nm, kd, wh, ao, an, bo, bn⟩ rfl rfl HOK.out HNO.out ?_; intro w5 hm5 hg5) | go_in)
      have HM5 := hid hm5
      have HG5 := hid (HGB.out.trans hg5)
      clear hm5 hg5 kc kc2 k0 k1 k2 k3 k4 k5 a0 a1 a2 a3 a4 a5 a6 a7 a8
      go_wp2_with fail
      go_roundw
      case rel => exact ⟨j + 1, by omega, by go_num, hid (by rw [take_snoc_of HX.out]; exact HM5.out), HG5⟩
      case measure => simp [intOf]; omega
    · obtain rfl : j = nc := by omega
      have e1 : cs.take j = cs := List.take_of_length_le (by rw [HCL.out]; exact Nat.le_refl _)
      rw [e1] at HMJ
      have HVI := hid (visitF_any cs HMY.out HCI.out gk gb j (.mk o n' x d q A' cp ps) wr HKR.out HMJ.out (HPI.out.now HBW.out))
      unfold PT.cells at HVI
      simp only [HNP.out] at HVI
      obtain ⟨T, hT⟩ : ∃ T, dc (Cor cs (.mk o n' x d q A' cp ps)) = T := ⟨_, rfl⟩
      have HT := hid hT
      rw [hT] at HVI
      clear hT e1
      go_wp2_with fail
      refine HVI.out.mono ?_
      rintro er w6 ⟨rfl, hb6⟩
      cases T <;>
      · go_wp2_with fail
        go_ret
        exact ⟨cs, HCN.out, by rw [HT.out]; rfl, HBW.out.trans (hb6.mono HBW.out.size)⟩
end Go.Proofs.YtoajckhnneagnaaDoor.Sh
