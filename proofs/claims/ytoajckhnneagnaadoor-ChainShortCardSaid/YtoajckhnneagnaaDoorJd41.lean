/-
  The document's own of and Check, by contract.
-/
import Derived.Test.YtoajckhnneagnaaDoorJd40
import Derived.Test.YtoajckhnneagnaaDoorJd38
import Derived.Test.YtoajckhnneagnaaDoorJd22
set_option linter.unusedVariables false
set_option linter.unusedSimpArgs false
namespace Go.Proofs.YtoajckhnneagnaaDoor.Sh
open Go Go.RowKit

set_option linter.unusedVariables false
set_option linter.unusedSimpArgs false

theorem len_two {l : List PT} (h : l.length = 2) : ∃ a b, l = [a, b] := by
  match l, h with
  | [a, b], _ => exact ⟨a, b, rfl⟩
theorem look_snoc_no {cs : List Crd} {j : Nat} {c : Crd} {i : Int × Int} (hx : cs[j]? = some c) (h : look (cs.take j) i = none) (hne : (c.d, c.q) ≠ i) : look (cs.take (j + 1)) i = none := by
  rw [take_snoc_of hx, look_snoc, h, if_neg hne]; rfl
set_option maxHeartbeats 16000000 in
set_option maxRecDepth 100000 in
theorem of_any (cs : List Crd) (hmay : ∀ c ∈ cs, mayC c = true) (honce : OnceI cs) (C : Option Addr) (nc cc : Nat) (hnc : cs.length = nc) (hcm : nc ≤ 1000) (p : PT) : ∀ (o' n' x' : ByteArray) (w : World), Crs w w.heap.size C cs → PIn w w.heap.size p →
    Calls Tryd.prog 36 #[.slice C nc cc, .agg p.cells.toArray, .agg #[.string o', .string n'], .string x'] w fun e w' => e = .returned (.bool (dc (OfP cs p ((o', n'), x')))) ∧ Below w.heap.size w w' := by
  induction p using PT.ind
  rename_i o n x d q A c ps ih
  intro o' n' x' w hc hp
  have HIH := hid ih
  obtain ⟨h1, h2, h3, h4⟩ := hp.open'
  obtain ⟨w1, hw1⟩ : ∃ w1, w1 = (w.alloc (.cells (PT.mk o n x d q A c ps).cells.toArray 30)).alloc (.cells #[.string o', .string n'] 24) := ⟨_, rfl⟩
  have HQ1 : Hid (Below w.heap.size w w1) := hid (by rw [hw1]; exact (below_pr w _).alloc (by rw [World.size_alloc]; exact Nat.le_succ _) _)
  have HPA : Hid (PrAt w1 w.heap.size (.mk o n x d q A c ps)) := hid (by rw [hw1]; exact (PrAt.new w _).kept ((Below.refl _ _).alloc (Nat.le_refl _) _))
  have HRA : Hid (RoleAt w1 (w.heap.size + 1) o' n') := hid (by rw [hw1]; have := RoleAt.new (w.alloc (.cells (PT.mk o n x d q A c ps).cells.toArray 30)) o' n'; rwa [World.size_alloc] at this)
  have HPI := hid (fun a (ha : a ∈ ps) W (hW : Below w1.heap.size w1 W) => (h4 a ha).now (HQ1.out.trans (hW.mono HQ1.out.size)))
  have HEL := hid (fun W (hW : Below w1.heap.size w1 W) => (h3.below (HQ1.out.trans (hW.mono HQ1.out.size))).more (Nat.le_trans HQ1.out.size hW.size))
  have HCR := hid (fun W (hW : Below w1.heap.size w1 W) => (hc.below (HQ1.out.trans (hW.mono HQ1.out.size))).more (Nat.le_trans HQ1.out.size hW.size))
  obtain ⟨np, hnp⟩ : ∃ np, ps.length = np := ⟨_, rfl⟩
  have HNP := hid hnp
  have hnp63 : np ≤ 9223372036854775807 := by omega
  have HPA5 := hid (fun W (hW : Below w1.heap.size w1 W) => (HPA.out.kept hW).all)
  rw [hnp] at HPA5
  have HRA2 := hid (fun W (hW : Below w1.heap.size w1 W) => (⟨(HRA.out.kept hW).c0, (HRA.out.kept hW).c1⟩ : W.cell? ⟨w.heap.size + 1, 0, none⟩ = some (.string o') ∧ W.cell? ⟨w.heap.size + 1, 1, none⟩ = some (.string n')))
  have HMY := hid hmay
  have HON := hid honce
  have HNC := hid hnc
  obtain ⟨Z, hZ⟩ : ∃ Z, dc (OfP cs (.mk o n x d q A c ps) ((o', n'), x')) = Z := ⟨_, rfl⟩
  have HZ : Hid (Z = true ↔ OfP cs (.mk o n x d q A c ps) ((o', n'), x')) := hid (by rw [← hZ, dc_iff])
  have HZF : Hid (¬ (o = o' ∧ n = n' ∧ x = x') → Z = false) := hid (fun h => by
    rw [← hZ]
    refine dc_false fun e => h ?_
    have := e.1
    unfold PT.pr PT.o PT.n PT.x at this
    simp only [Prod.mk.injEq] at this
    exact ⟨this.1.1, this.1.2, this.2⟩)
  rw [hZ]
  unfold PT.cells at hw1 ⊢
  simp only [hnp] at hw1 ⊢
  clear ih hp hc h1 h2 h3 h4 hnp hZ hmay honce hnc
  by_cases hpr : o = o' ∧ n = n' ∧ x = x'
  · obtain ⟨rfl, rfl, rfl⟩ := hpr
    clear HZF
    go_enter Tryd.func36, Tryd.ntmps36
    go_wp2_with fail
    rw [← hw1]
    clear hw1
    go_loopw [9] (fun i wr => ∃ j : Nat, j ≤ nc ∧ i = .int .i64 (j : Int) ∧ Hid (look (cs.take j) (d, q) = none) ∧ Hid (Below w1.heap.size w1 wr)) (fun i _ => nc - (intOf i).toNat)
    case atStart => exact ⟨0, Nat.zero_le _, rfl, hid rfl, hid (Below.refl _ _)⟩
    case round =>
      obtain ⟨j, hj, rfl, HLK, HB⟩ := hrel
      by_cases hlt : j < nc
      · obtain ⟨⟨cd, cq, nm, kd, wh, ao, an, bo, bn⟩, hx⟩ : ∃ x, cs[j]? = some x := ⟨_, List.getElem?_eq_getElem (by rw [HNC.out]; exact hlt)⟩
        have HX := hid hx
        obtain ⟨ad, aj, rfl, hab, ea, hbj, a0, a1, a2, a3, a4, a5, a6, a7, a8⟩ := (HCR.out _ HB.out).get hx
        simp only at a0 a1 a2 a3 a4 a5 a6 a7 a8
        have hj0 : (0 : Int) ≤ (j : Int) := Int.natCast_nonneg _
        have hj1 : (j : Int) < (nc : Int) := by omega
        have HMC : Hid ((kd = 1 ∨ kd = 2 ∨ kd = 3 ∨ kd = 4) ∧ 1 ≤ cd ∧ cd ≤ 16) := hid (may_kd (HMY.out _ (List.mem_of_getElem? hx)))
        have HLO := hid (look_of HON.out (List.mem_of_getElem? hx))
        obtain ⟨w2, hw2⟩ : ∃ w2, w2 = wr.alloc (.cells (Crd.cells ⟨cd, cq, nm, kd, wh, ao, an, bo, bn⟩).toArray 55) := ⟨_, rfl⟩
        have HB2 : Hid (Below w1.heap.size w1 w2) := hid (by rw [hw2]; exact HB.out.alloc HB.out.size _)
        obtain ⟨gc, hgc⟩ : ∃ g, wr.heap.size = g := ⟨_, rfl⟩
        have HCA : Hid (CrAt w2 gc ⟨cd, cq, nm, kd, wh, ao, an, bo, bn⟩) := hid (by rw [hw2, ← hgc]; exact CrAt.new wr _)
        obtain ⟨k0, k1, k2, k3, k4, k5⟩ := HPA5.out _ HB2.out
        have hw2' : w2 = wr.alloc (.cells #[.int .i64 cd, .int .i64 cq, .string nm, .int .i64 kd, .string wh, .string ao, .string an, .string bo, .string bn] 55) := hw2
        rw [hw2'] at k0 k1 k2 k3 k4 k5
        clear hx hab hbj hw2
        by_cases hid' : cd = d ∧ cq = q
        · obtain ⟨rfl, rfl⟩ := hid'
          go_wp2_with fail
          rw [← hw2']
          try rw [hgc]
          clear hw2' hgc k0 k1 k2 k3 k4 k5 a0 a1 a2 a3 a4 a5 a6 a7 a8
          have HKK := hid (fun W (hW : Below w2.heap.size w2 W) => (HCA.out.kept hW).all)
          have HKP := hid (fun W (hW : Below w2.heap.size w2 W) => HPA5.out W (HB2.out.trans (hW.mono HB2.out.size)))
          have HKR := hid (fun W (hW : Below w2.heap.size w2 W) => HRA2.out W (HB2.out.trans (hW.mono HB2.out.size)))
          have HEND : Hid (∀ W, Below w2.heap.size w2 W → Below w.heap.size w W) := hid (fun W hW => HQ1.out.trans ((HB2.out.trans (hW.mono HB2.out.size)).mono HQ1.out.size))
          have HDR := hid (Below.refl w2.heap.size w2).drew
          have hcd0 : -9223372036854775808 ≤ cd := by have := HMC.out.2; omega
          have hcd1 : cd < 9223372036854775808 := by have := HMC.out.2; omega
          have HRO0 := hid (fun W => refRoleC_any ⟨cd, cq, nm, kd, wh, ao, an, bo, bn⟩ hcd0 hcd1 W)
          obtain ⟨D, hD⟩ : ∃ D : ByteArray, domB cd = D := ⟨_, rfl⟩
          have HD := hid hD
          unfold Crd.cells at HRO0
          simp only [hD] at HRO0
          have HRO := hid (fun W (_ : Below w2.heap.size w2 W) => HRO0.out W)
          clear HRO0 hD
          by_cases hro : D = o ∧ nm = n
          · obtain ⟨rfl, rfl⟩ := hro
            have HRL : Hid (roleOf ⟨cd, cq, nm, kd, wh, ao, an, bo, bn⟩ = (D, nm)) := hid (by unfold roleOf; rw [HD.out])
            go_wp2_with fail
            have c0 := fun x : Wn w2.heap.size w2 => (HKK.out x.1 x.2).1
            have c1 := fun x : Wn w2.heap.size w2 => (HKK.out x.1 x.2).2.1
            have c2 := fun x : Wn w2.heap.size w2 => (HKK.out x.1 x.2).2.2.1
            have c3 := fun x : Wn w2.heap.size w2 => (HKK.out x.1 x.2).2.2.2.1
            have c4 := fun x : Wn w2.heap.size w2 => (HKK.out x.1 x.2).2.2.2.2.1
            have c5 := fun x : Wn w2.heap.size w2 => (HKK.out x.1 x.2).2.2.2.2.2.1
            have c6 := fun x : Wn w2.heap.size w2 => (HKK.out x.1 x.2).2.2.2.2.2.2.1
            have c7 := fun x : Wn w2.heap.size w2 => (HKK.out x.1 x.2).2.2.2.2.2.2.2.1
            have c8 := fun x : Wn w2.heap.size w2 => (HKK.out x.1 x.2).2.2.2.2.2.2.2.2
            have k0 := fun x : Wn w2.heap.size w2 => (HKP.out x.1 x.2).1
            have k1 := fun x : Wn w2.heap.size w2 => (HKP.out x.1 x.2).2.1
            have k2 := fun x : Wn w2.heap.size w2 => (HKP.out x.1 x.2).2.2.1
            have k3 := fun x : Wn w2.heap.size w2 => (HKP.out x.1 x.2).2.2.2.1
            have k4 := fun x : Wn w2.heap.size w2 => (HKP.out x.1 x.2).2.2.2.2.1
            have k5 := fun x : Wn w2.heap.size w2 => (HKP.out x.1 x.2).2.2.2.2.2
            have r0 := fun x : Wn w2.heap.size w2 => (HKR.out x.1 x.2).1
            have r1 := fun x : Wn w2.heap.size w2 => (HKR.out x.1 x.2).2
            refine region_in w2.heap.size w2 (by kernel_rfl) (by kernel_rfl) HDR.out ?_
            repeat (go_big_quiet_step (first | (go_at_call 51; with_reducible exact call_in2 (Nat.le_refl _) HRO.out)))
            refine wpQuiet_nil ?_
            intro wq hwq
            have HWQ := hid hwq
            clear hwq c0 c1 c2 c3 c4 c5 c6 c7 c8 k0 k1 k2 k3 k4 k5 r0 r1
            obtain ⟨c0, c1, c2, c3, c4, c5, c6, c7, c8⟩ := HKK.out _ HWQ.out
            obtain ⟨k0, k1, k2, k3, k4, k5⟩ := HKP.out _ HWQ.out
            have hkd := HMC.out.1
            have HEB : Hid (∀ W, Below wq.heap.size wq W → Below w2.heap.size w2 W) := hid (fun W hW => HWQ.out.trans (hW.mono HWQ.out.size))
            have HDR := hid (Below.refl wq.heap.size wq).drew
            have HKK := hid (fun W (hW : Below wq.heap.size wq W) => HKK.out W (HEB.out W hW))
            have HKP := hid (fun W (hW : Below wq.heap.size wq W) => HKP.out W (HEB.out W hW))
            have HCQ := hid (fun W (hW : Below wq.heap.size wq W) => HCR.out W (HB2.out.trans ((HEB.out W hW).mono HB2.out.size)))
            have HPQ := hid (fun a ha W (hW : Below wq.heap.size wq W) => HPI.out a ha W (HB2.out.trans ((HEB.out W hW).mono HB2.out.size)))
            have HEQ := hid (HEL.out wq (HB2.out.trans (HWQ.out.mono HB2.out.size)))
            have HENQ : Hid (∀ W, Below wq.heap.size wq W → Below w.heap.size w W) := hid (fun W hW => HEND.out W (HEB.out W hW))
            clear HRO
            rcases hkd with rfl | rfl | rfl | rfl
            · have HZ1 := hid (of_1 (A := A) (cp := c) (x := x) (ps := ps) HON.out HLO.out HRL.out rfl)
              by_cases hw : wh = x
              · by_cases h0 : np = 0
                · have HF : Hid (Z = true) := hid (HZ.out.2 (HZ1.out.2 ⟨hw, List.eq_nil_of_length_eq_zero (by rw [HNP.out, h0])⟩))
                  subst hw h0
                  clear HZ1
                  go_wp2_with fail
                  go_ret
                  exact ⟨by rw [HF.out]; rfl, HENQ.out _ (Below.refl _ _)⟩
                · have hn0 : ¬ (np : Int) = 0 := by omega
                  have HF : Hid (Z = false) := hid (Bool.eq_false_iff.2 fun e => h0 (by rw [← HNP.out, (HZ1.out.1 (HZ.out.1 e)).2]; rfl))
                  have hnb : ((np : Int) == 0) = false := beq_eq_false_iff_ne.2 hn0
                  subst hw
                  clear HZ1
                  go_wp2_with fail
                  go_ret
                  exact ⟨by rw [HF.out]; rfl, HENQ.out _ (Below.refl _ _)⟩
              · have HF : Hid (Z = false) := hid (Bool.eq_false_iff.2 fun e => hw (HZ1.out.1 (HZ.out.1 e)).1)
                obtain ⟨x1, x2⟩ := inne hw
                clear hw HZ1
                go_wp2_with fail
                go_ret
                exact ⟨by rw [HF.out]; rfl, HENQ.out _ (Below.refl _ _)⟩
            · have HZ1 := hid (of_2 (A := A) (cp := c) (x := x) (ps := ps) HON.out HLO.out HRL.out rfl)
              by_cases h1 : np = 1
              · obtain ⟨a, rfl⟩ := List.length_eq_one_iff.1 (HNP.out.trans h1)
                subst h1
                obtain ⟨o2, n2, x2, d2, q2, A2, cp2, ps2⟩ := a
                obtain ⟨bd, bj, rfl, hbb, eb, hbj, b0, b1, b2, b3, b4, b5⟩ := PIn.get HEQ.out (j := 0) rfl
                have eb : bd = bj := by rw [← eb]; exact (add_zero bd).symm
                subst eb
                have HKA := hid (fun W (hW : Below wq.heap.size wq W) => (⟨(hW.cell (p := bd) hbb).trans b0, (hW.cell (p := ⟨bd.block, bd.off + 1, none⟩) hbb).trans b1, (hW.cell (p := ⟨bd.block, bd.off + 2, none⟩) hbb).trans b2, (hW.cell (p := ⟨bd.block, bd.off + 3, none⟩) hbb).trans b3, (hW.cell (p := ⟨bd.block, bd.off + 4, none⟩) hbb).trans b4, (hW.cell (p := ⟨bd.block, bd.off + 5, none⟩) hbb).trans b5⟩ : _ ∧ _ ∧ _ ∧ _ ∧ _ ∧ _))
                clear b0 b1 b2 b3 b4 b5 hbb hbj
                obtain ⟨T, hT⟩ : ∃ T, dc (OfP cs (.mk o2 n2 x2 d2 q2 A2 cp2 ps2) ((ao, an), x)) = T := ⟨_, rfl⟩
                have HF : Hid (Z = T) := hid (Bool.eq_iff_iff.2 (by
                  rw [HZ.out, HZ1.out, ← hT, dc_iff]
                  constructor
                  · rintro ⟨a, e, h⟩
                    obtain rfl := (List.cons.inj e).1
                    exact h
                  · intro h
                    exact ⟨_, rfl, h⟩))
                have HC1 := hid (fun W (hW : Below wq.heap.size wq W) => HIH.out (.mk o2 n2 x2 d2 q2 A2 cp2 ps2) (by simp) ao an x W (HCQ.out W hW) (HPQ.out (.mk o2 n2 x2 d2 q2 A2 cp2 ps2) (by simp) W hW))
                unfold PT.cells at HC1
                simp only [hT] at HC1
                clear hT HZ1 k0 k1 k2 k3 k4 k5
                cases T <;>
                · go_wp2_with fail
                  clear c0 c1 c2 c3 c4 c5 c6 c7 c8
                  have c0 := fun x : Wn wq.heap.size wq => (HKK.out x.1 x.2).1
                  have c1 := fun x : Wn wq.heap.size wq => (HKK.out x.1 x.2).2.1
                  have c2 := fun x : Wn wq.heap.size wq => (HKK.out x.1 x.2).2.2.1
                  have c3 := fun x : Wn wq.heap.size wq => (HKK.out x.1 x.2).2.2.2.1
                  have c4 := fun x : Wn wq.heap.size wq => (HKK.out x.1 x.2).2.2.2.2.1
                  have c5 := fun x : Wn wq.heap.size wq => (HKK.out x.1 x.2).2.2.2.2.2.1
                  have c6 := fun x : Wn wq.heap.size wq => (HKK.out x.1 x.2).2.2.2.2.2.2.1
                  have c7 := fun x : Wn wq.heap.size wq => (HKK.out x.1 x.2).2.2.2.2.2.2.2.1
                  have c8 := fun x : Wn wq.heap.size wq => (HKK.out x.1 x.2).2.2.2.2.2.2.2.2
                  have k0 := fun x : Wn wq.heap.size wq => (HKP.out x.1 x.2).1
                  have k1 := fun x : Wn wq.heap.size wq => (HKP.out x.1 x.2).2.1
                  have k2 := fun x : Wn wq.heap.size wq => (HKP.out x.1 x.2).2.2.1
                  have k3 := fun x : Wn wq.heap.size wq => (HKP.out x.1 x.2).2.2.2.1
                  have k4 := fun x : Wn wq.heap.size wq => (HKP.out x.1 x.2).2.2.2.2.1
                  have k5 := fun x : Wn wq.heap.size wq => (HKP.out x.1 x.2).2.2.2.2.2
                  have a0 := fun x : Wn wq.heap.size wq => (HKA.out x.1 x.2).1
                  have a1 := fun x : Wn wq.heap.size wq => (HKA.out x.1 x.2).2.1
                  have a2 := fun x : Wn wq.heap.size wq => (HKA.out x.1 x.2).2.2.1
                  have a3 := fun x : Wn wq.heap.size wq => (HKA.out x.1 x.2).2.2.2.1
                  have a4 := fun x : Wn wq.heap.size wq => (HKA.out x.1 x.2).2.2.2.2.1
                  have a5 := fun x : Wn wq.heap.size wq => (HKA.out x.1 x.2).2.2.2.2.2
                  refine region_in wq.heap.size wq (by kernel_rfl) (by kernel_rfl) HDR.out ?_
                  repeat (go_big_quiet_step (first | (go_at_call 36; with_reducible exact call_in2 (Nat.le_refl _) HC1.out)))
                  refine wpQuiet_nil ?_
                  intro wr2 hwq
                  have HWQ := hid hwq
                  clear hwq c0 c1 c2 c3 c4 c5 c6 c7 c8 k0 k1 k2 k3 k4 k5 a0 a1 a2 a3 a4 a5
                  go_wp2_with fail
                  go_ret
                  exact ⟨by rw [HF.out]; rfl, HENQ.out _ HWQ.out⟩
              · have hn0 : ¬ (np : Int) = 1 := by omega
                have hnb : ((np : Int) == 1) = false := beq_eq_false_iff_ne.2 hn0
                have HF : Hid (Z = false) := hid (Bool.eq_false_iff.2 fun e => h1 (by obtain ⟨a, e, _⟩ := HZ1.out.1 (HZ.out.1 e); rw [← HNP.out, e]; rfl))
                clear HZ1
                go_wp2_with fail
                clear c0 c1 c2 c3 c4 c5 c6 c7 c8 k0 k1 k2 k3 k4 k5
                have c0 := fun x : Wn wq.heap.size wq => (HKK.out x.1 x.2).1
                have c1 := fun x : Wn wq.heap.size wq => (HKK.out x.1 x.2).2.1
                have c2 := fun x : Wn wq.heap.size wq => (HKK.out x.1 x.2).2.2.1
                have c3 := fun x : Wn wq.heap.size wq => (HKK.out x.1 x.2).2.2.2.1
                have c4 := fun x : Wn wq.heap.size wq => (HKK.out x.1 x.2).2.2.2.2.1
                have c5 := fun x : Wn wq.heap.size wq => (HKK.out x.1 x.2).2.2.2.2.2.1
                have c6 := fun x : Wn wq.heap.size wq => (HKK.out x.1 x.2).2.2.2.2.2.2.1
                have c7 := fun x : Wn wq.heap.size wq => (HKK.out x.1 x.2).2.2.2.2.2.2.2.1
                have c8 := fun x : Wn wq.heap.size wq => (HKK.out x.1 x.2).2.2.2.2.2.2.2.2
                have k0 := fun x : Wn wq.heap.size wq => (HKP.out x.1 x.2).1
                have k1 := fun x : Wn wq.heap.size wq => (HKP.out x.1 x.2).2.1
                have k2 := fun x : Wn wq.heap.size wq => (HKP.out x.1 x.2).2.2.1
                have k3 := fun x : Wn wq.heap.size wq => (HKP.out x.1 x.2).2.2.2.1
                have k4 := fun x : Wn wq.heap.size wq => (HKP.out x.1 x.2).2.2.2.2.1
                have k5 := fun x : Wn wq.heap.size wq => (HKP.out x.1 x.2).2.2.2.2.2
                refine region_in wq.heap.size wq (by kernel_rfl) (by kernel_rfl) HDR.out ?_
                repeat (go_big_quiet_step (fail))
                refine wpQuiet_nil ?_
                intro wr2 hwq
                have HWQ := hid hwq
                clear hwq c0 c1 c2 c3 c4 c5 c6 c7 c8 k0 k1 k2 k3 k4 k5
                go_wp2_with fail
                go_ret
                exact ⟨by rw [HF.out]; rfl, HENQ.out _ HWQ.out⟩
            · have HZ1 := hid (of_3 (A := A) (cp := c) (x := x) (ps := ps) HON.out HLO.out HRL.out rfl)
              by_cases h1 : np = 2
              · obtain ⟨a, b, rfl⟩ := len_two (HNP.out.trans h1)
                subst h1
                obtain ⟨o2, n2, x2, d2, q2, A2, cp2, ps2⟩ := a
                obtain ⟨bd, bj, rfl, hbb, eb, hbj, b0, b1, b2, b3, b4, b5⟩ := PIn.get HEQ.out (j := 0) rfl
                have eb : bd = bj := by rw [← eb]; exact (add_zero bd).symm
                subst eb
                have HKA := hid (fun W (hW : Below wq.heap.size wq W) => (⟨(hW.cell (p := bd) hbb).trans b0, (hW.cell (p := ⟨bd.block, bd.off + 1, none⟩) hbb).trans b1, (hW.cell (p := ⟨bd.block, bd.off + 2, none⟩) hbb).trans b2, (hW.cell (p := ⟨bd.block, bd.off + 3, none⟩) hbb).trans b3, (hW.cell (p := ⟨bd.block, bd.off + 4, none⟩) hbb).trans b4, (hW.cell (p := ⟨bd.block, bd.off + 5, none⟩) hbb).trans b5⟩ : _ ∧ _ ∧ _ ∧ _ ∧ _ ∧ _))
                clear b0 b1 b2 b3 b4 b5 hbb hbj
                obtain ⟨o3, n3, x3, d3, q3, A3, cp3, ps3⟩ := b
                obtain ⟨bd', bj, ebd, hbb, eb, hbj, b0, b1, b2, b3, b4, b5⟩ := PIn.get HEQ.out (j := 1) rfl
                obtain rfl : bd = bd' := Option.some.inj ebd
                have hbk : bj.block < wq.heap.size := by rw [hbj]; exact hbb
                have eb : bd.add 6 = bj := eb
                have HKB := hid (fun W (hW : Below wq.heap.size wq W) => (⟨(hW.cell (p := bj) hbk).trans b0, (hW.cell (p := ⟨bj.block, bj.off + 1, none⟩) hbk).trans b1, (hW.cell (p := ⟨bj.block, bj.off + 2, none⟩) hbk).trans b2, (hW.cell (p := ⟨bj.block, bj.off + 3, none⟩) hbk).trans b3, (hW.cell (p := ⟨bj.block, bj.off + 4, none⟩) hbk).trans b4, (hW.cell (p := ⟨bj.block, bj.off + 5, none⟩) hbk).trans b5⟩ : _ ∧ _ ∧ _ ∧ _ ∧ _ ∧ _))
                clear b0 b1 b2 b3 b4 b5 hbb hbj hbk ebd
                obtain ⟨T, hT⟩ : ∃ T, dc (OfP cs (.mk o2 n2 x2 d2 q2 A2 cp2 ps2) ((D, an), x2)) = T := ⟨_, rfl⟩
                obtain ⟨U, hU⟩ : ∃ U, dc (OfP cs (.mk o3 n3 x3 d3 q3 A3 cp3 ps3) ((x2, bn), x)) = U := ⟨_, rfl⟩
                obtain ⟨N, hN⟩ : ∃ N, numL x2.data.toList = N := ⟨_, rfl⟩
                have HF : Hid (Z = true ↔ N ≠ 0 ∧ T = true ∧ U = true) := hid (by
                  rw [HZ.out, HZ1.out, ← hT, ← hU, dc_iff, dc_iff, ← hN]
                  have ef : firstOf ⟨cd, cq, nm, 3, wh, ao, an, bo, bn⟩ = (D, an) := by unfold firstOf; rw [HD.out]
                  constructor
                  · rintro ⟨a, b, e, h0, h, h'⟩
                    obtain ⟨rfl, e2⟩ := List.cons.inj e
                    obtain ⟨rfl, -⟩ := List.cons.inj e2
                    rw [ef] at h
                    exact ⟨h0, h, h'⟩
                  · rintro ⟨h0, h, h'⟩
                    exact ⟨_, _, rfl, h0, by rw [ef]; exact h, h'⟩)
                have HC1 := hid (fun W (hW : Below wq.heap.size wq W) => HIH.out (.mk o2 n2 x2 d2 q2 A2 cp2 ps2) (by simp) D an x2 W (HCQ.out W hW) (HPQ.out (.mk o2 n2 x2 d2 q2 A2 cp2 ps2) (by simp) W hW))
                have HC2 := hid (fun W (hW : Below wq.heap.size wq W) => HIH.out (.mk o3 n3 x3 d3 q3 A3 cp3 ps3) (by simp) x2 bn x W (HCQ.out W hW) (HPQ.out (.mk o3 n3 x3 d3 q3 A3 cp3 ps3) (by simp) W hW))
                have HNU : Hid (∀ W, Below wq.heap.size wq W → Calls Tryd.prog 52 #[.string x2] W fun e w' => e = .returned (.int .i64 (N : Int)) ∧ Below W.heap.size W w') := hid (fun W _ => (refNnum_any x2 W).mono fun e w' ⟨h1, h2⟩ => ⟨by rw [h1, hN], by rw [h2]; exact Below.refl _ _⟩)
                have HFI := hid (fun W (_ : Below wq.heap.size wq W) => first_any ⟨cd, cq, nm, 3, wh, ao, an, bo, bn⟩ hcd0 hcd1 W)
                unfold Crd.cells at HFI
                simp only [HD.out] at HFI
                unfold PT.cells at HC1 HC2
                simp only [hT] at HC1
                simp only [hU] at HC2
                obtain ⟨a0, a1, a2, a3, a4, a5⟩ := HKA.out _ (Below.refl _ _)
                clear hT hU HZ1 hN
                by_cases hN0 : N = 0
                · subst hN0
                  have HF : Hid (Z = false) := hid (Bool.eq_false_iff.2 fun e => (HF.out.1 e).1 rfl)
                  go_wp2_with fail
                  clear c0 c1 c2 c3 c4 c5 c6 c7 c8 k0 k1 k2 k3 k4 k5 a0 a1 a2 a3 a4 a5
                  have c0 := fun x : Wn wq.heap.size wq => (HKK.out x.1 x.2).1
                  have c1 := fun x : Wn wq.heap.size wq => (HKK.out x.1 x.2).2.1
                  have c2 := fun x : Wn wq.heap.size wq => (HKK.out x.1 x.2).2.2.1
                  have c3 := fun x : Wn wq.heap.size wq => (HKK.out x.1 x.2).2.2.2.1
                  have c4 := fun x : Wn wq.heap.size wq => (HKK.out x.1 x.2).2.2.2.2.1
                  have c5 := fun x : Wn wq.heap.size wq => (HKK.out x.1 x.2).2.2.2.2.2.1
                  have c6 := fun x : Wn wq.heap.size wq => (HKK.out x.1 x.2).2.2.2.2.2.2.1
                  have c7 := fun x : Wn wq.heap.size wq => (HKK.out x.1 x.2).2.2.2.2.2.2.2.1
                  have c8 := fun x : Wn wq.heap.size wq => (HKK.out x.1 x.2).2.2.2.2.2.2.2.2
                  have k0 := fun x : Wn wq.heap.size wq => (HKP.out x.1 x.2).1
                  have k1 := fun x : Wn wq.heap.size wq => (HKP.out x.1 x.2).2.1
                  have k2 := fun x : Wn wq.heap.size wq => (HKP.out x.1 x.2).2.2.1
                  have k3 := fun x : Wn wq.heap.size wq => (HKP.out x.1 x.2).2.2.2.1
                  have k4 := fun x : Wn wq.heap.size wq => (HKP.out x.1 x.2).2.2.2.2.1
                  have k5 := fun x : Wn wq.heap.size wq => (HKP.out x.1 x.2).2.2.2.2.2
                  have a0 := fun x : Wn wq.heap.size wq => (HKA.out x.1 x.2).1
                  have a1 := fun x : Wn wq.heap.size wq => (HKA.out x.1 x.2).2.1
                  have a2 := fun x : Wn wq.heap.size wq => (HKA.out x.1 x.2).2.2.1
                  have a3 := fun x : Wn wq.heap.size wq => (HKA.out x.1 x.2).2.2.2.1
                  have a4 := fun x : Wn wq.heap.size wq => (HKA.out x.1 x.2).2.2.2.2.1
                  have a5 := fun x : Wn wq.heap.size wq => (HKA.out x.1 x.2).2.2.2.2.2
                  have b0 := fun x : Wn wq.heap.size wq => (HKB.out x.1 x.2).1
                  have b1 := fun x : Wn wq.heap.size wq => (HKB.out x.1 x.2).2.1
                  have b2 := fun x : Wn wq.heap.size wq => (HKB.out x.1 x.2).2.2.1
                  have b3 := fun x : Wn wq.heap.size wq => (HKB.out x.1 x.2).2.2.2.1
                  have b4 := fun x : Wn wq.heap.size wq => (HKB.out x.1 x.2).2.2.2.2.1
                  have b5 := fun x : Wn wq.heap.size wq => (HKB.out x.1 x.2).2.2.2.2.2
                  refine region_in wq.heap.size wq (by kernel_rfl) (by kernel_rfl) HDR.out ?_
                  repeat (go_big_quiet_step (first | (go_at_call 52; with_reducible exact call_in2 (Nat.le_refl _) HNU.out) | (go_at_call 53; with_reducible exact call_in2 (Nat.le_refl _) HFI.out) | (go_at_call 36; with_reducible exact call_in2 (Nat.le_refl _) HC1.out) | (go_at_call 36; with_reducible exact call_in2 (Nat.le_refl _) HC2.out)))
                  refine wpQuiet_nil ?_
                  intro wr2 hwq
                  have HWQ := hid hwq
                  clear hwq c0 c1 c2 c3 c4 c5 c6 c7 c8 k0 k1 k2 k3 k4 k5 a0 a1 a2 a3 a4 a5 b0 b1 b2 b3 b4 b5
                  go_wp2_with fail
                  go_ret
                  exact ⟨by rw [HF.out]; rfl, HENQ.out _ HWQ.out⟩
                · have hNi : (0 : Int) < (N : Int) := by omega
                  have hNb : decide ((0 : Int) < (N : Int)) = true := decide_eq_true hNi
                  have hNc : 0 < N := by omega
                  have hNd : decide (0 < N) = true := decide_eq_true hNc
                  have HFZ : Hid (Z = (T && U)) := hid (Bool.eq_iff_iff.2 (by rw [HF.out, Bool.and_eq_true]; exact ⟨fun h => h.2, fun h => ⟨hN0, h⟩⟩))
                  clear hN0 HF
                  cases T <;> cases U <;>
                  · go_wp2_with fail
                    clear c0 c1 c2 c3 c4 c5 c6 c7 c8 k0 k1 k2 k3 k4 k5 a0 a1 a2 a3 a4 a5
                    have c0 := fun x : Wn wq.heap.size wq => (HKK.out x.1 x.2).1
                    have c1 := fun x : Wn wq.heap.size wq => (HKK.out x.1 x.2).2.1
                    have c2 := fun x : Wn wq.heap.size wq => (HKK.out x.1 x.2).2.2.1
                    have c3 := fun x : Wn wq.heap.size wq => (HKK.out x.1 x.2).2.2.2.1
                    have c4 := fun x : Wn wq.heap.size wq => (HKK.out x.1 x.2).2.2.2.2.1
                    have c5 := fun x : Wn wq.heap.size wq => (HKK.out x.1 x.2).2.2.2.2.2.1
                    have c6 := fun x : Wn wq.heap.size wq => (HKK.out x.1 x.2).2.2.2.2.2.2.1
                    have c7 := fun x : Wn wq.heap.size wq => (HKK.out x.1 x.2).2.2.2.2.2.2.2.1
                    have c8 := fun x : Wn wq.heap.size wq => (HKK.out x.1 x.2).2.2.2.2.2.2.2.2
                    have k0 := fun x : Wn wq.heap.size wq => (HKP.out x.1 x.2).1
                    have k1 := fun x : Wn wq.heap.size wq => (HKP.out x.1 x.2).2.1
                    have k2 := fun x : Wn wq.heap.size wq => (HKP.out x.1 x.2).2.2.1
                    have k3 := fun x : Wn wq.heap.size wq => (HKP.out x.1 x.2).2.2.2.1
                    have k4 := fun x : Wn wq.heap.size wq => (HKP.out x.1 x.2).2.2.2.2.1
                    have k5 := fun x : Wn wq.heap.size wq => (HKP.out x.1 x.2).2.2.2.2.2
                    have a0 := fun x : Wn wq.heap.size wq => (HKA.out x.1 x.2).1
                    have a1 := fun x : Wn wq.heap.size wq => (HKA.out x.1 x.2).2.1
                    have a2 := fun x : Wn wq.heap.size wq => (HKA.out x.1 x.2).2.2.1
                    have a3 := fun x : Wn wq.heap.size wq => (HKA.out x.1 x.2).2.2.2.1
                    have a4 := fun x : Wn wq.heap.size wq => (HKA.out x.1 x.2).2.2.2.2.1
                    have a5 := fun x : Wn wq.heap.size wq => (HKA.out x.1 x.2).2.2.2.2.2
                    have b0 := fun x : Wn wq.heap.size wq => (HKB.out x.1 x.2).1
                    have b1 := fun x : Wn wq.heap.size wq => (HKB.out x.1 x.2).2.1
                    have b2 := fun x : Wn wq.heap.size wq => (HKB.out x.1 x.2).2.2.1
                    have b3 := fun x : Wn wq.heap.size wq => (HKB.out x.1 x.2).2.2.2.1
                    have b4 := fun x : Wn wq.heap.size wq => (HKB.out x.1 x.2).2.2.2.2.1
                    have b5 := fun x : Wn wq.heap.size wq => (HKB.out x.1 x.2).2.2.2.2.2
                    refine region_in wq.heap.size wq (by kernel_rfl) (by kernel_rfl) HDR.out ?_
                    repeat (go_big_quiet_step (first | (go_at_call 52; with_reducible exact call_in2 (Nat.le_refl _) HNU.out) | (go_at_call 53; with_reducible exact call_in2 (Nat.le_refl _) HFI.out) | (go_at_call 36; with_reducible exact call_in2 (Nat.le_refl _) HC1.out) | (go_at_call 36; with_reducible exact call_in2 (Nat.le_refl _) HC2.out)))
                    refine wpQuiet_nil ?_
                    intro wr2 hwq
                    have HWQ := hid hwq
                    clear hwq c0 c1 c2 c3 c4 c5 c6 c7 c8 k0 k1 k2 k3 k4 k5 a0 a1 a2 a3 a4 a5 b0 b1 b2 b3 b4 b5
                    go_wp2_with fail
                    go_ret
                    exact ⟨by rw [HFZ.out]; rfl, HENQ.out _ HWQ.out⟩
              · have hn0 : ¬ (np : Int) = 2 := by omega
                have HF : Hid (Z = false) := hid (Bool.eq_false_iff.2 fun e => h1 (by obtain ⟨a, b, e, _⟩ := HZ1.out.1 (HZ.out.1 e); rw [← HNP.out, e]; rfl))
                clear HZ1
                go_wp2_with fail
                go_ret
                exact ⟨by rw [HF.out]; rfl, HENQ.out _ (Below.refl _ _)⟩
            · have HZ1 := hid (of_4 (A := A) (cp := c) (x := x) (ps := ps) HON.out HLO.out HRL.out rfl)
              by_cases h1 : np = 2
              · obtain ⟨a, b, rfl⟩ := len_two (HNP.out.trans h1)
                subst h1
                obtain ⟨o2, n2, x2, d2, q2, A2, cp2, ps2⟩ := a
                obtain ⟨bd, bj, rfl, hbb, eb, hbj, b0, b1, b2, b3, b4, b5⟩ := PIn.get HEQ.out (j := 0) rfl
                have eb : bd = bj := by rw [← eb]; exact (add_zero bd).symm
                subst eb
                have HKA := hid (fun W (hW : Below wq.heap.size wq W) => (⟨(hW.cell (p := bd) hbb).trans b0, (hW.cell (p := ⟨bd.block, bd.off + 1, none⟩) hbb).trans b1, (hW.cell (p := ⟨bd.block, bd.off + 2, none⟩) hbb).trans b2, (hW.cell (p := ⟨bd.block, bd.off + 3, none⟩) hbb).trans b3, (hW.cell (p := ⟨bd.block, bd.off + 4, none⟩) hbb).trans b4, (hW.cell (p := ⟨bd.block, bd.off + 5, none⟩) hbb).trans b5⟩ : _ ∧ _ ∧ _ ∧ _ ∧ _ ∧ _))
                clear b0 b1 b2 b3 b4 b5 hbb hbj
                obtain ⟨o3, n3, x3, d3, q3, A3, cp3, ps3⟩ := b
                obtain ⟨bd', bj, ebd, hbb, eb, hbj, b0, b1, b2, b3, b4, b5⟩ := PIn.get HEQ.out (j := 1) rfl
                obtain rfl : bd = bd' := Option.some.inj ebd
                have hbk : bj.block < wq.heap.size := by rw [hbj]; exact hbb
                have eb : bd.add 6 = bj := eb
                have HKB := hid (fun W (hW : Below wq.heap.size wq W) => (⟨(hW.cell (p := bj) hbk).trans b0, (hW.cell (p := ⟨bj.block, bj.off + 1, none⟩) hbk).trans b1, (hW.cell (p := ⟨bj.block, bj.off + 2, none⟩) hbk).trans b2, (hW.cell (p := ⟨bj.block, bj.off + 3, none⟩) hbk).trans b3, (hW.cell (p := ⟨bj.block, bj.off + 4, none⟩) hbk).trans b4, (hW.cell (p := ⟨bj.block, bj.off + 5, none⟩) hbk).trans b5⟩ : _ ∧ _ ∧ _ ∧ _ ∧ _ ∧ _))
                clear b0 b1 b2 b3 b4 b5 hbb hbj hbk ebd
                obtain ⟨T, hT⟩ : ∃ T, dc (OfP cs (.mk o2 n2 x2 d2 q2 A2 cp2 ps2) ((ao, an), x)) = T := ⟨_, rfl⟩
                obtain ⟨U, hU⟩ : ∃ U, dc (OfP cs (.mk o3 n3 x3 d3 q3 A3 cp3 ps3) ((bo, bn), x)) = U := ⟨_, rfl⟩
                have HF : Hid (Z = (T && U)) := hid (Bool.eq_iff_iff.2 (by
                  rw [HZ.out, HZ1.out, Bool.and_eq_true, ← hT, ← hU, dc_iff, dc_iff]
                  constructor
                  · rintro ⟨a, b, e, h, h'⟩
                    obtain ⟨rfl, e2⟩ := List.cons.inj e
                    obtain ⟨rfl, -⟩ := List.cons.inj e2
                    exact ⟨h, h'⟩
                  · rintro ⟨h, h'⟩
                    exact ⟨_, _, rfl, h, h'⟩))
                have HC1 := hid (fun W (hW : Below wq.heap.size wq W) => HIH.out (.mk o2 n2 x2 d2 q2 A2 cp2 ps2) (by simp) ao an x W (HCQ.out W hW) (HPQ.out (.mk o2 n2 x2 d2 q2 A2 cp2 ps2) (by simp) W hW))
                have HC2 := hid (fun W (hW : Below wq.heap.size wq W) => HIH.out (.mk o3 n3 x3 d3 q3 A3 cp3 ps3) (by simp) bo bn x W (HCQ.out W hW) (HPQ.out (.mk o3 n3 x3 d3 q3 A3 cp3 ps3) (by simp) W hW))
                unfold PT.cells at HC1 HC2
                simp only [hT] at HC1
                simp only [hU] at HC2
                clear hT hU HZ1
                cases T <;> cases U <;>
                · go_wp2_with fail
                  clear c0 c1 c2 c3 c4 c5 c6 c7 c8 k0 k1 k2 k3 k4 k5
                  have c0 := fun x : Wn wq.heap.size wq => (HKK.out x.1 x.2).1
                  have c1 := fun x : Wn wq.heap.size wq => (HKK.out x.1 x.2).2.1
                  have c2 := fun x : Wn wq.heap.size wq => (HKK.out x.1 x.2).2.2.1
                  have c3 := fun x : Wn wq.heap.size wq => (HKK.out x.1 x.2).2.2.2.1
                  have c4 := fun x : Wn wq.heap.size wq => (HKK.out x.1 x.2).2.2.2.2.1
                  have c5 := fun x : Wn wq.heap.size wq => (HKK.out x.1 x.2).2.2.2.2.2.1
                  have c6 := fun x : Wn wq.heap.size wq => (HKK.out x.1 x.2).2.2.2.2.2.2.1
                  have c7 := fun x : Wn wq.heap.size wq => (HKK.out x.1 x.2).2.2.2.2.2.2.2.1
                  have c8 := fun x : Wn wq.heap.size wq => (HKK.out x.1 x.2).2.2.2.2.2.2.2.2
                  have k0 := fun x : Wn wq.heap.size wq => (HKP.out x.1 x.2).1
                  have k1 := fun x : Wn wq.heap.size wq => (HKP.out x.1 x.2).2.1
                  have k2 := fun x : Wn wq.heap.size wq => (HKP.out x.1 x.2).2.2.1
                  have k3 := fun x : Wn wq.heap.size wq => (HKP.out x.1 x.2).2.2.2.1
                  have k4 := fun x : Wn wq.heap.size wq => (HKP.out x.1 x.2).2.2.2.2.1
                  have k5 := fun x : Wn wq.heap.size wq => (HKP.out x.1 x.2).2.2.2.2.2
                  have a0 := fun x : Wn wq.heap.size wq => (HKA.out x.1 x.2).1
                  have a1 := fun x : Wn wq.heap.size wq => (HKA.out x.1 x.2).2.1
                  have a2 := fun x : Wn wq.heap.size wq => (HKA.out x.1 x.2).2.2.1
                  have a3 := fun x : Wn wq.heap.size wq => (HKA.out x.1 x.2).2.2.2.1
                  have a4 := fun x : Wn wq.heap.size wq => (HKA.out x.1 x.2).2.2.2.2.1
                  have a5 := fun x : Wn wq.heap.size wq => (HKA.out x.1 x.2).2.2.2.2.2
                  have b0 := fun x : Wn wq.heap.size wq => (HKB.out x.1 x.2).1
                  have b1 := fun x : Wn wq.heap.size wq => (HKB.out x.1 x.2).2.1
                  have b2 := fun x : Wn wq.heap.size wq => (HKB.out x.1 x.2).2.2.1
                  have b3 := fun x : Wn wq.heap.size wq => (HKB.out x.1 x.2).2.2.2.1
                  have b4 := fun x : Wn wq.heap.size wq => (HKB.out x.1 x.2).2.2.2.2.1
                  have b5 := fun x : Wn wq.heap.size wq => (HKB.out x.1 x.2).2.2.2.2.2
                  refine region_in wq.heap.size wq (by kernel_rfl) (by kernel_rfl) HDR.out ?_
                  repeat (go_big_quiet_step (first | (go_at_call 36; with_reducible exact call_in2 (Nat.le_refl _) HC1.out) | (go_at_call 36; with_reducible exact call_in2 (Nat.le_refl _) HC2.out)))
                  refine wpQuiet_nil ?_
                  intro wr2 hwq
                  have HWQ := hid hwq
                  clear hwq c0 c1 c2 c3 c4 c5 c6 c7 c8 k0 k1 k2 k3 k4 k5 a0 a1 a2 a3 a4 a5 b0 b1 b2 b3 b4 b5
                  go_wp2_with fail
                  go_ret
                  exact ⟨by rw [HF.out]; rfl, HENQ.out _ HWQ.out⟩
              · have hn0 : ¬ (np : Int) = 2 := by omega
                have HF : Hid (Z = false) := hid (Bool.eq_false_iff.2 fun e => h1 (by obtain ⟨a, b, e, _⟩ := HZ1.out.1 (HZ.out.1 e); rw [← HNP.out, e]; rfl))
                clear HZ1
                go_wp2_with fail
                go_ret
                exact ⟨by rw [HF.out]; rfl, HENQ.out _ (Below.refl _ _)⟩
          · have HF : Hid (Z = false) := hid (Bool.eq_false_iff.2 fun e => of_role HON.out (p := .mk o n x cd cq A c ps) HLO.out (fun e2 => hro (by unfold roleOf at e2; rw [HD.out] at e2; exact Prod.mk.inj e2)) (HZ.out.1 e))
            by_cases ho : D = o
            · subst ho
              have hn : nm ≠ n := fun e => hro ⟨rfl, e⟩
              obtain ⟨x1, x2⟩ := inne hn
              clear hro hn
              go_wp2_with fail
              have c0 := fun x : Wn w2.heap.size w2 => (HKK.out x.1 x.2).1
              have c1 := fun x : Wn w2.heap.size w2 => (HKK.out x.1 x.2).2.1
              have c2 := fun x : Wn w2.heap.size w2 => (HKK.out x.1 x.2).2.2.1
              have c3 := fun x : Wn w2.heap.size w2 => (HKK.out x.1 x.2).2.2.2.1
              have c4 := fun x : Wn w2.heap.size w2 => (HKK.out x.1 x.2).2.2.2.2.1
              have c5 := fun x : Wn w2.heap.size w2 => (HKK.out x.1 x.2).2.2.2.2.2.1
              have c6 := fun x : Wn w2.heap.size w2 => (HKK.out x.1 x.2).2.2.2.2.2.2.1
              have c7 := fun x : Wn w2.heap.size w2 => (HKK.out x.1 x.2).2.2.2.2.2.2.2.1
              have c8 := fun x : Wn w2.heap.size w2 => (HKK.out x.1 x.2).2.2.2.2.2.2.2.2
              have k0 := fun x : Wn w2.heap.size w2 => (HKP.out x.1 x.2).1
              have k1 := fun x : Wn w2.heap.size w2 => (HKP.out x.1 x.2).2.1
              have k2 := fun x : Wn w2.heap.size w2 => (HKP.out x.1 x.2).2.2.1
              have k3 := fun x : Wn w2.heap.size w2 => (HKP.out x.1 x.2).2.2.2.1
              have k4 := fun x : Wn w2.heap.size w2 => (HKP.out x.1 x.2).2.2.2.2.1
              have k5 := fun x : Wn w2.heap.size w2 => (HKP.out x.1 x.2).2.2.2.2.2
              have r0 := fun x : Wn w2.heap.size w2 => (HKR.out x.1 x.2).1
              have r1 := fun x : Wn w2.heap.size w2 => (HKR.out x.1 x.2).2
              refine region_in w2.heap.size w2 (by kernel_rfl) (by kernel_rfl) HDR.out ?_
              repeat (go_big_quiet_step (first | (go_at_call 51; with_reducible exact call_in2 (Nat.le_refl _) HRO.out)))
              refine wpQuiet_nil ?_
              intro wq hwq
              have HWQ := hid hwq
              clear hwq c0 c1 c2 c3 c4 c5 c6 c7 c8 k0 k1 k2 k3 k4 k5 r0 r1
              go_wp2_with fail
              go_ret
              exact ⟨by rw [HF.out]; rfl, HEND.out _ HWQ.out⟩
            · obtain ⟨x1, x2⟩ := inne ho
              clear hro ho
              go_wp2_with fail
              have c0 := fun x : Wn w2.heap.size w2 => (HKK.out x.1 x.2).1
              have c1 := fun x : Wn w2.heap.size w2 => (HKK.out x.1 x.2).2.1
              have c2 := fun x : Wn w2.heap.size w2 => (HKK.out x.1 x.2).2.2.1
              have c3 := fun x : Wn w2.heap.size w2 => (HKK.out x.1 x.2).2.2.2.1
              have c4 := fun x : Wn w2.heap.size w2 => (HKK.out x.1 x.2).2.2.2.2.1
              have c5 := fun x : Wn w2.heap.size w2 => (HKK.out x.1 x.2).2.2.2.2.2.1
              have c6 := fun x : Wn w2.heap.size w2 => (HKK.out x.1 x.2).2.2.2.2.2.2.1
              have c7 := fun x : Wn w2.heap.size w2 => (HKK.out x.1 x.2).2.2.2.2.2.2.2.1
              have c8 := fun x : Wn w2.heap.size w2 => (HKK.out x.1 x.2).2.2.2.2.2.2.2.2
              have k0 := fun x : Wn w2.heap.size w2 => (HKP.out x.1 x.2).1
              have k1 := fun x : Wn w2.heap.size w2 => (HKP.out x.1 x.2).2.1
              have k2 := fun x : Wn w2.heap.size w2 => (HKP.out x.1 x.2).2.2.1
              have k3 := fun x : Wn w2.heap.size w2 => (HKP.out x.1 x.2).2.2.2.1
              have k4 := fun x : Wn w2.heap.size w2 => (HKP.out x.1 x.2).2.2.2.2.1
              have k5 := fun x : Wn w2.heap.size w2 => (HKP.out x.1 x.2).2.2.2.2.2
              have r0 := fun x : Wn w2.heap.size w2 => (HKR.out x.1 x.2).1
              have r1 := fun x : Wn w2.heap.size w2 => (HKR.out x.1 x.2).2
              refine region_in w2.heap.size w2 (by kernel_rfl) (by kernel_rfl) HDR.out ?_
              repeat (go_big_quiet_step (first | (go_at_call 51; with_reducible exact call_in2 (Nat.le_refl _) HRO.out)))
              refine wpQuiet_nil ?_
              intro wq hwq
              have HWQ := hid hwq
              clear hwq c0 c1 c2 c3 c4 c5 c6 c7 c8 k0 k1 k2 k3 k4 k5 r0 r1
              go_wp2_with fail
              go_ret
              exact ⟨by rw [HF.out]; rfl, HEND.out _ HWQ.out⟩
        · have HLN := hid (look_snoc_no HX.out HLK.out (fun e => hid' (Prod.mk.inj e)))
          by_cases hcd : cd = d
          · subst hcd
            have y1 : (cq == q) = false := beq_eq_false_iff_ne.2 (fun e => hid' ⟨rfl, e⟩)
            have y2 : ¬ cq = q := fun e => hid' ⟨rfl, e⟩
            clear hid'
            go_wp2_with fail
            rw [← hw2']
            go_roundw
            case rel => exact ⟨j + 1, by omega, by go_num, HLN, HB2⟩
            case measure => simp [intOf]; omega
          · have y1 : (cd == d) = false := beq_eq_false_iff_ne.2 hcd
            clear hid'
            go_wp2_with fail
            rw [← hw2']
            go_roundw
            case rel => exact ⟨j + 1, by omega, by go_num, HLN, HB2⟩
            case measure => simp [intOf]; omega
      · obtain rfl : j = nc := by omega
        have HF : Hid (Z = false) := hid (Bool.eq_false_iff.2 fun e => of_no (p := .mk o n x d q A c ps) (by
          have := HLK.out
          rwa [List.take_of_length_le (by rw [HNC.out]; exact Nat.le_refl _)] at this) (HZ.out.1 e))
        go_wp2_with fail
        go_ret
        exact ⟨by rw [HF.out]; rfl, HQ1.out.trans (HB.out.mono HQ1.out.size)⟩
  · have HF := hid (HZF.out hpr)
    clear HZF
    obtain ⟨k0, k1, k2, k3, k4, k5⟩ := HPA5.out _ (Below.refl _ _)
    by_cases ho : o = o'
    · subst ho
      by_cases hn : n = n'
      · subst hn
        obtain ⟨x1, x2⟩ := inne (fun e => hpr ⟨rfl, rfl, e⟩ : x ≠ x')
        clear hpr
        go_enter Tryd.func36, Tryd.ntmps36
        go_wp2_with fail
        go_ret
        exact ⟨by rw [HF.out]; rfl, by rw [← hw1]; exact HQ1.out⟩
      · obtain ⟨x1, x2⟩ := inne hn
        clear hpr hn
        go_enter Tryd.func36, Tryd.ntmps36
        go_wp2_with fail
        go_ret
        exact ⟨by rw [HF.out]; rfl, by rw [← hw1]; exact HQ1.out⟩
    · obtain ⟨x1, x2⟩ := inne ho
      clear hpr ho
      go_enter Tryd.func36, Tryd.ntmps36
      go_wp2_with fail
      go_ret
      exact ⟨by rw [HF.out]; rfl, by rw [← hw1]; exact HQ1.out⟩
end Go.Proofs.YtoajckhnneagnaaDoor.Sh
