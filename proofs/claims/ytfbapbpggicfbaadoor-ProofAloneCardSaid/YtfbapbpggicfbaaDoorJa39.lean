/-
  The walk of ProofAlone.
-/
import Derived.Test.YtfbapbpggicfbaaDoorJa38
set_option linter.unusedVariables false
set_option linter.unusedSimpArgs false
namespace Go.Proofs.YtfbapbpggicfbaaDoor.Sh
open Go Go.RowKit

set_option linter.unusedSimpArgs false
set_option linter.unusedVariables false
set_option maxHeartbeats 32000000 in
set_option maxRecDepth 100000 in
theorem proofAlone_walk (A : Option Addr) (l0 : List Crd) (n0 k : Nat) (hn0 : l0.length = n0) (hk0 : n0 ≤ k) (hk2 : k ≤ 9223372036854775807) (B : Option Addr) (l1 : List Crd) (n1 k1 : Nat) (hn1 : l1.length = n1) (hk11 : n1 ≤ k1) (hk12 : k1 ≤ 9223372036854775807) (p : PT) (w : World) (hb : Crs w w.heap.size A l0) (hb1 : Crs w w.heap.size B l1) (hp : PIn w w.heap.size p) :
    Calls Tryd.prog 3 #[.slice A n0 k, .slice B n1 k1, .agg p.cells.toArray] w fun e w' => e = .returned (.bool true) ∧ Below w.heap.size w w' := by
  obtain ⟨w1, hw1⟩ : ∃ w1, w1 = w.alloc (.cells p.cells.toArray 29) := ⟨_, rfl⟩
  have HQ1 : Hid (Below w.heap.size w w1) := hid (by rw [hw1]; exact below_pr w _)
  have HPA : Hid (PrAt w1 w.heap.size p) := hid (by rw [hw1]; exact PrAt.new w p)
  have HPI := hid (fun W (hW : Below w1.heap.size w1 W) => hp.now (HQ1.out.trans (hW.mono HQ1.out.size)))
  have HFE := hid (fewC_any A l0 n0 k hn0 hk0 hk2 w1 ((hb.below HQ1.out).more HQ1.out.size))
  have HSM := hid (small7_any p w1 (HPI.out _ (Below.refl _ _)))
  have HYB := hid (fun W (hW : Below w1.heap.size w1 W) => (hb1.below (HQ1.out.trans (hW.mono HQ1.out.size))).more (Nat.le_trans HQ1.out.size hW.size))
  obtain ⟨S, hS⟩ : ∃ S, p.size = S := ⟨_, rfl⟩
  obtain ⟨B60, hB60⟩ : ∃ b, decide (S ≤ 60) = b := ⟨_, rfl⟩
  have HB60 := hid hB60
  rw [hS, hB60] at HSM
  have HSU := hid (fun (hs : S ≤ 60) W (hW : Below w1.heap.size w1 W) => support_any p W (by omega) (HPI.out W hW))
  have HCK := hid (fun n l A k (hn : l.length = n) (hk : n ≤ k) (hk2 : k ≤ 9223372036854775807) (hm : n ≤ 1000) W h (hW : Below w1.heap.size w1 W) => check_any A l n k hn hk hk2 hm p W h (HPI.out W hW))
  obtain ⟨I, hI⟩ : ∃ I, p.ids = I := ⟨_, rfl⟩
  have HIL : Hid (I.length = S) := hid (by rw [← hI]; exact hS)
  have HNM := hid (fun cs (h : Cor cs p) => h.named)
  have HMO := hid (fun cs cs' (h : Cor cs p) (hc : ∀ c ∈ cs, (c.d, c.q) ∈ p.ids → c ∈ cs') => h.more hc)
  rw [hI] at HSU HNM HMO
  obtain ⟨CP, hCP⟩ : ∃ CP : List Crd → Prop, (fun cs => Cor cs p) = CP := ⟨_, rfl⟩
  have HCP := hid (fun cs => show CP cs ↔ Cor cs p by rw [← hCP])
  have HCK2 := hid (fun n l A k (hn : l.length = n) (hk : n ≤ k) (hk2 : k ≤ 9223372036854775807) (hm : n ≤ 1000) W h (hW : Below w1.heap.size w1 W) => (HCK.out n l A k hn hk hk2 hm W h hW).mono (R' := fun e w' => ∃ out, CountsOf out l ∧ e = .returned (.int .i64 (bif dc (CP out) then 0 else 15)) ∧ Below W.heap.size W w') fun e w' ⟨out, h1, h2, h3⟩ => ⟨out, h1, by rw [← hCP]; exact h2, h3⟩)
  have HNM2 := hid (fun cs (h : CP cs) => HNM.out cs ((HCP.out cs).1 h))
  have HMO2 := hid (fun cs cs' (h : CP cs) (hc : ∀ c ∈ cs, (c.d, c.q) ∈ I → c ∈ cs') => (HCP.out cs').2 (HMO.out cs cs' ((HCP.out cs).1 h) hc))
  clear HCK HNM HMO HCP hCP hI hS hB60 hp HPI
  obtain ⟨o, n', x, d, q, A', cp, ps⟩ := p
  have HPA5 := hid (fun W (hW : Below w1.heap.size w1 W) => (HPA.out.kept hW).all)
  obtain ⟨np, hnp⟩ : ∃ np, ps.length = np := ⟨_, rfl⟩
  rw [hnp] at HPA5
  unfold PT.cells at hw1 HSM HSU HCK2 ⊢
  simp only [hnp] at hw1 HSM HSU HCK2 ⊢
  obtain ⟨k0, k1', k2, k3, k4, k5⟩ := HPA5.out _ (Below.refl _ _)
  clear hb hn0 hk0 hnp hb1 HPA
  by_cases h6 : 6 < n1
  · have HN2 : Hid ((l1.take 6).length = 6) := hid (by rw [List.length_take]; omega)
    have HYM := hid (fun W (hW : Below w1.heap.size w1 W) => ((HYB.out W hW).head (hi := 6)))
    have c6 : (6 : Int) < (n1 : Int) := by omega
    have c6k : 6 ≤ k1 := by omega
    have h2k : 6 ≤ 6 := by omega
    clear hn1 HYB
    go_enter Tryd.func3, Tryd.ntmps3
    go_wp2_with fail
    rw [← hw1]
    clear hw1
    refine HFE.out.mono ?_
    rintro er w2 ⟨n, rfl, l, hN, hm, hk, y0, rfl⟩
    have HY := hid (fun W (hW : Below w2.heap.size w2 W) => (y0.below hW).more hW.size)
    have HN := hid hN
    have HM14 : Hid (n ≤ 14) := hid hm
    have HKN : Hid (n ≤ k ∧ k ≤ 9223372036854775807) := hid ⟨hk, hk2⟩
    clear HFE hN y0
    go_wp2_with fail
    refine HSM.out.mono ?_
    rintro er w3 ⟨rfl, hb3⟩
    have HB3 := hid hb3
    clear hb3 HSM k0 k1' k2 k3 k4 k5
    cases B60 with
    | false =>
      go_wp2_with fail
      refine (lives7_any w3).mono ?_
      rintro er w4 ⟨rfl, bb⟩
      go_wp2
      go_ret
      exact ⟨rfl, HQ1.out.trans ((HB3.out.trans (bb.mono HB3.out.size)).mono HQ1.out.size)⟩
    | true =>
      have hs60 : S ≤ 60 := of_decide_eq_true HB60.out
      have HS60 := hid hs60
      have HSU3 := hid (HSU.out hs60)
      have HV3 := hid (HCK2.out n l A k HN.out hk hk2 (by omega) w3 (HY.out w3 HB3.out) HB3.out)
      obtain ⟨k0, k1', k2, k3, k4, k5⟩ := HPA5.out _ HB3.out
      clear HSU hs60
      go_wp2_with fail
      refine HV3.out.mono ?_
      rintro er w4 ⟨out0, hco, rfl, hb4⟩
      have HB4 := hid (HB3.out.trans (hb4.mono HB3.out.size))
      have HCO0 := hid hco
      obtain ⟨T, hT⟩ : ∃ T, dc (CP out0) = T := ⟨_, rfl⟩
      have HT : Hid (T = true → CP out0) := hid (fun h => (dc_iff (p := CP out0)).1 (hT.trans h))
      rw [hT]
      clear hb4 HV3 hco hT k0 k1' k2 k3 k4 k5
      cases T with
      | false =>
        go_wp2_with fail
        refine (lives7_any w4).mono ?_
        rintro er w5 ⟨rfl, bb⟩
        go_wp2
        go_ret
        exact ⟨rfl, HQ1.out.trans ((HB4.out.trans (bb.mono HB4.out.size)).mono HQ1.out.size)⟩
      | true =>
        have HCPO : Hid (CP out0) := hid (HT.out rfl)
        obtain ⟨k0, k1', k2, k3, k4, k5⟩ := HPA5.out _ HB4.out
        go_wp2_with fail
        refine (HSU3.out _ HB4.out).mono ?_
        rintro er w5 ⟨A5, c5, ss, rfl, hso, hme, ho5, hb5⟩
        have HB5 := hid (HB4.out.trans (hb5.mono HB4.out.size))
        have HME := hid hme
        have hnd : ss.Nodup := List.Pairwise.imp (fun {x y} hxy (e : x = y) => by subst e; unfold beforeI at hxy; simp only [decide_eq_true_eq] at hxy; omega) hso
        have HND := hid hnd
        have hml : ss.length ≤ 60 := by
          have h1 := nodup_le (b := I) hnd (fun i hi => (hme i).1 hi)
          have h2 := HIL.out
          have h3 := HS60.out
          omega
        obtain ⟨m, hm2⟩ : ∃ m, ss.length = m := ⟨_, rfl⟩
        have HSL := hid hm2
        rw [hm2] at hml ho5 ⊢
        have HES := hid (own_els ho5)
        have HRC := hid (refCounts_any A l n k HN.out (by omega) w5 (HY.out w5 HB5.out))
        clear hso hme ho5 hb5 hnd hm2 k0 k1' k2 k3 k4 k5
        go_wp2_with fail
        refine HRC.out.mono ?_
        rintro er w6 ⟨Ac, nc, cc, out, rfl, hnc, oc, hco, hb6⟩
        obtain rfl : out0 = out := counts_uniq HCO0.out hco
        have HB6 := hid (HB5.out.trans (hb6.mono HB5.out.size))
        have HES6 := hid ((HES.out.below hb6).more hb6.size)
        have HCS6 := hid oc.crs
        have HCL := hid oc.len
        have hnc14 : nc ≤ 14 := by omega
        have HLN : Hid ((inS ss out0).length = m) := hid ((inS_len HCO0.out HND.out (fun i hi => HNM2.out _ HCPO.out i ((HME.out i).1 hi))).trans HSL.out)
        clear HRC hb6 oc hco hnc HES
        go_wp2_with fail
        go_loopw [9, 11] (fun v i wr => ∃ (A9 : Option Addr) (m9 c9 j : Nat), v = .slice A9 m9 c9 ∧ i = .int .i64 (j : Int) ∧ j ≤ nc ∧ m9 ≤ j ∧ Hid (OwnC wr w6.heap.size (.slice A9 m9 c9) m9 (inS ss (out0.take j))) ∧ Hid (Below w6.heap.size w6 wr)) (fun _ i _ => nc - (intOf i).toNat)
        case atStart => exact ⟨none, 0, 0, 0, rfl, rfl, Nat.zero_le _, Nat.zero_le _, hid (by simpa [inS] using OwnC.nil _ _), hid (Below.refl _ _)⟩
        case round =>
          obtain ⟨wo, hwo⟩ : ∃ x, x = wr := ⟨_, rfl⟩
          subst hwo
          obtain ⟨A9, m9, c9, j, rfl, rfl, hj, hm9, HO9, HB9⟩ := hrel
          by_cases hlt : j < nc
          · obtain ⟨⟨cd, cq, nm, kd, wh, ao, an, bo, bn⟩, hx⟩ : ∃ x, out0[j]? = some x := ⟨_, List.getElem?_eq_getElem (by rw [HCL.out]; exact hlt)⟩
            have HX := hid hx
            obtain ⟨ad, aj, rfl, hab, ea, hbj, b0, b1, b2, b3, b4, b5, b6, b7, b8⟩ := HCS6.out.get hx
            have HCJ := hid (fun W (hW : Below w6.heap.size w6 W) => (⟨(hW.cell (p := aj) (by rw [hbj]; exact hab)).trans b0, (hW.cell (p := ⟨aj.block, aj.off + 1, none⟩) (show aj.block < _ by rw [hbj]; exact hab)).trans b1, (hW.cell (p := ⟨aj.block, aj.off + 2, none⟩) (show aj.block < _ by rw [hbj]; exact hab)).trans b2, (hW.cell (p := ⟨aj.block, aj.off + 3, none⟩) (show aj.block < _ by rw [hbj]; exact hab)).trans b3, (hW.cell (p := ⟨aj.block, aj.off + 4, none⟩) (show aj.block < _ by rw [hbj]; exact hab)).trans b4, (hW.cell (p := ⟨aj.block, aj.off + 5, none⟩) (show aj.block < _ by rw [hbj]; exact hab)).trans b5, (hW.cell (p := ⟨aj.block, aj.off + 6, none⟩) (show aj.block < _ by rw [hbj]; exact hab)).trans b6, (hW.cell (p := ⟨aj.block, aj.off + 7, none⟩) (show aj.block < _ by rw [hbj]; exact hab)).trans b7, (hW.cell (p := ⟨aj.block, aj.off + 8, none⟩) (show aj.block < _ by rw [hbj]; exact hab)).trans b8⟩ :
              W.cell? aj = some (.int .i64 cd) ∧ W.cell? ⟨aj.block, aj.off + 1, none⟩ = some (.int .i64 cq) ∧ W.cell? ⟨aj.block, aj.off + 2, none⟩ = some (.string nm) ∧ W.cell? ⟨aj.block, aj.off + 3, none⟩ = some (.int .i64 kd) ∧ W.cell? ⟨aj.block, aj.off + 4, none⟩ = some (.string wh) ∧ W.cell? ⟨aj.block, aj.off + 5, none⟩ = some (.string ao) ∧ W.cell? ⟨aj.block, aj.off + 6, none⟩ = some (.string an) ∧ W.cell? ⟨aj.block, aj.off + 7, none⟩ = some (.string bo) ∧ W.cell? ⟨aj.block, aj.off + 8, none⟩ = some (.string bn)))
            have hj0 : (0 : Int) ≤ (j : Int) := Int.natCast_nonneg _
            have hj1 : (j : Int) < (nc : Int) := by omega
            clear hx hab hbj b0 b1 b2 b3 b4 b5 b6 b7 b8
            go_wp2_with fail
            go_loopw [9, 12] (fun v kv w7 => ∃ (A2 : Option Addr) (m2 c2 i : Nat), v = .slice A2 m2 c2 ∧ kv = .int .i64 (i : Int) ∧ i ≤ m ∧ m2 ≤ j + 1 ∧ Hid (m2 = m9 + (if (cd, cq) ∈ ss.take i then 1 else 0)) ∧ Hid (OwnC w7 w6.heap.size (.slice A2 m2 c2) m2 (inS ss (out0.take j) ++ (if (cd, cq) ∈ ss.take i then [(⟨cd, cq, nm, kd, wh, ao, an, bo, bn⟩ : Crd)] else []))) ∧ Hid (Below w6.heap.size w6 w7)) (fun _ kv _ => m - (intOf kv).toNat)
            case atStart => exact ⟨A9, m9, c9, 0, rfl, rfl, Nat.zero_le _, by omega, hid (by simp), hid (by simpa using HO9.out), HB9⟩
            case round =>
              obtain ⟨w7, hw7⟩ : ∃ x, x = wr := ⟨_, rfl⟩
              subst hw7
              obtain ⟨A2, m2, c2, i, rfl, rfl, hi, hm2, HM2, HO2, HB7⟩ := hrel
              by_cases hli : i < m
              · obtain ⟨⟨d2, q2⟩, hy⟩ : ∃ y, ss[i]? = some y := ⟨_, List.getElem?_eq_getElem (by rw [HSL.out]; exact hli)⟩
                have HYI := hid hy
                obtain ⟨bd, bj, rfl, hbb, eb, hbbj, b0, bi⟩ := HES6.out.get hy
                have b0 := b0 _ rfl
                have b1 := bi 1 _ (by omega) rfl
                have eb : bd.add (i * 2) = bj := eb
                simp only at b0 b1
                have HSJ := hid (fun W (hW : Below w6.heap.size w6 W) => (⟨(hW.cell (p := bj) (by rw [hbbj]; exact hbb)).trans b0, (hW.cell (p := ⟨bj.block, bj.off + 1, none⟩) (show bj.block < _ by rw [hbbj]; exact hbb)).trans b1⟩ : W.cell? bj = some (.int .i64 d2) ∧ W.cell? ⟨bj.block, bj.off + 1, none⟩ = some (.int .i64 q2)))
                have hi0 : (0 : Int) ≤ (i : Int) := Int.natCast_nonneg _
                have hi1 : (i : Int) < (m : Int) := by omega
                clear hy hbb hbbj b0 b1 bi
                go_wp2_with fail
                by_cases hdd : cd = d2 ∧ cq = q2
                · obtain ⟨rfl, rfl⟩ := hdd
                  have a0 := fun x : Wn w7.heap.size w7 => (HCJ.out x.1 (HB7.out.trans (x.2.mono HB7.out.size))).1
                  have a1 := fun x : Wn w7.heap.size w7 => (HCJ.out x.1 (HB7.out.trans (x.2.mono HB7.out.size))).2.1
                  have s0 := fun x : Wn w7.heap.size w7 => (HSJ.out x.1 (HB7.out.trans (x.2.mono HB7.out.size))).1
                  have s1 := fun x : Wn w7.heap.size w7 => (HSJ.out x.1 (HB7.out.trans (x.2.mono HB7.out.size))).2
                  have HDR := hid (Below.refl w7.heap.size w7).drew
                  refine region_in w7.heap.size w7 (by kernel_rfl) (by kernel_rfl) HDR.out ?_
                  repeat (go_big_quiet_step (fail))
                  refine wpQuiet_nil ?_
                  intro w8 hwq
                  have HB8 := hid (HB7.out.trans (hwq.mono HB7.out.size))
                  have HO8 := hid (HO2.out.below hwq)
                  clear hwq a0 a1 s0 s1
                  have hnot : (cd, cq) ∉ ss.take i := fun hmem => by
                    obtain ⟨t, ht, e⟩ := List.mem_iff_getElem.1 hmem
                    rw [List.getElem_take] at e
                    have ht2 : t < i := by rw [List.length_take] at ht; omega
                    obtain ⟨hti, e2⟩ := List.getElem?_eq_some_iff.1 HYI.out
                    have := (List.getElem_inj HND.out).1 (e.trans e2.symm)
                    omega
                  have hyes : (cd, cq) ∈ ss.take (i + 1) := by rw [take_snoc_of HYI.out]; simp
                  have hm29 : m2 = m9 := by have := HM2.out; rw [if_neg hnot] at this; omega
                  have HO8' : Hid (OwnC w8 w6.heap.size (.slice A2 m2 c2) m2 (inS ss (out0.take j))) := hid (by have := HO8.out; rw [if_neg hnot, List.append_nil] at this; exact this)
                  have HYES := hid hyes
                  obtain ⟨a0, a1, a2, a3, a4, a5, a6, a7, a8⟩ := HCJ.out _ HB8.out
                  have HO8a := hid (HO8'.out.alloc (.cells #[.int .i64 cd, .int .i64 cq, .string nm, .int .i64 kd, .string wh, .string ao, .string an, .string bo, .string bn] 38))
                  have HRD := hid (reads_cr w8 ⟨cd, cq, nm, kd, wh, ao, an, bo, bn⟩ 38 (0, 0))
                  have HB8a := hid (HB8.out.alloc HB8.out.size (.cells #[.int .i64 cd, .int .i64 cq, .string nm, .int .i64 kd, .string wh, .string ao, .string an, .string bo, .string bn] 38))
                  have HM9 : Hid (m2 + 1 ≤ 1000000000000) := hid (by omega)
                  obtain ⟨m3, hm3⟩ : ∃ m3, m2 + 1 = m3 := ⟨_, rfl⟩
                  have HM3 := hid hm3
                  clear hnot hyes hm3
                  go_wp2_with (first
                    | (at_builtin; refine wpList_appC rfl (.tmp 58) (.tmp 63) rfl w6.heap.size (.slice A2 m2 c2) m2 (inS ss (out0.take j)) HO8a.out ?ddy1 (some ⟨w8.heap.size, 0, none⟩) 1 1 [(⟨cd, cq, nm, kd, wh, ao, an, bo, bn⟩ : Crd)] ?ddy2 ?ddy3 ?ddy4 ?ddy5 ?ddy6 w6 ?ddy7 m3 ?ddy8 ?ddy9; (case ddy1 => rfl); (case ddy2 => rfl); (case ddy3 => rfl); (case ddy4 => exact HRD.out); (case ddy5 => exact HM9.out); (case ddy6 => exact HB8a.out.size); (case ddy7 => exact HB8a.out); (case ddy8 => exact HM3.out); (intro A10 c10 w10 o10 g10 b10 h10; have HO10 := hid o10; have HB10 := hid b10; clear o10 g10 b10 h10))
                    | go_in)
                  go_roundw
                  case rel => exact ⟨A10, m3, c10, i + 1, rfl, by go_num, by omega, by have := HM3.out; omega, hid (by rw [if_pos HYES.out]; have := HM3.out; omega), hid (by rw [if_pos HYES.out]; exact HO10.out), HB10⟩
                  case measure => simp [intOf]; omega
                · have hsame : ((cd, cq) ∈ ss.take (i + 1)) = ((cd, cq) ∈ ss.take i) := by
                    rw [take_snoc_of HYI.out, List.mem_append, List.mem_singleton]
                    refine propext ⟨fun h => h.elim id (fun e => absurd ⟨(Prod.mk.inj e).1, (Prod.mk.inj e).2⟩ hdd), .inl⟩
                  have HSAM := hid hsame
                  by_cases h1 : cd = d2
                  · subst h1
                    have y1 : (cq == q2) = false := beq_eq_false_iff_ne.2 (fun e => hdd ⟨rfl, e⟩)
                    have y2 : ¬ cq = q2 := fun e => hdd ⟨rfl, e⟩
                    clear hsame hdd
                    have a0 := fun x : Wn w7.heap.size w7 => (HCJ.out x.1 (HB7.out.trans (x.2.mono HB7.out.size))).1
                    have a1 := fun x : Wn w7.heap.size w7 => (HCJ.out x.1 (HB7.out.trans (x.2.mono HB7.out.size))).2.1
                    have s0 := fun x : Wn w7.heap.size w7 => (HSJ.out x.1 (HB7.out.trans (x.2.mono HB7.out.size))).1
                    have s1 := fun x : Wn w7.heap.size w7 => (HSJ.out x.1 (HB7.out.trans (x.2.mono HB7.out.size))).2
                    have HDR := hid (Below.refl w7.heap.size w7).drew
                    refine region_in w7.heap.size w7 (by kernel_rfl) (by kernel_rfl) HDR.out ?_
                    repeat (go_big_quiet_step (fail))
                    refine wpQuiet_nil ?_
                    intro w8 hwq
                    have HB8 := hid (HB7.out.trans (hwq.mono HB7.out.size))
                    have HO8 := hid (HO2.out.below hwq)
                    clear hwq a0 a1 s0 s1
                    go_wp2_with fail
                    go_roundw
                    case rel => exact ⟨A2, m2, c2, i + 1, rfl, by go_num, by omega, hm2, hid (by simp only [HSAM.out]; exact HM2.out), hid (by simp only [HSAM.out]; exact HO8.out), HB8⟩
                    case measure => simp [intOf]; omega
                  · have y1 : (cd == d2) = false := beq_eq_false_iff_ne.2 h1
                    clear hsame hdd
                    have a0 := fun x : Wn w7.heap.size w7 => (HCJ.out x.1 (HB7.out.trans (x.2.mono HB7.out.size))).1
                    have a1 := fun x : Wn w7.heap.size w7 => (HCJ.out x.1 (HB7.out.trans (x.2.mono HB7.out.size))).2.1
                    have s0 := fun x : Wn w7.heap.size w7 => (HSJ.out x.1 (HB7.out.trans (x.2.mono HB7.out.size))).1
                    have s1 := fun x : Wn w7.heap.size w7 => (HSJ.out x.1 (HB7.out.trans (x.2.mono HB7.out.size))).2
                    have HDR := hid (Below.refl w7.heap.size w7).drew
                    refine region_in w7.heap.size w7 (by kernel_rfl) (by kernel_rfl) HDR.out ?_
                    repeat (go_big_quiet_step (fail))
                    refine wpQuiet_nil ?_
                    intro w8 hwq
                    have HB8 := hid (HB7.out.trans (hwq.mono HB7.out.size))
                    have HO8 := hid (HO2.out.below hwq)
                    clear hwq a0 a1 s0 s1
                    go_wp2_with fail
                    go_roundw
                    case rel => exact ⟨A2, m2, c2, i + 1, rfl, by go_num, by omega, hm2, hid (by simp only [HSAM.out]; exact HM2.out), hid (by simp only [HSAM.out]; exact HO8.out), HB8⟩
                    case measure => simp [intOf]; omega
              · obtain rfl : i = m := by omega
                have HF : Hid (OwnC w7 w6.heap.size (.slice A2 m2 c2) m2 (inS ss (out0.take (j + 1)))) := hid (by
                  have h1 := HO2.out
                  rw [List.take_of_length_le (l := ss) (by rw [HSL.out]; exact Nat.le_refl _)] at h1
                  rw [take_snoc_of HX.out, inS_snoc]
                  exact h1)
                go_wp2_with fail
                go_roundw
                case rel => exact ⟨A2, m2, c2, j + 1, rfl, by go_num, by omega, hm2, HF, HB7⟩
                case measure => simp [intOf]; omega
          · obtain rfl : j = nc := by omega
            have HO9f : Hid (OwnC wo w6.heap.size (.slice A9 m9 c9) m9 (inS ss out0)) := hid (by have h1 := HO9.out; rw [List.take_of_length_le (by rw [HCL.out]; exact Nat.le_refl _)] at h1; exact h1)
            have hmm : m9 = m := by rw [← HO9f.out.len, HLN.out]
            subst hmm
            have HBO := hid (HB6.out.trans (HB9.out.mono HB6.out.size))
            have yA := (HY.out _ HBO.out).reads
            have yB := HYM.out _ HBO.out
            have HQ2 : Hid (0 + n ≤ 1000000000000) := hid (by have := HM14.out; omega)
            have HQ3 : Hid (0 + n = n) := hid (by omega)
            obtain ⟨nb, hnb⟩ : ∃ nb, n + 6 = nb := ⟨_, rfl⟩
            have HQ4 : Hid (n + 6 ≤ 1000000000000) := hid (by have := HM14.out; omega)
            have HQ5 : Hid (n + 6 = nb) := hid hnb
            have hnb20 : nb ≤ 20 := by have := HM14.out; omega
            clear hnb
            go_wp2_with (first
              | (at_builtin; refine wpList_appC rfl (.tmp 65) (.tmp 66) rfl wo.heap.size (.slice none 0 0) 0 [] ?ay1 ?ay2 A n k l ?ay3 ?ay4 ?ay5 ?ay6 ?ay7 wo ?ay8 n ?ay9 ?ay10; (case ay1 => exact OwnC.nil _ _); (case ay2 => rfl); (case ay3 => rfl); (case ay4 => exact HN.out); (case ay5 => exact yA); (case ay6 => exact HQ2.out); (case ay7 => exact Nat.le_refl _); (case ay8 => exact Below.refl _ _); (case ay9 => exact HQ3.out); intro A3 c3 v2 o2 g2 b2 h2; have HO2x := hid o2; have HB2x := hid b2; clear o2 g2 b2 h2)
              | (at_builtin; refine wpList_appC rfl (.tmp 68) (.tmp 69) rfl wo.heap.size (.slice A3 n c3) n ([] ++ l) ?by1 ?by2 B 6 k1 (l1.take 6) ?by3 ?by4 ?by5 ?by6 ?by7 wo ?by8 nb ?by9 ?by10; (case by1 => exact HO2x.out); (case by2 => rfl); (case by3 => rfl); (case by4 => exact HN2.out); (case by5 => exact (yB.below HB2x.out).reads); (case by6 => exact HQ4.out); (case by7 => exact HB2x.out.size); (case by8 => exact HB2x.out); (case by9 => exact HQ5.out); intro A6 c6' v3 o3 g3 b3 h3; have HO3 := hid o3; have HV3b := hid b3; (obtain ⟨k0, k1', k2, k3, k4, k5⟩ := HPA5.out _ (HBO.out.trans (b3.mono HBO.out.size))); clear g3 h3 o3 b3)
              | fail)
            have HVV := hid (HBO.out.trans (HV3b.out.mono HBO.out.size))
            have HCA := hid (HCK2.out m9 (inS ss out0) A9 c9 HLN.out (by obtain ⟨A', c', e, h1, h2⟩ := HO9f.out.slice; simp only [Value.slice.injEq] at e; omega) (by obtain ⟨A', c', e, h1, h2⟩ := HO9f.out.slice; simp only [Value.slice.injEq] at e; omega) (by omega) v3 ((HO9f.out.crs.below HV3b.out).more HV3b.out.size) HVV.out)
            clear yA yB
            go_wp2_with fail
            refine HCA.out.mono ?_
            rintro er w7 ⟨o7, hc7, rfl, hb7⟩
            have hT7 : dc (CP o7) = true := (dc_iff (p := CP o7)).2 (HMO2.out _ _ HCPO.out fun c hc hi => counts_inS HCO0.out hc7 hc ((HME.out _).2 hi))
            rw [hT7]
            have HB7 := hid (HVV.out.trans (hb7.mono HVV.out.size))
            have HCB := hid (HCK2.out nb (([] ++ l) ++ (l1.take 6)) A6 c6' HO3.out.len (by obtain ⟨A', c', e, h1, h2⟩ := HO3.out.slice; simp only [Value.slice.injEq] at e; omega) (by obtain ⟨A', c', e, h1, h2⟩ := HO3.out.slice; simp only [Value.slice.injEq] at e; omega) (by omega) w7 ((HO3.out.crs.below hb7).more hb7.size) HB7.out)
            clear hT7 hc7 hb7 HCA k0 k1' k2 k3 k4 k5
            obtain ⟨k0, k1', k2, k3, k4, k5⟩ := HPA5.out _ HB7.out
            go_wp2_with fail
            refine HCB.out.mono ?_
            rintro er w8 ⟨o8, hc8, rfl, hb8⟩
            have hT8 : dc (CP o8) = true := (dc_iff (p := CP o8)).2 (HMO2.out _ _ HCPO.out fun c hc hi => counts_more HCO0.out (by simpa using hc8) c hc)
            rw [hT8]
            have HB8 := hid (HB7.out.trans (hb8.mono HB7.out.size))
            clear hT8 hc8 hb8 HCB k0 k1' k2 k3 k4 k5
            go_wp2_with fail
            refine (lives7_any w8).mono ?_
            rintro er w9 ⟨rfl, bb⟩
            go_wp2
            go_ret
            exact ⟨rfl, HQ1.out.trans ((HB8.out.trans (bb.mono HB8.out.size)).mono HQ1.out.size)⟩
  · have HN2 : Hid (l1.length = n1) := hid hn1
    have HYM := HYB
    have c6 : ¬ (6 : Int) < (n1 : Int) := by omega
    have h2k : n1 ≤ 6 := by omega
    clear hn1 HYB
    go_enter Tryd.func3, Tryd.ntmps3
    go_wp2_with fail
    rw [← hw1]
    clear hw1
    refine HFE.out.mono ?_
    rintro er w2 ⟨n, rfl, l, hN, hm, hk, y0, rfl⟩
    have HY := hid (fun W (hW : Below w2.heap.size w2 W) => (y0.below hW).more hW.size)
    have HN := hid hN
    have HM14 : Hid (n ≤ 14) := hid hm
    have HKN : Hid (n ≤ k ∧ k ≤ 9223372036854775807) := hid ⟨hk, hk2⟩
    clear HFE hN y0
    go_wp2_with fail
    refine HSM.out.mono ?_
    rintro er w3 ⟨rfl, hb3⟩
    have HB3 := hid hb3
    clear hb3 HSM k0 k1' k2 k3 k4 k5
    cases B60 with
    | false =>
      go_wp2_with fail
      refine (lives7_any w3).mono ?_
      rintro er w4 ⟨rfl, bb⟩
      go_wp2
      go_ret
      exact ⟨rfl, HQ1.out.trans ((HB3.out.trans (bb.mono HB3.out.size)).mono HQ1.out.size)⟩
    | true =>
      have hs60 : S ≤ 60 := of_decide_eq_true HB60.out
      have HS60 := hid hs60
      have HSU3 := hid (HSU.out hs60)
      have HV3 := hid (HCK2.out n l A k HN.out hk hk2 (by omega) w3 (HY.out w3 HB3.out) HB3.out)
      obtain ⟨k0, k1', k2, k3, k4, k5⟩ := HPA5.out _ HB3.out
      clear HSU hs60
      go_wp2_with fail
      refine HV3.out.mono ?_
      rintro er w4 ⟨out0, hco, rfl, hb4⟩
      have HB4 := hid (HB3.out.trans (hb4.mono HB3.out.size))
      have HCO0 := hid hco
      obtain ⟨T, hT⟩ : ∃ T, dc (CP out0) = T := ⟨_, rfl⟩
      have HT : Hid (T = true → CP out0) := hid (fun h => (dc_iff (p := CP out0)).1 (hT.trans h))
      rw [hT]
      clear hb4 HV3 hco hT k0 k1' k2 k3 k4 k5
      cases T with
      | false =>
        go_wp2_with fail
        refine (lives7_any w4).mono ?_
        rintro er w5 ⟨rfl, bb⟩
        go_wp2
        go_ret
        exact ⟨rfl, HQ1.out.trans ((HB4.out.trans (bb.mono HB4.out.size)).mono HQ1.out.size)⟩
      | true =>
        have HCPO : Hid (CP out0) := hid (HT.out rfl)
        obtain ⟨k0, k1', k2, k3, k4, k5⟩ := HPA5.out _ HB4.out
        go_wp2_with fail
        refine (HSU3.out _ HB4.out).mono ?_
        rintro er w5 ⟨A5, c5, ss, rfl, hso, hme, ho5, hb5⟩
        have HB5 := hid (HB4.out.trans (hb5.mono HB4.out.size))
        have HME := hid hme
        have hnd : ss.Nodup := List.Pairwise.imp (fun {x y} hxy (e : x = y) => by subst e; unfold beforeI at hxy; simp only [decide_eq_true_eq] at hxy; omega) hso
        have HND := hid hnd
        have hml : ss.length ≤ 60 := by
          have h1 := nodup_le (b := I) hnd (fun i hi => (hme i).1 hi)
          have h2 := HIL.out
          have h3 := HS60.out
          omega
        obtain ⟨m, hm2⟩ : ∃ m, ss.length = m := ⟨_, rfl⟩
        have HSL := hid hm2
        rw [hm2] at hml ho5 ⊢
        have HES := hid (own_els ho5)
        have HRC := hid (refCounts_any A l n k HN.out (by omega) w5 (HY.out w5 HB5.out))
        clear hso hme ho5 hb5 hnd hm2 k0 k1' k2 k3 k4 k5
        go_wp2_with fail
        refine HRC.out.mono ?_
        rintro er w6 ⟨Ac, nc, cc, out, rfl, hnc, oc, hco, hb6⟩
        obtain rfl : out0 = out := counts_uniq HCO0.out hco
        have HB6 := hid (HB5.out.trans (hb6.mono HB5.out.size))
        have HES6 := hid ((HES.out.below hb6).more hb6.size)
        have HCS6 := hid oc.crs
        have HCL := hid oc.len
        have hnc14 : nc ≤ 14 := by omega
        have HLN : Hid ((inS ss out0).length = m) := hid ((inS_len HCO0.out HND.out (fun i hi => HNM2.out _ HCPO.out i ((HME.out i).1 hi))).trans HSL.out)
        clear HRC hb6 oc hco hnc HES
        go_wp2_with fail
        go_loopw [9, 11] (fun v i wr => ∃ (A9 : Option Addr) (m9 c9 j : Nat), v = .slice A9 m9 c9 ∧ i = .int .i64 (j : Int) ∧ j ≤ nc ∧ m9 ≤ j ∧ Hid (OwnC wr w6.heap.size (.slice A9 m9 c9) m9 (inS ss (out0.take j))) ∧ Hid (Below w6.heap.size w6 wr)) (fun _ i _ => nc - (intOf i).toNat)
        case atStart => exact ⟨none, 0, 0, 0, rfl, rfl, Nat.zero_le _, Nat.zero_le _, hid (by simpa [inS] using OwnC.nil _ _), hid (Below.refl _ _)⟩
        case round =>
          obtain ⟨wo, hwo⟩ : ∃ x, x = wr := ⟨_, rfl⟩
          subst hwo
          obtain ⟨A9, m9, c9, j, rfl, rfl, hj, hm9, HO9, HB9⟩ := hrel
          by_cases hlt : j < nc
          · obtain ⟨⟨cd, cq, nm, kd, wh, ao, an, bo, bn⟩, hx⟩ : ∃ x, out0[j]? = some x := ⟨_, List.getElem?_eq_getElem (by rw [HCL.out]; exact hlt)⟩
            have HX := hid hx
            obtain ⟨ad, aj, rfl, hab, ea, hbj, b0, b1, b2, b3, b4, b5, b6, b7, b8⟩ := HCS6.out.get hx
            have HCJ := hid (fun W (hW : Below w6.heap.size w6 W) => (⟨(hW.cell (p := aj) (by rw [hbj]; exact hab)).trans b0, (hW.cell (p := ⟨aj.block, aj.off + 1, none⟩) (show aj.block < _ by rw [hbj]; exact hab)).trans b1, (hW.cell (p := ⟨aj.block, aj.off + 2, none⟩) (show aj.block < _ by rw [hbj]; exact hab)).trans b2, (hW.cell (p := ⟨aj.block, aj.off + 3, none⟩) (show aj.block < _ by rw [hbj]; exact hab)).trans b3, (hW.cell (p := ⟨aj.block, aj.off + 4, none⟩) (show aj.block < _ by rw [hbj]; exact hab)).trans b4, (hW.cell (p := ⟨aj.block, aj.off + 5, none⟩) (show aj.block < _ by rw [hbj]; exact hab)).trans b5, (hW.cell (p := ⟨aj.block, aj.off + 6, none⟩) (show aj.block < _ by rw [hbj]; exact hab)).trans b6, (hW.cell (p := ⟨aj.block, aj.off + 7, none⟩) (show aj.block < _ by rw [hbj]; exact hab)).trans b7, (hW.cell (p := ⟨aj.block, aj.off + 8, none⟩) (show aj.block < _ by rw [hbj]; exact hab)).trans b8⟩ :
              W.cell? aj = some (.int .i64 cd) ∧ W.cell? ⟨aj.block, aj.off + 1, none⟩ = some (.int .i64 cq) ∧ W.cell? ⟨aj.block, aj.off + 2, none⟩ = some (.string nm) ∧ W.cell? ⟨aj.block, aj.off + 3, none⟩ = some (.int .i64 kd) ∧ W.cell? ⟨aj.block, aj.off + 4, none⟩ = some (.string wh) ∧ W.cell? ⟨aj.block, aj.off + 5, none⟩ = some (.string ao) ∧ W.cell? ⟨aj.block, aj.off + 6, none⟩ = some (.string an) ∧ W.cell? ⟨aj.block, aj.off + 7, none⟩ = some (.string bo) ∧ W.cell? ⟨aj.block, aj.off + 8, none⟩ = some (.string bn)))
            have hj0 : (0 : Int) ≤ (j : Int) := Int.natCast_nonneg _
            have hj1 : (j : Int) < (nc : Int) := by omega
            clear hx hab hbj b0 b1 b2 b3 b4 b5 b6 b7 b8
            go_wp2_with fail
            go_loopw [9, 12] (fun v kv w7 => ∃ (A2 : Option Addr) (m2 c2 i : Nat), v = .slice A2 m2 c2 ∧ kv = .int .i64 (i : Int) ∧ i ≤ m ∧ m2 ≤ j + 1 ∧ Hid (m2 = m9 + (if (cd, cq) ∈ ss.take i then 1 else 0)) ∧ Hid (OwnC w7 w6.heap.size (.slice A2 m2 c2) m2 (inS ss (out0.take j) ++ (if (cd, cq) ∈ ss.take i then [(⟨cd, cq, nm, kd, wh, ao, an, bo, bn⟩ : Crd)] else []))) ∧ Hid (Below w6.heap.size w6 w7)) (fun _ kv _ => m - (intOf kv).toNat)
            case atStart => exact ⟨A9, m9, c9, 0, rfl, rfl, Nat.zero_le _, by omega, hid (by simp), hid (by simpa using HO9.out), HB9⟩
            case round =>
              obtain ⟨w7, hw7⟩ : ∃ x, x = wr := ⟨_, rfl⟩
              subst hw7
              obtain ⟨A2, m2, c2, i, rfl, rfl, hi, hm2, HM2, HO2, HB7⟩ := hrel
              by_cases hli : i < m
              · obtain ⟨⟨d2, q2⟩, hy⟩ : ∃ y, ss[i]? = some y := ⟨_, List.getElem?_eq_getElem (by rw [HSL.out]; exact hli)⟩
                have HYI := hid hy
                obtain ⟨bd, bj, rfl, hbb, eb, hbbj, b0, bi⟩ := HES6.out.get hy
                have b0 := b0 _ rfl
                have b1 := bi 1 _ (by omega) rfl
                have eb : bd.add (i * 2) = bj := eb
                simp only at b0 b1
                have HSJ := hid (fun W (hW : Below w6.heap.size w6 W) => (⟨(hW.cell (p := bj) (by rw [hbbj]; exact hbb)).trans b0, (hW.cell (p := ⟨bj.block, bj.off + 1, none⟩) (show bj.block < _ by rw [hbbj]; exact hbb)).trans b1⟩ : W.cell? bj = some (.int .i64 d2) ∧ W.cell? ⟨bj.block, bj.off + 1, none⟩ = some (.int .i64 q2)))
                have hi0 : (0 : Int) ≤ (i : Int) := Int.natCast_nonneg _
                have hi1 : (i : Int) < (m : Int) := by omega
                clear hy hbb hbbj b0 b1 bi
                go_wp2_with fail
                by_cases hdd : cd = d2 ∧ cq = q2
                · obtain ⟨rfl, rfl⟩ := hdd
                  have a0 := fun x : Wn w7.heap.size w7 => (HCJ.out x.1 (HB7.out.trans (x.2.mono HB7.out.size))).1
                  have a1 := fun x : Wn w7.heap.size w7 => (HCJ.out x.1 (HB7.out.trans (x.2.mono HB7.out.size))).2.1
                  have s0 := fun x : Wn w7.heap.size w7 => (HSJ.out x.1 (HB7.out.trans (x.2.mono HB7.out.size))).1
                  have s1 := fun x : Wn w7.heap.size w7 => (HSJ.out x.1 (HB7.out.trans (x.2.mono HB7.out.size))).2
                  have HDR := hid (Below.refl w7.heap.size w7).drew
                  refine region_in w7.heap.size w7 (by kernel_rfl) (by kernel_rfl) HDR.out ?_
                  repeat (go_big_quiet_step (fail))
                  refine wpQuiet_nil ?_
                  intro w8 hwq
                  have HB8 := hid (HB7.out.trans (hwq.mono HB7.out.size))
                  have HO8 := hid (HO2.out.below hwq)
                  clear hwq a0 a1 s0 s1
                  have hnot : (cd, cq) ∉ ss.take i := fun hmem => by
                    obtain ⟨t, ht, e⟩ := List.mem_iff_getElem.1 hmem
                    rw [List.getElem_take] at e
                    have ht2 : t < i := by rw [List.length_take] at ht; omega
                    obtain ⟨hti, e2⟩ := List.getElem?_eq_some_iff.1 HYI.out
                    have := (List.getElem_inj HND.out).1 (e.trans e2.symm)
                    omega
                  have hyes : (cd, cq) ∈ ss.take (i + 1) := by rw [take_snoc_of HYI.out]; simp
                  have hm29 : m2 = m9 := by have := HM2.out; rw [if_neg hnot] at this; omega
                  have HO8' : Hid (OwnC w8 w6.heap.size (.slice A2 m2 c2) m2 (inS ss (out0.take j))) := hid (by have := HO8.out; rw [if_neg hnot, List.append_nil] at this; exact this)
                  have HYES := hid hyes
                  obtain ⟨a0, a1, a2, a3, a4, a5, a6, a7, a8⟩ := HCJ.out _ HB8.out
                  have HO8a := hid (HO8'.out.alloc (.cells #[.int .i64 cd, .int .i64 cq, .string nm, .int .i64 kd, .string wh, .string ao, .string an, .string bo, .string bn] 38))
                  have HRD := hid (reads_cr w8 ⟨cd, cq, nm, kd, wh, ao, an, bo, bn⟩ 38 (0, 0))
                  have HB8a := hid (HB8.out.alloc HB8.out.size (.cells #[.int .i64 cd, .int .i64 cq, .string nm, .int .i64 kd, .string wh, .string ao, .string an, .string bo, .string bn] 38))
                  have HM9 : Hid (m2 + 1 ≤ 1000000000000) := hid (by omega)
                  obtain ⟨m3, hm3⟩ : ∃ m3, m2 + 1 = m3 := ⟨_, rfl⟩
                  have HM3 := hid hm3
                  clear hnot hyes hm3
                  go_wp2_with (first
                    | (at_builtin; refine wpList_appC rfl (.tmp 58) (.tmp 63) rfl w6.heap.size (.slice A2 m2 c2) m2 (inS ss (out0.take j)) HO8a.out ?ddn1 (some ⟨w8.heap.size, 0, none⟩) 1 1 [(⟨cd, cq, nm, kd, wh, ao, an, bo, bn⟩ : Crd)] ?ddn2 ?ddn3 ?ddn4 ?ddn5 ?ddn6 w6 ?ddn7 m3 ?ddn8 ?ddn9; (case ddn1 => rfl); (case ddn2 => rfl); (case ddn3 => rfl); (case ddn4 => exact HRD.out); (case ddn5 => exact HM9.out); (case ddn6 => exact HB8a.out.size); (case ddn7 => exact HB8a.out); (case ddn8 => exact HM3.out); (intro A10 c10 w10 o10 g10 b10 h10; have HO10 := hid o10; have HB10 := hid b10; clear o10 g10 b10 h10))
                    | go_in)
                  go_roundw
                  case rel => exact ⟨A10, m3, c10, i + 1, rfl, by go_num, by omega, by have := HM3.out; omega, hid (by rw [if_pos HYES.out]; have := HM3.out; omega), hid (by rw [if_pos HYES.out]; exact HO10.out), HB10⟩
                  case measure => simp [intOf]; omega
                · have hsame : ((cd, cq) ∈ ss.take (i + 1)) = ((cd, cq) ∈ ss.take i) := by
                    rw [take_snoc_of HYI.out, List.mem_append, List.mem_singleton]
                    refine propext ⟨fun h => h.elim id (fun e => absurd ⟨(Prod.mk.inj e).1, (Prod.mk.inj e).2⟩ hdd), .inl⟩
                  have HSAM := hid hsame
                  by_cases h1 : cd = d2
                  · subst h1
                    have y1 : (cq == q2) = false := beq_eq_false_iff_ne.2 (fun e => hdd ⟨rfl, e⟩)
                    have y2 : ¬ cq = q2 := fun e => hdd ⟨rfl, e⟩
                    clear hsame hdd
                    have a0 := fun x : Wn w7.heap.size w7 => (HCJ.out x.1 (HB7.out.trans (x.2.mono HB7.out.size))).1
                    have a1 := fun x : Wn w7.heap.size w7 => (HCJ.out x.1 (HB7.out.trans (x.2.mono HB7.out.size))).2.1
                    have s0 := fun x : Wn w7.heap.size w7 => (HSJ.out x.1 (HB7.out.trans (x.2.mono HB7.out.size))).1
                    have s1 := fun x : Wn w7.heap.size w7 => (HSJ.out x.1 (HB7.out.trans (x.2.mono HB7.out.size))).2
                    have HDR := hid (Below.refl w7.heap.size w7).drew
                    refine region_in w7.heap.size w7 (by kernel_rfl) (by kernel_rfl) HDR.out ?_
                    repeat (go_big_quiet_step (fail))
                    refine wpQuiet_nil ?_
                    intro w8 hwq
                    have HB8 := hid (HB7.out.trans (hwq.mono HB7.out.size))
                    have HO8 := hid (HO2.out.below hwq)
                    clear hwq a0 a1 s0 s1
                    go_wp2_with fail
                    go_roundw
                    case rel => exact ⟨A2, m2, c2, i + 1, rfl, by go_num, by omega, hm2, hid (by simp only [HSAM.out]; exact HM2.out), hid (by simp only [HSAM.out]; exact HO8.out), HB8⟩
                    case measure => simp [intOf]; omega
                  · have y1 : (cd == d2) = false := beq_eq_false_iff_ne.2 h1
                    clear hsame hdd
                    have a0 := fun x : Wn w7.heap.size w7 => (HCJ.out x.1 (HB7.out.trans (x.2.mono HB7.out.size))).1
                    have a1 := fun x : Wn w7.heap.size w7 => (HCJ.out x.1 (HB7.out.trans (x.2.mono HB7.out.size))).2.1
                    have s0 := fun x : Wn w7.heap.size w7 => (HSJ.out x.1 (HB7.out.trans (x.2.mono HB7.out.size))).1
                    have s1 := fun x : Wn w7.heap.size w7 => (HSJ.out x.1 (HB7.out.trans (x.2.mono HB7.out.size))).2
                    have HDR := hid (Below.refl w7.heap.size w7).drew
                    refine region_in w7.heap.size w7 (by kernel_rfl) (by kernel_rfl) HDR.out ?_
                    repeat (go_big_quiet_step (fail))
                    refine wpQuiet_nil ?_
                    intro w8 hwq
                    have HB8 := hid (HB7.out.trans (hwq.mono HB7.out.size))
                    have HO8 := hid (HO2.out.below hwq)
                    clear hwq a0 a1 s0 s1
                    go_wp2_with fail
                    go_roundw
                    case rel => exact ⟨A2, m2, c2, i + 1, rfl, by go_num, by omega, hm2, hid (by simp only [HSAM.out]; exact HM2.out), hid (by simp only [HSAM.out]; exact HO8.out), HB8⟩
                    case measure => simp [intOf]; omega
              · obtain rfl : i = m := by omega
                have HF : Hid (OwnC w7 w6.heap.size (.slice A2 m2 c2) m2 (inS ss (out0.take (j + 1)))) := hid (by
                  have h1 := HO2.out
                  rw [List.take_of_length_le (l := ss) (by rw [HSL.out]; exact Nat.le_refl _)] at h1
                  rw [take_snoc_of HX.out, inS_snoc]
                  exact h1)
                go_wp2_with fail
                go_roundw
                case rel => exact ⟨A2, m2, c2, j + 1, rfl, by go_num, by omega, hm2, HF, HB7⟩
                case measure => simp [intOf]; omega
          · obtain rfl : j = nc := by omega
            have HO9f : Hid (OwnC wo w6.heap.size (.slice A9 m9 c9) m9 (inS ss out0)) := hid (by have h1 := HO9.out; rw [List.take_of_length_le (by rw [HCL.out]; exact Nat.le_refl _)] at h1; exact h1)
            have hmm : m9 = m := by rw [← HO9f.out.len, HLN.out]
            subst hmm
            have HBO := hid (HB6.out.trans (HB9.out.mono HB6.out.size))
            have yA := (HY.out _ HBO.out).reads
            have yB := HYM.out _ HBO.out
            have HQ2 : Hid (0 + n ≤ 1000000000000) := hid (by have := HM14.out; omega)
            have HQ3 : Hid (0 + n = n) := hid (by omega)
            obtain ⟨nb, hnb⟩ : ∃ nb, n + n1 = nb := ⟨_, rfl⟩
            have HQ4 : Hid (n + n1 ≤ 1000000000000) := hid (by have := HM14.out; omega)
            have HQ5 : Hid (n + n1 = nb) := hid hnb
            have hnb20 : nb ≤ 20 := by have := HM14.out; omega
            clear hnb
            go_wp2_with (first
              | (at_builtin; refine wpList_appC rfl (.tmp 65) (.tmp 66) rfl wo.heap.size (.slice none 0 0) 0 [] ?an1 ?an2 A n k l ?an3 ?an4 ?an5 ?an6 ?an7 wo ?an8 n ?an9 ?an10; (case an1 => exact OwnC.nil _ _); (case an2 => rfl); (case an3 => rfl); (case an4 => exact HN.out); (case an5 => exact yA); (case an6 => exact HQ2.out); (case an7 => exact Nat.le_refl _); (case an8 => exact Below.refl _ _); (case an9 => exact HQ3.out); intro A3 c3 v2 o2 g2 b2 h2; have HO2x := hid o2; have HB2x := hid b2; clear o2 g2 b2 h2)
              | (at_builtin; refine wpList_appC rfl (.tmp 68) (.tmp 69) rfl wo.heap.size (.slice A3 n c3) n ([] ++ l) ?bn1 ?bn2 B n1 k1 l1 ?bn3 ?bn4 ?bn5 ?bn6 ?bn7 wo ?bn8 nb ?bn9 ?bn10; (case bn1 => exact HO2x.out); (case bn2 => rfl); (case bn3 => rfl); (case bn4 => exact HN2.out); (case bn5 => exact (yB.below HB2x.out).reads); (case bn6 => exact HQ4.out); (case bn7 => exact HB2x.out.size); (case bn8 => exact HB2x.out); (case bn9 => exact HQ5.out); intro A6 c6' v3 o3 g3 b3 h3; have HO3 := hid o3; have HV3b := hid b3; (obtain ⟨k0, k1', k2, k3, k4, k5⟩ := HPA5.out _ (HBO.out.trans (b3.mono HBO.out.size))); clear g3 h3 o3 b3)
              | fail)
            have HVV := hid (HBO.out.trans (HV3b.out.mono HBO.out.size))
            have HCA := hid (HCK2.out m9 (inS ss out0) A9 c9 HLN.out (by obtain ⟨A', c', e, h1, h2⟩ := HO9f.out.slice; simp only [Value.slice.injEq] at e; omega) (by obtain ⟨A', c', e, h1, h2⟩ := HO9f.out.slice; simp only [Value.slice.injEq] at e; omega) (by omega) v3 ((HO9f.out.crs.below HV3b.out).more HV3b.out.size) HVV.out)
            clear yA yB
            go_wp2_with fail
            refine HCA.out.mono ?_
            rintro er w7 ⟨o7, hc7, rfl, hb7⟩
            have hT7 : dc (CP o7) = true := (dc_iff (p := CP o7)).2 (HMO2.out _ _ HCPO.out fun c hc hi => counts_inS HCO0.out hc7 hc ((HME.out _).2 hi))
            rw [hT7]
            have HB7 := hid (HVV.out.trans (hb7.mono HVV.out.size))
            have HCB := hid (HCK2.out nb (([] ++ l) ++ l1) A6 c6' HO3.out.len (by obtain ⟨A', c', e, h1, h2⟩ := HO3.out.slice; simp only [Value.slice.injEq] at e; omega) (by obtain ⟨A', c', e, h1, h2⟩ := HO3.out.slice; simp only [Value.slice.injEq] at e; omega) (by omega) w7 ((HO3.out.crs.below hb7).more hb7.size) HB7.out)
            clear hT7 hc7 hb7 HCA k0 k1' k2 k3 k4 k5
            obtain ⟨k0, k1', k2, k3, k4, k5⟩ := HPA5.out _ HB7.out
            go_wp2_with fail
            refine HCB.out.mono ?_
            rintro er w8 ⟨o8, hc8, rfl, hb8⟩
            have hT8 : dc (CP o8) = true := (dc_iff (p := CP o8)).2 (HMO2.out _ _ HCPO.out fun c hc hi => counts_more HCO0.out (by simpa using hc8) c hc)
            rw [hT8]
            have HB8 := hid (HB7.out.trans (hb8.mono HB7.out.size))
            clear hT8 hc8 hb8 HCB k0 k1' k2 k3 k4 k5
            go_wp2_with fail
            refine (lives7_any w8).mono ?_
            rintro er w9 ⟨rfl, bb⟩
            go_wp2
            go_ret
            exact ⟨rfl, HQ1.out.trans ((HB8.out.trans (bb.mono HB8.out.size)).mono HQ1.out.size)⟩
end Go.Proofs.YtfbapbpggicfbaaDoor.Sh
