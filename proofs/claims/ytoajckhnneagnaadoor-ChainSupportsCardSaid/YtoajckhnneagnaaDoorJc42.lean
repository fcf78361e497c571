/-
  The document's own Find, by contract.
-/
import Derived.Test.YtoajckhnneagnaaDoorJc41
import Derived.Test.YtoajckhnneagnaaDoorJc24
import Derived.Test.YtoajckhnneagnaaDoorJc18
import Derived.Test.YtoajckhnneagnaaDoorJc23
import Derived.Test.YtoajckhnneagnaaDoorJc39
import Derived.Test.YtoajckhnneagnaaDoorJc5
set_option linter.unusedVariables false
set_option linter.unusedSimpArgs false
namespace Go.Proofs.YtoajckhnneagnaaDoor.Sh
open Go Go.RowKit

set_option linter.unusedVariables false
set_option linter.unusedSimpArgs false
set_option maxHeartbeats 16000000 in
set_option maxRecDepth 100000 in
theorem refFind8_any (A : Option Addr) (all : List Crd) (n c : Nat) (hn : all.length = n) (hm : n ≤ 30) (who o nm : ByteArray) (w : World) (h : Crs w w.heap.size A all) :
    Calls Tryd.prog 10 #[.slice A n c, .string who, .agg #[.string o, .string nm]] w fun e w' => ∃ cs, CountsOf cs all ∧ ((rd cs ((o, nm), who) = 0 ∧ e = .returned (.tuple #[.agg zeroT.cells.toArray, .int .i64 16])) ∨ (rd cs ((o, nm), who) ≠ 0 ∧ ∃ T : PT, e = .returned (.tuple #[.agg T.cells.toArray, .int .i64 0]) ∧ PIn w' w'.heap.size T ∧ Can cs T ∧ T.pr = ((o, nm), who))) ∧ Below w.heap.size w w' := by
  obtain ⟨w1, hw1⟩ : ∃ w1, w1 = (w.alloc (.cells #[.string o, .string nm] 24)).alloc (.cells #[.string ⟨#[]⟩, .string ⟨#[]⟩, .string ⟨#[]⟩, .int .i64 0, .int .i64 0, .slice none 0 0] 30) := ⟨_, rfl⟩
  obtain ⟨gp, hgp⟩ : ∃ g, w.heap.size = g := ⟨_, rfl⟩
  obtain ⟨gz, hgz⟩ : ∃ g, gp + 1 = g := ⟨_, rfl⟩
  have HGZ : Hid (w.heap.size ≤ gz) := hid (by omega)
  have HGPZ : Hid (gp < gz) := hid (by omega)
  have HQ1 : Hid (Below w.heap.size w w1) := hid (by rw [hw1]; exact ((Below.refl _ _).alloc (Nat.le_refl _) _).alloc (by simp) _)
  have HRO : Hid (RoleAt w1 gp o nm) := hid (by rw [hw1]; exact keep_alloc (by rw [← hgp]; exact RoleAt.new w o nm))
  have HRZ : Hid (w1.heap[gz]? = some (.cells #[.string ⟨#[]⟩, .string ⟨#[]⟩, .string ⟨#[]⟩, .int .i64 0, .int .i64 0, .slice none 0 0] 30 (0, 0))) := hid (by rw [hw1]; exact new_at (by simp [← hgz, hgp]))
  have HCR := hid (fun W (hW : Below w1.heap.size w1 W) => (h.below (HQ1.out.trans (hW.mono HQ1.out.size))).more (Nat.le_trans HQ1.out.size hW.size))
  have HRD := hid (refRound8_any A all n c hn hm who o nm w1 (HCR.out _ (Below.refl _ _)))
  have HCO := hid (fun W (hW : Below w1.heap.size w1 W) => refCounts_any A all n c hn (by omega) W (HCR.out W hW))
  have HN : Hid (all.length = n ∧ n ≤ 30) := hid ⟨hn, hm⟩
  obtain ⟨r0, r1⟩ : w1.cell? ⟨gp, 0, none⟩ = some (.string o) ∧ w1.cell? ⟨gp, 1, none⟩ = some (.string nm) := ⟨HRO.out.c0, HRO.out.c1⟩
  clear h hn hm
  by_cases hz : ∃ cs, CountsOf cs all ∧ rd cs ((o, nm), who) = 0
  · obtain ⟨cs, hcs, hrd⟩ := hz
    have HCN := hid hcs
    have HR := hid hrd
    clear hcs hrd
    go_enter Tryd.func10, Tryd.ntmps10
    go_upto_region 1 with fail
    rw [← hw1]
    try rw [hgp]
    try rw [hgz]
    clear hw1 hgp hgz
    go_upto_region 2 with (go_at_call 13; (refine HRD.out.mono ?_); rintro er w2 ⟨cs2, hco, rfl, b2⟩; have HB2 := hid b2; obtain rfl := counts_one8 hco HCN.out; rw [HR.out]; clear hco b2)
    clear r0 r1
    have HZX := hid ((HB2.out.block gz (Array.getElem?_eq_some_iff.1 HRZ.out).1).trans HRZ.out)
    have HBX : Hid (Below w.heap.size w w2) := hid (HQ1.out.trans (HB2.out.mono HQ1.out.size))
    have z0 : w2.cell? ⟨gz, 0, none⟩ = some (.string ⟨#[]⟩) := (by rw [cell_of_row w2 gz 0 _ _ (0, 0) HZX.out]; rfl)
    have z1 : w2.cell? ⟨gz, 1, none⟩ = some (.string ⟨#[]⟩) := (by rw [cell_of_row w2 gz 1 _ _ (0, 0) HZX.out]; rfl)
    have z2 : w2.cell? ⟨gz, 2, none⟩ = some (.string ⟨#[]⟩) := (by rw [cell_of_row w2 gz 2 _ _ (0, 0) HZX.out]; rfl)
    have z3 : w2.cell? ⟨gz, 3, none⟩ = some (.int .i64 0) := (by rw [cell_of_row w2 gz 3 _ _ (0, 0) HZX.out]; rfl)
    have z4 : w2.cell? ⟨gz, 4, none⟩ = some (.int .i64 0) := (by rw [cell_of_row w2 gz 4 _ _ (0, 0) HZX.out]; rfl)
    have z5 : w2.cell? ⟨gz, 5, none⟩ = some (.slice none 0 0) := (by rw [cell_of_row w2 gz 5 _ _ (0, 0) HZX.out]; rfl)
    have y0 := frozen_of_row w2 gz 0 _ _ HZX.out
    have y1 := frozen_of_row w2 gz 1 _ _ HZX.out
    have y2 := frozen_of_row w2 gz 2 _ _ HZX.out
    have y3 := frozen_of_row w2 gz 3 _ _ HZX.out
    have y4 := frozen_of_row w2 gz 4 _ _ HZX.out
    have y5 := frozen_of_row w2 gz 5 _ _ HZX.out
    obtain ⟨w9, hw9⟩ : ∃ w9, w9 = ((((((w2.setCell ⟨gz, 0, none⟩ (.string ⟨#[]⟩)).setCell ⟨gz, 1, none⟩ (.string ⟨#[]⟩)).setCell ⟨gz, 2, none⟩ (.string ⟨#[]⟩)).setCell ⟨gz, 3, none⟩ (.int .i64 0)).setCell ⟨gz, 4, none⟩ (.int .i64 0)).setCell ⟨gz, 5, none⟩ (.slice none 0 0)) := ⟨_, rfl⟩
    have HR9 : Hid (w9.heap[gz]? = some (.cells #[.string ⟨#[]⟩, .string ⟨#[]⟩, .string ⟨#[]⟩, .int .i64 0, .int .i64 0, .slice none 0 0] 30 (0, 0))) := hid (by rw [hw9]; exact set_six HZX.out)
    have HB9 : Hid (Below w.heap.size w w9) := hid (by rw [hw9]; exact HBX.out.trans (six_below (k6 := 0) HGZ.out _ _ _ _ _ _))
    go_wp2_with fail
    rw [← hw9]
    refine bodyPost_ret (results_cell_tmp (h := Tryd.results10) _ _ gz 0 [.string ⟨#[]⟩, .string ⟨#[]⟩, .string ⟨#[]⟩, .int .i64 0, .int .i64 0, .slice none 0 0] _ rfl (range_row HR9.out) Tryd.underlying30 rfl info_proof) rfl ?_
    exact ⟨cs2, HCN.out, .inl ⟨HR.out, rfl⟩, HB9.out⟩
  · have HNZ := hid (fun cs (h : CountsOf cs all) (h2 : rd cs ((o, nm), who) = 0) => hz ⟨cs, h, h2⟩)
    clear hz
    go_enter Tryd.func10, Tryd.ntmps10
    go_upto_region 1 with fail
    rw [← hw1]
    try rw [hgp]
    try rw [hgz]
    clear hw1 hgp hgz
    go_upto_region 3 with (go_at_call 13; (refine HRD.out.mono ?_); rintro er w2 ⟨cs, hco, rfl, b2⟩; have HCN := hid hco; have HB2 := hid b2; (obtain ⟨R, hR⟩ : ∃ R, rd cs ((o, nm), who) = R := ⟨_, rfl⟩); have HR := hid hR; have hR0 : ¬ R = 0 := (fun e => HNZ.out cs hco (by rw [hR]; exact e)); have hR1 : ¬ (R : Int) = 0 := (by omega); rw [hR]; clear hco b2 hR)
    clear r0 r1 hR1
    have HGZ1 : Hid (gz ≤ w1.heap.size) := hid (Nat.le_of_lt (Array.getElem?_eq_some_iff.1 HRZ.out).1)
    have HR0 := hid hR0
    clear hR0
    have HDD : Hid (Below w1.heap.size w1 w2.drew) := hid HB2.out.drew
    have HKR := hid (fun W (hW : Below gz w1 W) => (have e : RoleAt W gp o nm := (hW.block gp HGPZ.out).trans HRO.out; ⟨e.c0, e.c1⟩ : W.cell? ⟨gp, 0, none⟩ = some (.string o) ∧ W.cell? ⟨gp, 1, none⟩ = some (.string nm)))
    go_region_held3 (fun W => W.cell? ⟨gp, 0, none⟩ = some (.string o) ∧ W.cell? ⟨gp, 1, none⟩ = some (.string nm))
      (exact HKR.out _ (by repeat (first | with_reducible exact BP.out.mono HGZ1.out | with_reducible exact BC.out.mono HGZ1.out | with_reducible exact HDD.out.mono HGZ1.out | with_reducible refine Below.setCell ?_ (by first | exact Nat.le_refl _ | (simp only; omega)) _)))
      ((first
        | (go_at_call 25; (refine (HCO.out _ HDD.out).mono ?_); rintro er w3 ⟨Ac, nc, cc, cs2, rfl, hnc, oc, hco, bb⟩; have BC : Hid (Below w1.heap.size w1 w3) := hid (HDD.out.trans (bb.mono HDD.out.size)); obtain rfl := counts_one8 hco HCN.out; have HOC := hid oc; have HNC := hid hnc; clear bb oc hco hnc)
        | (go_at_call 30; (refine (refProof8_any cs2 nc HOC.out.len (by have := counts_len HCN.out; have := HN.out; have := HOC.out.len; omega) (fun x hx => (counts_mem HCN.out hx).1) Ac cc R ((o, nm), who) (by rw [HR.out]; exact Nat.le_refl _) (by rw [HR.out]; exact HR0.out) _ HOC.out.crs).mono ?_); rintro er w5 ⟨⟨To, Tn, Tx, Td, Tq, TA, Tc, Tps⟩, rfl, hpin, hcan, hpr, b5⟩; have BP : Hid (Below w1.heap.size w1 w5) := hid (BC.out.trans (b5.mono BC.out.size)); have HPI := hid hpin; have HCA := hid hcan; have HPR := hid hpr; have HZX : Hid (w5.heap[gz]? = some (.cells #[.string ⟨#[]⟩, .string ⟨#[]⟩, .string ⟨#[]⟩, .int .i64 0, .int .i64 0, .slice none 0 0] 30 (0, 0))) := hid ((BP.out.block gz (Array.getElem?_eq_some_iff.1 HRZ.out).1).trans HRZ.out); simp only [PT.cells]; have z0 : w5.cell? ⟨gz, 0, none⟩ = some (.string ⟨#[]⟩) := (by rw [cell_of_row w5 gz 0 _ _ (0, 0) HZX.out]; rfl); have z1 : w5.cell? ⟨gz, 1, none⟩ = some (.string ⟨#[]⟩) := (by rw [cell_of_row w5 gz 1 _ _ (0, 0) HZX.out]; rfl); have z2 : w5.cell? ⟨gz, 2, none⟩ = some (.string ⟨#[]⟩) := (by rw [cell_of_row w5 gz 2 _ _ (0, 0) HZX.out]; rfl); have z3 : w5.cell? ⟨gz, 3, none⟩ = some (.int .i64 0) := (by rw [cell_of_row w5 gz 3 _ _ (0, 0) HZX.out]; rfl); have z4 : w5.cell? ⟨gz, 4, none⟩ = some (.int .i64 0) := (by rw [cell_of_row w5 gz 4 _ _ (0, 0) HZX.out]; rfl); have z5 : w5.cell? ⟨gz, 5, none⟩ = some (.slice none 0 0) := (by rw [cell_of_row w5 gz 5 _ _ (0, 0) HZX.out]; rfl); have y0 := frozen_of_row w5 gz 0 _ _ HZX.out; have y1 := frozen_of_row w5 gz 1 _ _ HZX.out; have y2 := frozen_of_row w5 gz 2 _ _ HZX.out; have y3 := frozen_of_row w5 gz 3 _ _ HZX.out; have y4 := frozen_of_row w5 gz 4 _ _ HZX.out; have y5 := frozen_of_row w5 gz 5 _ _ HZX.out; clear hpin hcan hpr b5)))
    all_goals
      have HBX : Hid (Below w.heap.size w w5) := hid (HQ1.out.trans (BP.out.mono HQ1.out.size))
      obtain ⟨w9, hw9⟩ : ∃ w9, w9 = ((((((w5.setCell ⟨gz, 0, none⟩ (.string To)).setCell ⟨gz, 1, none⟩ (.string Tn)).setCell ⟨gz, 2, none⟩ (.string Tx)).setCell ⟨gz, 3, none⟩ (.int .i64 Td)).setCell ⟨gz, 4, none⟩ (.int .i64 Tq)).setCell ⟨gz, 5, none⟩ (.slice TA Tps.length Tc)) := ⟨_, rfl⟩
      have HR9 : Hid (w9.heap[gz]? = some (.cells #[.string To, .string Tn, .string Tx, .int .i64 Td, .int .i64 Tq, .slice TA Tps.length Tc] 30 (0, 0))) := hid (by rw [hw9]; exact set_six HZX.out)
      have HB9 : Hid (Below w.heap.size w w9) := hid (by rw [hw9]; exact HBX.out.trans (six_below (k6 := 0) HGZ.out _ _ _ _ _ _))
      have HFIN : Hid (PIn w9 w9.heap.size (.mk To Tn Tx Td Tq TA Tc Tps)) := hid (by
        refine HPI.out w9 (by rw [hw9]; simp) fun b h1 h2 => ?_
        have hb : b ≠ gz := by have := (Array.getElem?_eq_some_iff.1 HRZ.out).1; have := BC.out.size; omega
        rw [hw9, Below.heap_setCell _ _ _ _ hb, Below.heap_setCell _ _ _ _ hb, Below.heap_setCell _ _ _ _ hb, Below.heap_setCell _ _ _ _ hb, Below.heap_setCell _ _ _ _ hb, Below.heap_setCell _ _ _ _ hb])
      try rw [← hw9]
      clear hw9
      go_wp2_with fail
      refine bodyPost_ret (results_cell_tmp (h := Tryd.results10) _ _ gz 0 [.string To, .string Tn, .string Tx, .int .i64 Td, .int .i64 Tq, .slice TA Tps.length Tc] _ rfl (range_row HR9.out) Tryd.underlying30 rfl info_proof) rfl ?_
      exact ⟨cs2, HCN.out, .inr ⟨by rw [HR.out]; exact HR0.out, .mk To Tn Tx Td Tq TA Tc Tps, rfl, HFIN.out, HCA.out, HPR.out⟩, HB9.out⟩
end Go.Proofs.YtoajckhnneagnaaDoor.Sh
namespace Go.Proofs.YtoajckhnneagnaaDoor.Sh
open Go Go.RowKit
open Go.Maps (Keyed)

set_option linter.unusedVariables false
set_option linter.unusedSimpArgs false
set_option maxHeartbeats 16000000 in
set_option maxRecDepth 100000 in
theorem cRound_any (A : Option Addr) (all : List Crd) (n c : Nat) (hn : all.length = n) (hc : n ≤ c) (hc2 : c ≤ 9223372036854775807) (hm : n ≤ 50) (who o nm : ByteArray) (hwho : okB who) (ho : okB o) (hnm : okB nm) (w : World) (h : Crs w w.heap.size A all) :
    Calls Tryd.prog 12 #[.slice A n c, .string who, .agg #[.string o, .string nm]] w fun e w' => ∃ cs, CountsOf cs all ∧ e = .returned (.int .i64 (rd cs ((o, nm), who) : Int)) ∧ Below w.heap.size w w' := by
  obtain ⟨w1, hw1⟩ : ∃ w1, w1 = w.alloc (.cells #[.string o, .string nm] 24) := ⟨_, rfl⟩
  obtain ⟨gp, hgp⟩ : ∃ g, w.heap.size = g := ⟨_, rfl⟩
  have HQ1 : Hid (Below w.heap.size w w1) := hid (by rw [hw1]; exact (Below.refl _ _).alloc (Nat.le_refl _) _)
  have HRO : Hid (RoleAt w1 gp o nm) := hid (by rw [hw1, ← hgp]; exact RoleAt.new w o nm)
  have HRK := hid (fun W (hW : Below w1.heap.size w1 W) => ranked_any A all n c hn hc hc2 hm who hwho W ((h.below (HQ1.out.trans (hW.mono HQ1.out.size))).more (Nat.le_trans HQ1.out.size hW.size)))
  have HOK : Hid (okP ((o, nm), who)) := hid ⟨⟨ho, hnm⟩, hwho⟩
  have HRC := hid (fun W (hW : Below w1.heap.size w1 W) => (⟨(HRO.out.kept hW).c0, (HRO.out.kept hW).c1⟩ : W.cell? ⟨gp, 0, none⟩ = some (.string o) ∧ W.cell? ⟨gp, 1, none⟩ = some (.string nm)))
  clear h hn hc hc2 hm hwho ho hnm
  go_enter Tryd.func12, Tryd.ntmps12
  go_wp2_with fail
  rw [← hw1]
  clear hw1
  try rw [hgp]
  clear hgp
  have HDR := hid (Below.refl w1.heap.size w1).drew
  obtain ⟨r0, r1⟩ := HRC.out _ HDR.out
  go_region_with (go_at_call 27; (refine (HRK.out _ HDR.out).mono ?_); rintro er w2 ⟨L, vF, col, x, rfl, hco, hLB, hsea, hrk, bb⟩; have HCO := hid hco; have HS2 := hid hsea; have HRX := hid hrk; have BW : Hid (Below w1.heap.size w1 w2) := hid ((Below.refl w1.heap.size w1).drew.trans bb); obtain ⟨b5, hb5⟩ : ∃ b, L.b5 = b := ⟨_, rfl⟩; have c21 : w2.cell? ⟨L.sb, 21, none⟩ = some (.map (some b5)) := (by rw [← hb5]; exact hsea.cell.2.2.2.2.1); have hrl := hsea.rn.look HOK.out; rw [hb5, hrk.rn _ hrk.me] at hrl; unfold pV at hrl; simp only at hrl; clear hco hLB hsea hrk bb hb5 r0 r1; obtain ⟨r0, r1⟩ := HRC.out _ BW.out)
  all_goals
    go_wp2_with fail
    go_ret
    exact ⟨L.cs, HCO.out, rfl, HQ1.out.trans (BW.out.mono HQ1.out.size)⟩
end Go.Proofs.YtoajckhnneagnaaDoor.Sh
namespace Go.Proofs.YtoajckhnneagnaaDoor.Sh
open Go Go.RowKit

set_option linter.unusedSimpArgs false
set_option linter.unusedVariables false
theorem few8C_any (A : Option Addr) (l : List Crd) (n k : Nat) (hn : l.length = n) (hk : n ≤ k) (hk2 : k ≤ 9223372036854775807) (w : World) (h : Crs w w.heap.size A l) :
    Calls Tryd.prog 8 #[.slice A n k] w fun e w' => ∃ m : Nat, e = .returned (.slice A m k) ∧ ∃ l' : List Crd, l'.length = m ∧ m ≤ 9 ∧ m ≤ k ∧ Crs w w.heap.size A l' ∧ w' = w := by
  by_cases h14 : 9 < n
  · have hN : (l.take 9).length = 9 := by rw [List.length_take]; omega
    have HY := hid (h.head (hi := 9))
    have h14' : (9 : Int) < (n : Int) := by omega
    have h14k : 9 ≤ k := by omega
    have HN := hid hN
    clear h hn hN
    go_enter Tryd.func8, Tryd.ntmps8
    go_wp2_with fail
    go_ret
    exact ⟨9, rfl, l.take 9, HN.out, Nat.le_refl _, h14k, HY.out, rfl⟩
  · have h14' : ¬ (9 : Int) < (n : Int) := by omega
    have HN := hid hn
    have HY := hid h
    clear h hn
    go_enter Tryd.func8, Tryd.ntmps8
    go_wp2_with fail
    go_ret
    exact ⟨n, rfl, l, HN.out, by omega, hk, HY.out, rfl⟩
noncomputable def cnt8 (l : List Crd) : List Crd := Classical.epsilon fun o => CountsOf o l
theorem cnt8_of {out l : List Crd} (h : CountsOf out l) : cnt8 l = out := counts_uniq (Classical.epsilon_spec (p := fun o => CountsOf o l) ⟨out, h⟩) h
def Out (l : List Crd) (p : Pr) (T : PT) (E : Int) : Prop := (rd (cnt8 l) p = 0 ∧ T = zeroT ∧ E = 16) ∨ (rd (cnt8 l) p ≠ 0 ∧ Can (cnt8 l) T ∧ T.pr = p ∧ E = 0)
theorem Out.same {l : List Crd} {p : Pr} {T T' : PT} {E E' : Int} (h : Out l p T E) (h' : Out l p T' E') : smP T T' = true ∧ E = E' := by
  rw [smP_iff]
  rcases h with ⟨h1, h2, h3⟩ | ⟨h1, h2, h3, h4⟩
  · rcases h' with ⟨g1, g2, g3⟩ | ⟨g1, g2, g3, g4⟩
    · exact ⟨by rw [h2, g2], by rw [h3, g3]⟩
    · exact absurd h1 g1
  · rcases h' with ⟨g1, g2, g3⟩ | ⟨g1, g2, g3, g4⟩
    · exact absurd g1 h1
    · exact ⟨h2.uniq g2 (by rw [h3, g3]), by rw [h4, g4]⟩
theorem pin_zero (w : World) : PIn w w.heap.size zeroT := .mk ⟨⟨by decide, by decide⟩, ⟨by decide, by decide⟩⟩ (Nat.le_refl _) (by decide) Els.nil (by simp)
theorem cFindU (A : Option Addr) (all : List Crd) (n c : Nat) (hn : all.length = n) (hc : n ≤ c) (hc2 : c ≤ 9223372036854775807) (hm : n ≤ 30) (who o nm : ByteArray) (hwho : okB who) (ho : okB o) (hnm : okB nm) (w : World) (h : Crs w w.heap.size A all) :
    Calls Tryd.prog 9 #[.slice A n c, .string who, .agg #[.string o, .string nm]] w fun e w' => ∃ (T : PT) (E : Int), e = .returned (.tuple #[.agg T.cells.toArray, .int .i64 E]) ∧ PIn w' w'.heap.size T ∧ Out all ((o, nm), who) T E ∧ Below w.heap.size w w' :=
  (cFind_any A all n c hn hc hc2 (by omega) who o nm hwho ho hnm w h).mono fun e w' ⟨cs, h1, h2, h3⟩ => by
    have h4 := cnt8_of h1
    rcases h2 with ⟨h5, h6⟩ | ⟨h5, T, h6, h7, h8, h9⟩
    · exact ⟨zeroT, 16, h6, pin_zero w', .inl ⟨by rw [h4]; exact h5, rfl, rfl⟩, h3⟩
    · exact ⟨T, 0, h6, h7, .inr ⟨by rw [h4]; exact h5, by rw [h4]; exact h8, h9, rfl⟩, h3⟩
theorem rFindU (A : Option Addr) (all : List Crd) (n c : Nat) (hn : all.length = n) (hm : n ≤ 30) (who o nm : ByteArray) (w : World) (h : Crs w w.heap.size A all) :
    Calls Tryd.prog 10 #[.slice A n c, .string who, .agg #[.string o, .string nm]] w fun e w' => ∃ (T : PT) (E : Int), e = .returned (.tuple #[.agg T.cells.toArray, .int .i64 E]) ∧ PIn w' w'.heap.size T ∧ Out all ((o, nm), who) T E ∧ Below w.heap.size w w' :=
  (refFind8_any A all n c hn hm who o nm w h).mono fun e w' ⟨cs, h1, h2, h3⟩ => by
    have h4 := cnt8_of h1
    rcases h2 with ⟨h5, h6⟩ | ⟨h5, T, h6, h7, h8, h9⟩
    · exact ⟨zeroT, 16, h6, pin_zero w', .inl ⟨by rw [h4]; exact h5, rfl, rfl⟩, h3⟩
    · exact ⟨T, 0, h6, h7, .inr ⟨by rw [h4]; exact h5, by rw [h4]; exact h8, h9, rfl⟩, h3⟩
set_option maxHeartbeats 8000000 in
set_option maxRecDepth 100000 in
theorem chainFinds_walk (hlv : ∀ w, Calls Tryd.prog 14 #[] w fun e w' => e = .returned (.bool true) ∧ Below w.heap.size w w')
    (A : Option Addr) (l0 : List Crd) (n0 k : Nat) (hn0 : l0.length = n0) (hk0 : n0 ≤ k) (hk2 : k ≤ 9223372036854775807) (who o nm : ByteArray) (hwho : okB who) (ho : okB o) (hnm : okB nm) (w : World) (hb : Crs w w.heap.size A l0) :
    Calls Tryd.prog 3 #[.slice A n0 k, .string who, .agg #[.string o, .string nm]] w fun e w' => e = .returned (.bool true) ∧ Below w.heap.size w w' := by
  obtain ⟨w1, hw1⟩ : ∃ w1, w1 = w.alloc (.cells #[.string o, .string nm] 24) := ⟨_, rfl⟩
  obtain ⟨gp, hgp⟩ : ∃ g, w.heap.size = g := ⟨_, rfl⟩
  have HQ1 : Hid (Below w.heap.size w w1) := hid (by rw [hw1]; exact (Below.refl _ _).alloc (Nat.le_refl _) _)
  have HRO : Hid (RoleAt w1 gp o nm) := hid (by rw [hw1, ← hgp]; exact RoleAt.new w o nm)
  have HKR := hid (fun W (hW : Below w1.heap.size w1 W) => (⟨(HRO.out.kept hW).c0, (HRO.out.kept hW).c1⟩ : W.cell? ⟨gp, 0, none⟩ = some (.string o) ∧ W.cell? ⟨gp, 1, none⟩ = some (.string nm)))
  have HFE := hid (few8C_any A l0 n0 k hn0 hk0 hk2 w1 ((hb.below HQ1.out).more HQ1.out.size))
  have HOK : Hid (okB who ∧ okB o ∧ okB nm ∧ k ≤ 9223372036854775807) := hid ⟨hwho, ho, hnm, hk2⟩
  have HLV := hid hlv
  clear hb hn0 hk0 hk2 hwho ho hnm hlv
  go_enter Tryd.func3, Tryd.ntmps3
  go_upto_region 1 with fail
  rw [← hw1]
  try rw [hgp]
  clear hw1 hgp
  go_upto_region 2 with (go_at_call 8; (refine HFE.out.mono ?_); rintro er w2 ⟨n, rfl, l, hN, hm, hk, y0, rfl⟩; have HN : Hid (l.length = n ∧ n ≤ 9 ∧ n ≤ k) := hid ⟨hN, hm, hk⟩; have HY := hid (fun W (hW : Below w2.heap.size w2 W) => (y0.below hW).more hW.size); clear hN hm hk y0)
  obtain ⟨r0, r1⟩ := HKR.out _ (Below.refl _ _)
  have HF1 := hid (cFindU A l n k HN.out.1 HN.out.2.2 HOK.out.2.2.2 (by have := HN.out; omega) who o nm HOK.out.1 HOK.out.2.1 HOK.out.2.2.1 w2 (HY.out _ (Below.refl _ _)))
  go_upto_region 3 with (go_at_call 9; (refine HF1.out.mono ?_); rintro er w3 ⟨⟨To, Tn, Tx, Td, Tq, TA, Tc, Tps⟩, E, rfl, hpi, hou, hb3⟩; have HP3 := hid hpi; have HOU := hid hou; have HB3 := hid hb3; simp only [PT.cells]; clear hpi hou hb3)
  obtain ⟨w4, hw4⟩ : ∃ x, x = w3.alloc (.cells #[.string To, .string Tn, .string Tx, .int .i64 Td, .int .i64 Tq, .slice TA Tps.length Tc] 30) := ⟨_, rfl⟩
  obtain ⟨g4, hg4⟩ : ∃ x, w3.heap.size = x := ⟨_, rfl⟩
  rw [← hw4]
  try rw [hg4]
  have HB34 : Hid (Below w3.heap.size w3 w4) := hid (by rw [hw4]; exact (Below.refl _ _).alloc (Nat.le_refl _) _)
  have HB4 : Hid (Below w2.heap.size w2 w4) := hid (HB3.out.trans (HB34.out.mono HB3.out.size))
  have HA4 : Hid (PrAt w4 g4 (.mk To Tn Tx Td Tq TA Tc Tps)) := hid (by rw [hw4, ← hg4]; exact PrAt.new w3 (.mk To Tn Tx Td Tq TA Tc Tps))
  have HP4 := hid (HP3.out.now HB34.out)
  clear hw4 hg4 r0 r1 HF1 HB3 HP3 HB34
  obtain ⟨r0, r1⟩ := HKR.out _ HB4.out
  have HF2 := hid (rFindU A l n k HN.out.1 (by have := HN.out; omega) who o nm w4 (HY.out _ HB4.out))
  go_upto_region 4 with (go_at_call 10; (refine HF2.out.mono ?_); rintro er w5 ⟨⟨So, Sn, Sx, Sd, Sq, SA, Sc, Sps⟩, E2, rfl, hpi, hou, hb3⟩; have HP5 := hid hpi; have HSM := hid (HOU.out.same hou); have HB5 := hid hb3; have HOV := hid hou; simp only [PT.cells]; clear hpi hou hb3)
  obtain ⟨w6, hw6⟩ : ∃ x, x = w5.alloc (.cells #[.string So, .string Sn, .string Sx, .int .i64 Sd, .int .i64 Sq, .slice SA Sps.length Sc] 30) := ⟨_, rfl⟩
  obtain ⟨g6, hg6⟩ : ∃ x, w5.heap.size = x := ⟨_, rfl⟩
  rw [← hw6]
  try rw [hg6]
  have HB56 : Hid (Below w5.heap.size w5 w6) := hid (by rw [hw6]; exact (Below.refl _ _).alloc (Nat.le_refl _) _)
  have HB46 : Hid (Below w4.heap.size w4 w6) := hid (HB5.out.trans (HB56.out.mono HB5.out.size))
  have HB6 : Hid (Below w2.heap.size w2 w6) := hid (HB4.out.trans (HB46.out.mono HB4.out.size))
  have HA6 : Hid (PrAt w6 g6 (.mk So Sn Sx Sd Sq SA Sc Sps)) := hid (by rw [hw6, ← hg6]; exact PrAt.new w5 (.mk So Sn Sx Sd Sq SA Sc Sps))
  have HP6 := hid (HP5.out.now HB56.out)
  have HP46 := hid (HP4.out.now HB46.out)
  have HSA := hid (refSame7_any _ _ w6 HP46.out HP6.out)
  obtain ⟨t0, t1, t2, t3, t4, t5⟩ := (HA4.out.kept HB46.out).all
  obtain ⟨s0, s1, s2, s3, s4, s5⟩ := HA6.out.all
  clear hw6 hg6 r0 r1 HF2 HB5 HP5 HB56
  rw [HSM.out.1] at HSA
  simp only [PT.cells] at HSA
  go_upto_region 5 with (go_at_call 11; (refine HSA.out.mono ?_); rintro er w7 ⟨rfl, b7⟩; have HB7 := hid (HB6.out.trans (b7.mono HB6.out.size)); clear b7)
  clear t0 t1 t2 t3 t4 t5 s0 s1 s2 s3 s4 s5
  have hEE : E = 16 ∨ E = 0 := by rcases HOU.out with ⟨-, -, h⟩ | ⟨-, -, -, h⟩ <;> simp [h]
  have hE2 := HSM.out.2
  subst hE2
  obtain ⟨R, hR⟩ : ∃ R, rd (cnt8 l) ((o, nm), who) = R := ⟨_, rfl⟩
  have HR1 := hid (fun W (hW : Below w7.heap.size w7 W) => (cRound_any A l n k HN.out.1 HN.out.2.2 HOK.out.2.2.2 (by have := HN.out; omega) who o nm HOK.out.1 HOK.out.2.1 HOK.out.2.2.1 W (HY.out _ (HB7.out.trans (hW.mono HB7.out.size)))).mono (R' := fun e w' => e = .returned (.int .i64 (R : Int)) ∧ Below W.heap.size W w') fun e w' ⟨cs, g1, g2, g3⟩ => ⟨by rw [g2, ← hR, cnt8_of g1], g3⟩)
  have HR2 := hid (fun W (hW : Below w7.heap.size w7 W) => (refRound8_any A l n k HN.out.1 (by have := HN.out; omega) who o nm W (HY.out _ (HB7.out.trans (hW.mono HB7.out.size)))).mono (R' := fun e w' => e = .returned (.int .i64 (R : Int)) ∧ Below W.heap.size W w') fun e w' ⟨cs, g1, g2, g3⟩ => ⟨by rw [g2, ← hR, cnt8_of g1], g3⟩)
  have HLW := hid (fun W (_ : Below w7.heap.size w7 W) => HLV.out W)
  have r0 := fun x : Wn w7.heap.size w7 => (HKR.out x.1 (HB7.out.trans (x.2.mono HB7.out.size))).1
  have r1 := fun x : Wn w7.heap.size w7 => (HKR.out x.1 (HB7.out.trans (x.2.mono HB7.out.size))).2
  have HDR := hid (Below.refl w7.heap.size w7).drew
  clear hR
  rcases hEE with rfl | rfl
  all_goals
    refine region_in w7.heap.size w7 (by kernel_rfl) (by kernel_rfl) HDR.out ?_
    repeat (go_big_quiet_step (first
      | (go_at_call 12; with_reducible exact call_in2 (Nat.le_refl _) HR1.out)
      | (go_at_call 13; with_reducible exact call_in2 (Nat.le_refl _) HR2.out)
      | (go_at_call 14; with_reducible exact call_in2 (Nat.le_refl _) HLW.out)))
    refine wpQuiet_nil ?_
    intro wq hwq
    have HWQ := hid hwq
    clear hwq r0 r1
    go_wp2_with fail
    go_ret
    exact ⟨rfl, HQ1.out.trans ((HB7.out.trans (HWQ.out.mono HB7.out.size)).mono HQ1.out.size)⟩
end Go.Proofs.YtoajckhnneagnaaDoor.Sh
namespace Go.Proofs.YtoajckhnneagnaaDoor.Sh
open Go Go.RowKit
open Go.Maps (Keyed)

set_option linter.unusedVariables false
set_option linter.unusedSimpArgs false
def SortedI (l : List (Int × Int)) : Prop := l.Pairwise fun x y => beforeI x.1 x.2 y.1 y.2 = true
theorem SortedI.uniq {a b : List (Int × Int)} (ha : SortedI a) (hb : SortedI b) (h : ∀ i, i ∈ a ↔ i ∈ b) : a = b := by
  have irr : ∀ x : Int × Int, ¬ beforeI x.1 x.2 x.1 x.2 = true := fun x => by unfold beforeI; simp only [decide_eq_true_eq]; omega
  have nd : ∀ {l}, SortedI l → l.Nodup := fun {l} hl => List.Pairwise.imp (fun {x y} hxy (e : x = y) => by subst e; exact irr _ hxy) hl
  exact List.Perm.eq_of_pairwise (le := fun (x y : Int × Int) => beforeI x.1 x.2 y.1 y.2 = true) (fun x y _ _ h1 h2 => by
    have := beforeI_trans h1 h2
    exact absurd this (irr x)) ha hb ((List.perm_ext_iff_of_nodup (nd ha) (nd hb)).2 h)
set_option maxRecDepth 100000 in
set_option maxHeartbeats 2000000 in
def IMap (w : World) (b : Nat) (L : List (Int × Int)) : Prop := ∃ D : DataW Unit, w.ownsMap Tryd.prog 27 unitElem b L.length D ∧ (∀ i, okI i → Maps.has D (ki i) = decide (i ∈ L)) ∧ (∀ z, Maps.has D z = true → ∃ i ∈ L, okI i ∧ z = ki i)
theorem IMap.new (w : World) : IMap (w.alloc (.map #[] 0)) w.heap.size [] := ⟨_, World.ownsMap_made w _ _ _, fun i _ => by simp [Maps.has], fun z h => by simp [Maps.has] at h⟩
theorem IMap.at' {w w' : World} {b : Nat} {L : List (Int × Int)} (h : IMap w b L) (hb : w'.heap[b]? = w.heap[b]?) : IMap w' b L := by
  obtain ⟨D, ⟨es, clock, h1, r⟩, h2⟩ := h
  exact ⟨D, ⟨es, clock, hb.trans h1, r⟩, h2⟩
theorem IMap.lt {w : World} {b : Nat} {L : List (Int × Int)} (h : IMap w b L) : b < w.heap.size := by obtain ⟨D, h1, _⟩ := h; exact h1.lt
theorem IMap.kept {w w' : World} {b : Nat} {L : List (Int × Int)} (h : IMap w b L) (hb : Below w.heap.size w w') : IMap w' b L := h.at' (hb.block b h.lt)
theorem IMap.add {w : World} {b : Nat} {L : List (Int × Int)} (h : IMap w b L) {i : Int × Int} (hi : okI i) (hl : L.length < 1000000) :
    ∃ w', (Instr.mapUpdate 78 (.map (some b)) (.agg #[.int .i64 i.1, .int .i64 i.2]) (.agg #[])).run Tryd.prog w = .ok () w' ∧ IMap w' b (L ++ [i]) ∧ w.grownBy w' (some b) := by
  obtain ⟨D, h1, h2, h3⟩ := h
  obtain ⟨w', hrun, ho, hg⟩ := h1.update lawI Tryd.underlying78 (by unfold maxLen; omega) (keyI hi) (unitElem_mk (H := Unit))
  refine ⟨w', hrun, ⟨_, by rw [List.length_append, List.length_singleton]; exact ho, fun q hq => ?_, fun z hz => ?_⟩, hg⟩
  · by_cases e : q = i
    · subst e
      rw [Maps.has_put_same h1.isMap (lawI.key (keyI hi))]
      simp
    · rw [Maps.has_put_other (fun e' => e (ki_inj hq hi e')), h2 q hq]
      simp [e]
  · by_cases e : z = ki i
    · exact ⟨i, by simp, hi, e⟩
    · rw [Maps.has_put_other e] at hz
      obtain ⟨q, hq, e'⟩ := h3 z hz
      exact ⟨q, by simp [hq], e'⟩
end Go.Proofs.YtoajckhnneagnaaDoor.Sh
