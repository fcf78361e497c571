/-
  A call of a Go function by its contract, as one step of a region that draws.
-/
import Derived.Test.YtoajckhnneagnaaDoorJd4
import Derived.Deep.RegionLaw
import Derived.Test.YtoajckhnneagnaaDoorJd24
import Derived.Shelf.Abstract
import Derived.Test.YtoajckhnneagnaaDoorJd39
import Derived.Test.YtoajckhnneagnaaDoorJd23
import Derived.Test.YtoajckhnneagnaaDoorJd18
import Derived.Test.YtoajckhnneagnaaDoorJd38
import Derived.Test.YtoajckhnneagnaaDoorJd2
import Derived.Test.YtoajckhnneagnaaDoorJd1
set_option linter.unusedVariables false
set_option linter.unusedSimpArgs false
namespace Go.Proofs.YtoajckhnneagnaaDoor.Sh
open Go Go.RowKit

set_option linter.unusedSimpArgs false
set_option linter.unusedVariables false
end Go.Proofs.YtoajckhnneagnaaDoor.Sh
namespace Go.Proofs.YtoajckhnneagnaaDoor.Sh
open Go Go.RowKit

set_option linter.unusedVariables false
set_option linter.unusedSimpArgs false
end Go.Proofs.YtoajckhnneagnaaDoor.Sh
namespace Go.Proofs.YtoajckhnneagnaaDoor.Sh
open Go Go.RowKit
open Go.Maps (Keyed)

set_option linter.unusedVariables false
set_option linter.unusedSimpArgs false
theorem Rkd.eta {L : Ly} {who : ByteArray} {x : Sx} (h : Rkd L who x) : x = ⟨x.s, fun _ => none, 0, []⟩ := by
  obtain ⟨s, re, nr, la⟩ := x
  have h1 := h.re
  have h2 := h.nr
  have h3 := h.la
  simp only at h1 h2 h3
  rw [h1, h2, h3]
set_option maxHeartbeats 16000000 in
set_option maxRecDepth 100000 in
theorem cFindW_any (A : Option Addr) (all : List Crd) (n c : Nat) (hn : all.length = n) (hc : n ≤ c) (hc2 : c ≤ 9223372036854775807) (hm : n ≤ 50) (who o nm : ByteArray) (hwho : okB who) (ho : okB o) (hnm : okB nm) (w : World) (h : Crs w w.heap.size A all) :
    Calls Tryd.prog 9 #[.slice A n c, .string who, .agg #[.string o, .string nm]] w fun e w' => ∃ cs, CountsOf cs all ∧ ((rd cs ((o, nm), who) = 0 ∧ e = .returned (.tuple #[.agg zeroT.cells.toArray, .int .i64 16])) ∨ (rd cs ((o, nm), who) ≠ 0 ∧ ∃ V : Array Value, e = .returned (.tuple #[.agg V, .int .i64 0]) ∧ ∀ W : World, w'.heap.size ≤ W.heap.size → (∀ b, w.heap.size ≤ b → b < w'.heap.size → W.heap[b]? = w'.heap[b]?) → ∃ T : PT, V = T.cells.toArray ∧ PIn W W.heap.size T ∧ Can cs T ∧ T.pr = ((o, nm), who))) ∧ Below w.heap.size w w' := by
  obtain ⟨w1, hw1⟩ : ∃ w1, w1 = (w.alloc (.cells #[.string o, .string nm] 24)).alloc (.cells #[.string ⟨#[]⟩, .string ⟨#[]⟩, .string ⟨#[]⟩, .int .i64 0, .int .i64 0, .slice none 0 0] 30) := ⟨_, rfl⟩
  obtain ⟨gp, hgp⟩ : ∃ g, w.heap.size = g := ⟨_, rfl⟩
  have HGP := hid hgp
  have HQ1 : Hid (Below w.heap.size w w1) := hid (by rw [hw1]; exact ((Below.refl _ _).alloc (Nat.le_refl _) _).alloc (by simp) _)
  have HRO : Hid (RoleAt w1 gp o nm) := hid (by rw [hw1]; exact keep_alloc (by rw [← hgp]; exact RoleAt.new w o nm))
  have HRZ : Hid (w1.heap[gp + 1]? = some (.cells #[.string ⟨#[]⟩, .string ⟨#[]⟩, .string ⟨#[]⟩, .int .i64 0, .int .i64 0, .slice none 0 0] 30 (0, 0))) := hid (by rw [hw1]; exact new_at (by simp [hgp]))
  have HRK := hid (ranked_any A all n c hn hc hc2 hm who hwho w1 ((h.below HQ1.out).more HQ1.out.size))
  have HOK : Hid (okP ((o, nm), who)) := hid ⟨⟨ho, hnm⟩, hwho⟩
  clear h hn hc hc2 hm hwho ho hnm
  go_enter Tryd.func9, Tryd.ntmps9
  go_upto_region 1 with fail
  rw [← hw1]
  clear hw1
  try rw [hgp]
  clear hgp
  go_upto_region 2 with (go_at_call 27; (refine HRK.out.mono ?_); rintro er w2 ⟨L, vF, col, x, rfl, hco, hLB, hsea, hrk, bb⟩; have HCO := hid hco; have HS2 := hid hsea; have HRX := hid hrk; have HB2 := hid bb; have HLB := hid hLB; clear hco hLB hsea hrk bb)
  have HR2 := hid (HRO.out.kept HB2.out)
  have HZ2 := hid ((HB2.out.block _ (Array.getElem?_eq_some_iff.1 HRZ.out).1).trans HRZ.out)
  have r0 := HR2.out.c0
  have r1 := HR2.out.c1
  obtain ⟨w3, hw3⟩ : ∃ w3, w3 = w2.alloc (.cells #[.string o, .string nm, .string who] 58) := ⟨_, rfl⟩
  obtain ⟨gq, hgq⟩ : ∃ g, w2.heap.size = g := ⟨_, rfl⟩
  go_upto_region 3 with fail
  rw [← hw3]
  try rw [hgq]
  have HB3 : Hid (Below w2.heap.size w2 w3) := hid (by rw [hw3]; exact (Below.refl _ _).alloc (Nat.le_refl _) _)
  have HP3 : Hid (PrA w3 gq o nm who) := hid (by rw [hw3, ← hgq]; exact PrA.new w2 _ _ _)
  have HGQ : Hid (col gq = none) := hid (HS2.out.free (by omega))
  clear hw3 hgq r0 r1
  have hs3 := HS2.out.below HB3.out
  rw [HRX.out.eta] at hs3
  have HS3 := hid hs3
  have HZ3 := hid ((HB3.out.block _ (Array.getElem?_eq_some_iff.1 HZ2.out).1).trans HZ2.out)
  have hpe : who ∈ L.pe := HRX.out.me
  obtain ⟨k0, k1, k2⟩ := HP3.out.all
  have HBW : Hid (Below w.heap.size w w3) := hid (HQ1.out.trans ((HB2.out.mono HQ1.out.size).trans (HB3.out.mono (Nat.le_trans HQ1.out.size HB2.out.size))))
  clear hs3
  by_cases hrd : rd L.cs ((o, nm), who) = 0
  · have HF := hid (find_no HRX.out.sch ((o, nm), who) HOK.out hpe hrd w3 _ _ HS3.out)
    have HRD := hid hrd
    clear hrd hpe
    go_upto_region 4 with (go_at_call 28; (refine HF.out.mono ?_); rintro er w4 ⟨rfl, bb⟩; have HB4 := hid bb; clear bb)
    have HZ4 := hid ((HB4.out.block _ (Array.getElem?_eq_some_iff.1 HZ3.out).1).trans HZ3.out)
    have z0 : w4.cell? ⟨gp + 1, 0, none⟩ = some (.string ⟨#[]⟩) := by rw [cell_of_row w4 _ 0 _ _ (0, 0) HZ4.out]; rfl
    have z1 : w4.cell? ⟨gp + 1, 1, none⟩ = some (.string ⟨#[]⟩) := by rw [cell_of_row w4 _ 1 _ _ (0, 0) HZ4.out]; rfl
    have z2 : w4.cell? ⟨gp + 1, 2, none⟩ = some (.string ⟨#[]⟩) := by rw [cell_of_row w4 _ 2 _ _ (0, 0) HZ4.out]; rfl
    have z3 : w4.cell? ⟨gp + 1, 3, none⟩ = some (.int .i64 0) := by rw [cell_of_row w4 _ 3 _ _ (0, 0) HZ4.out]; rfl
    have z4 : w4.cell? ⟨gp + 1, 4, none⟩ = some (.int .i64 0) := by rw [cell_of_row w4 _ 4 _ _ (0, 0) HZ4.out]; rfl
    have z5 : w4.cell? ⟨gp + 1, 5, none⟩ = some (.slice none 0 0) := by rw [cell_of_row w4 _ 5 _ _ (0, 0) HZ4.out]; rfl
    have y0 := frozen_of_row w4 (gp + 1) 0 _ _ HZ4.out
    have y1 := frozen_of_row w4 (gp + 1) 1 _ _ HZ4.out
    have y2 := frozen_of_row w4 (gp + 1) 2 _ _ HZ4.out
    have y3 := frozen_of_row w4 (gp + 1) 3 _ _ HZ4.out
    have y4 := frozen_of_row w4 (gp + 1) 4 _ _ HZ4.out
    have y5 := frozen_of_row w4 (gp + 1) 5 _ _ HZ4.out
    obtain ⟨w9, hw9⟩ : ∃ w9, w9 = (((((w4.setCell ⟨gp + 1, 0, none⟩ (.string ⟨#[]⟩)).setCell ⟨gp + 1, 1, none⟩ (.string ⟨#[]⟩)).setCell ⟨gp + 1, 2, none⟩ (.string ⟨#[]⟩)).setCell ⟨gp + 1, 3, none⟩ (.int .i64 0)).setCell ⟨gp + 1, 4, none⟩ (.int .i64 0)).setCell ⟨gp + 1, 5, none⟩ (.slice none 0 0) := ⟨_, rfl⟩
    have HR9 : Hid (w9.heap[gp + 1]? = some (.cells #[.string ⟨#[]⟩, .string ⟨#[]⟩, .string ⟨#[]⟩, .int .i64 0, .int .i64 0, .slice none 0 0] 30 (0, 0))) := hid (by rw [hw9]; exact set_six HZ4.out)
    have HB9 : Hid (Below w.heap.size w w9) := hid (by rw [hw9]; exact (HBW.out.trans (HB4.out.mono HBW.out.size)).trans (six_below (by rw [HGP.out]; omega) _ _ _ _ _ _ (k6 := 0)))
    go_wp2_with fail
    rw [← hw9]
    refine bodyPost_ret (results_cell_tmp (h := Tryd.results9) _ _ (gp + 1) 0 [.string ⟨#[]⟩, .string ⟨#[]⟩, .string ⟨#[]⟩, .int .i64 0, .int .i64 0, .slice none 0 0] _ rfl (range_row HR9.out) Tryd.underlying30 rfl info_proof) rfl ?_
    exact ⟨L.cs, HCO.out, .inl ⟨HRD.out, rfl⟩, HB9.out⟩
  · have HF := hid (find_yes HRX.out.sch ((o, nm), who) HOK.out hpe hrd w3 _ _ HS3.out ReI.zero)
    have HRD := hid hrd
    clear hrd hpe
    go_upto_region 5 with (go_at_call 28; (refine HF.out.mono ?_); rintro er w4 ⟨rfl, vL', col', re', nr', hsea4, hri4, hex4, hhas4, hx4⟩; have HS4 := hid hsea4; have HRI4 := hid hri4; have HEX4 := hid hex4; have HHAS := hid hhas4; have HX4 := hid hx4; clear hsea4 hri4 hex4 hhas4 hx4)
    have HB4 : Hid (Below w1.heap.size w3 w4) := hid (HX4.out.below (by rw [← HLB.out]; exact HS3.out.low) (Nat.le_trans HB2.out.size HB3.out.size))
    have HP4 : Hid (PrA w4 gq o nm who) := hid ((HX4.out.free HP3.out.lt HGQ.out).trans HP3.out)
    have HZ4 := hid ((HB4.out.block _ (Array.getElem?_eq_some_iff.1 HRZ.out).1).trans HZ3.out)
    have HG4 : Hid (gp + 1 < w4.heap.size) := hid (Array.getElem?_eq_some_iff.1 HZ4.out).1
    have HPF := hid (proof_any HRX.out.sch ((o, nm), who) w4 re' nr' HS4.out HRI4.out (HEX4.out.shuts (fun q i ps h => by cases h)) HHAS.out)
    obtain ⟨m0, m1, m2⟩ := HP4.out.all
    clear k0 k1 k2
    go_wp2_with (go_at_call 29; (refine HPF.out.mono ?_); rintro er w5 ⟨V, rfl, hV, bb⟩; have HB5 := hid bb; have HV := hid hV; (obtain ⟨⟨To, Tn, Tx, Td, Tq, TA, Tc, Tps⟩, rfl, -⟩ := hV w5 (Nat.le_refl _) (fun b _ _ => rfl)); have HZ5 := hid ((bb.block _ HG4.out).trans HZ4.out); clear hV bb; simp only [PT.cells]; have z0 : w5.cell? ⟨gp + 1, 0, none⟩ = some (.string ⟨#[]⟩) := (by rw [cell_of_row w5 _ 0 _ _ (0, 0) HZ5.out]; rfl); have z1 : w5.cell? ⟨gp + 1, 1, none⟩ = some (.string ⟨#[]⟩) := (by rw [cell_of_row w5 _ 1 _ _ (0, 0) HZ5.out]; rfl); have z2 : w5.cell? ⟨gp + 1, 2, none⟩ = some (.string ⟨#[]⟩) := (by rw [cell_of_row w5 _ 2 _ _ (0, 0) HZ5.out]; rfl); have z3 : w5.cell? ⟨gp + 1, 3, none⟩ = some (.int .i64 0) := (by rw [cell_of_row w5 _ 3 _ _ (0, 0) HZ5.out]; rfl); have z4 : w5.cell? ⟨gp + 1, 4, none⟩ = some (.int .i64 0) := (by rw [cell_of_row w5 _ 4 _ _ (0, 0) HZ5.out]; rfl); have z5 : w5.cell? ⟨gp + 1, 5, none⟩ = some (.slice none 0 0) := (by rw [cell_of_row w5 _ 5 _ _ (0, 0) HZ5.out]; rfl); have y0 := frozen_of_row w5 (gp + 1) 0 _ _ HZ5.out; have y1 := frozen_of_row w5 (gp + 1) 1 _ _ HZ5.out; have y2 := frozen_of_row w5 (gp + 1) 2 _ _ HZ5.out; have y3 := frozen_of_row w5 (gp + 1) 3 _ _ HZ5.out; have y4 := frozen_of_row w5 (gp + 1) 4 _ _ HZ5.out; have y5 := frozen_of_row w5 (gp + 1) 5 _ _ HZ5.out)
    obtain ⟨w9, hw9⟩ : ∃ w9, w9 = ((((((w5.setCell ⟨gp + 1, 0, none⟩ (.string To)).setCell ⟨gp + 1, 1, none⟩ (.string Tn)).setCell ⟨gp + 1, 2, none⟩ (.string Tx)).setCell ⟨gp + 1, 3, none⟩ (.int .i64 Td)).setCell ⟨gp + 1, 4, none⟩ (.int .i64 Tq)).setCell ⟨gp + 1, 5, none⟩ (.slice TA Tps.length Tc)) := ⟨_, rfl⟩
    have HR9 : Hid (w9.heap[gp + 1]? = some (.cells #[.string To, .string Tn, .string Tx, .int .i64 Td, .int .i64 Tq, .slice TA Tps.length Tc] 30 (0, 0))) := hid (by rw [hw9]; exact set_six HZ5.out)
    have hbel5 : Below w.heap.size w w5 := HBW.out.trans ((HB4.out.mono HQ1.out.size).trans (HB5.out.mono (Nat.le_trans HBW.out.size HB4.out.size)))
    have HB9 : Hid (Below w.heap.size w w9) := hid (by rw [hw9]; exact hbel5.trans (six_below (by rw [HGP.out]; omega) _ _ _ _ _ _ (k6 := 0)))
    have hsz5 : w9.heap.size = w5.heap.size := by rw [hw9]; simp
    have hlow : w.heap.size ≤ w4.heap.size := Nat.le_trans HBW.out.size HB4.out.size
    have HFIN : Hid (∀ W : World, w9.heap.size ≤ W.heap.size → (∀ b, w.heap.size ≤ b → b < w9.heap.size → W.heap[b]? = w9.heap[b]?) → ∃ T : PT, (#[.string To, .string Tn, .string Tx, .int .i64 Td, .int .i64 Tq, .slice TA Tps.length Tc] : Array Value) = T.cells.toArray ∧ PIn W W.heap.size T ∧ Can L.cs T ∧ T.pr = ((o, nm), who)) := hid (fun W hW hag => by
      refine HV.out W (by rw [← hsz5]; exact hW) fun b h1 h2 => ?_
      have hb : b ≠ gp + 1 := by have := HG4.out; omega
      rw [hag b (Nat.le_trans hlow h1) (by rw [hsz5]; exact h2)]
      rw [hw9, Below.heap_setCell _ _ _ _ hb, Below.heap_setCell _ _ _ _ hb, Below.heap_setCell _ _ _ _ hb, Below.heap_setCell _ _ _ _ hb, Below.heap_setCell _ _ _ _ hb, Below.heap_setCell _ _ _ _ hb])
    clear hsz5 hlow
    try rw [← hw9]
    clear hbel5
    refine bodyPost_ret (results_cell_tmp (h := Tryd.results9) _ _ (gp + 1) 0 [.string To, .string Tn, .string Tx, .int .i64 Td, .int .i64 Tq, .slice TA Tps.length Tc] _ rfl (range_row HR9.out) Tryd.underlying30 rfl info_proof) rfl ?_
    exact ⟨L.cs, HCO.out, .inr ⟨HRD.out, _, rfl, HFIN.out⟩, HB9.out⟩
theorem cFind_any (A : Option Addr) (all : List Crd) (n c : Nat) (hn : all.length = n) (hc : n ≤ c) (hc2 : c ≤ 9223372036854775807) (hm : n ≤ 50) (who o nm : ByteArray) (hwho : okB who) (ho : okB o) (hnm : okB nm) (w : World) (h : Crs w w.heap.size A all) :
    Calls Tryd.prog 9 #[.slice A n c, .string who, .agg #[.string o, .string nm]] w fun e w' => ∃ cs, CountsOf cs all ∧ ((rd cs ((o, nm), who) = 0 ∧ e = .returned (.tuple #[.agg zeroT.cells.toArray, .int .i64 16])) ∨ (rd cs ((o, nm), who) ≠ 0 ∧ ∃ T : PT, e = .returned (.tuple #[.agg T.cells.toArray, .int .i64 0]) ∧ PIn w' w'.heap.size T ∧ Can cs T ∧ T.pr = ((o, nm), who))) ∧ Below w.heap.size w w' :=
  (cFindW_any A all n c hn hc hc2 hm who o nm hwho ho hnm w h).mono fun e w' ⟨cs, h1, h2, h3⟩ => ⟨cs, h1, by
    rcases h2 with h2 | ⟨h4, V, h5, h6⟩
    · exact .inl h2
    · obtain ⟨T, g1, g2⟩ := h6 w' (Nat.le_refl _) fun b _ _ => rfl
      exact .inr ⟨h4, T, by rw [h5, g1], g2⟩, h3⟩
end Go.Proofs.YtoajckhnneagnaaDoor.Sh
namespace Go.Proofs.YtoajckhnneagnaaDoor.Sh
open Go Go.RowKit

set_option linter.unusedVariables false
set_option linter.unusedSimpArgs false
end Go.Proofs.YtoajckhnneagnaaDoor.Sh
namespace Go.Proofs.YtoajckhnneagnaaDoor.Sh
open Go Go.RowKit
open Go.Maps (Keyed)

set_option linter.unusedVariables false
set_option linter.unusedSimpArgs false
set_option maxHeartbeats 16000000 in
set_option maxRecDepth 100000 in
theorem cRound_any (A : Option Addr) (all : List Crd) (n c : Nat) (hn : all.length = n) (hc : n ≤ c) (hc2 : c ≤ 9223372036854775807) (hm : n ≤ 50) (who o nm : ByteArray) (hwho : okB who) (ho : okB o) (hnm : okB nm) (w : World) (h : Crs w w.heap.size A all) :
    Calls Tryd.prog 12 #[.slice A n c, .string who, .agg #[.string o, .string nm]] w fun e w' => ∃ cs, CountsOf cs all ∧ e = .returned (.int .i64 (rd cs ((o, nm), who) : Int)) ∧ Below w.heap.size w w' := by
  obtain ⟨w1, hw1⟩ : ∃ w1, w1 = w.alloc (.cells #[.string o, .string nm] 24) := ⟨_, rfl⟩
  obtain ⟨gp, hgp⟩ : ∃ g, w.heap.size = g := ⟨_, rfl⟩
  have HQ1 : Hid (Below w.heap.size w w1) := hid (by rw [hw1]; exact (Below.refl _ _).alloc (Nat.le_refl _) _)
  have HRO : Hid (RoleAt w1 gp o nm) := hid (by rw [hw1, ← hgp]; exact RoleAt.new w o nm)
  have HRK := hid (fun W (hW : Below w1.heap.size w1 W) => ranked_any A all n c hn hc hc2 hm who hwho W ((h.below (HQ1.out.trans (hW.mono HQ1.out.size))).more (Nat.le_trans HQ1.out.size hW.size)))
  have HOK : Hid (okP ((o, nm), who)) := hid ⟨⟨ho, hnm⟩, hwho⟩
  have HRC := hid (fun W (hW : Below w1.heap.size w1 W) => (⟨(HRO.out.kept hW).c0, (HRO.out.kept hW).c1⟩ : W.cell? ⟨gp, 0, none⟩ = some (.string o) ∧ W.cell? ⟨gp, 1, none⟩ = some (.string nm)))
  clear h hn hc hc2 hm hwho ho hnm
  go_enter Tryd.func12, Tryd.ntmps12
  go_wp2_with fail
  rw [← hw1]
  clear hw1
  try rw [hgp]
  clear hgp
  have HDR := hid (Below.refl w1.heap.size w1).drew
  obtain ⟨r0, r1⟩ := HRC.out _ HDR.out
  go_region_with (go_at_call 27; (refine (HRK.out _ HDR.out).mono ?_); rintro er w2 ⟨L, vF, col, x, rfl, hco, hLB, hsea, hrk, bb⟩; have HCO := hid hco; have HS2 := hid hsea; have HRX := hid hrk; have BW : Hid (Below w1.heap.size w1 w2) := hid ((Below.refl w1.heap.size w1).drew.trans bb); obtain ⟨b5, hb5⟩ : ∃ b, L.b5 = b := ⟨_, rfl⟩; have c21 : w2.cell? ⟨L.sb, 21, none⟩ = some (.map (some b5)) := (by rw [← hb5]; exact hsea.cell.2.2.2.2.1); have hrl := hsea.rn.look HOK.out; rw [hb5, hrk.rn _ hrk.me] at hrl; unfold pV at hrl; simp only at hrl; clear hco hLB hsea hrk bb hb5 r0 r1; obtain ⟨r0, r1⟩ := HRC.out _ BW.out)
  all_goals
    go_wp2_with fail
    go_ret
    exact ⟨L.cs, HCO.out, rfl, HQ1.out.trans (BW.out.mono HQ1.out.size)⟩
end Go.Proofs.YtoajckhnneagnaaDoor.Sh
namespace Go.Proofs.YtoajckhnneagnaaDoor.Sh
open Go Go.RowKit

set_option linter.unusedSimpArgs false
set_option linter.unusedVariables false
theorem few8C_any (A : Option Addr) (l : List Crd) (n k : Nat) (hn : l.length = n) (hk : n ≤ k) (hk2 : k ≤ 9223372036854775807) (w : World) (h : Crs w w.heap.size A l) :
    Calls Tryd.prog 8 #[.slice A n k] w fun e w' => ∃ m : Nat, e = .returned (.slice A m k) ∧ ∃ l' : List Crd, l'.length = m ∧ m ≤ 9 ∧ m ≤ k ∧ Crs w w.heap.size A l' ∧ w' = w := by
  by_cases h14 : 9 < n
  · have hN : (l.take 9).length = 9 := by rw [List.length_take]; omega
    have HY := hid (h.head (hi := 9))
    have h14' : (9 : Int) < (n : Int) := by omega
    have h14k : 9 ≤ k := by omega
    have HN := hid hN
    clear h hn hN
    go_enter Tryd.func8, Tryd.ntmps8
    go_wp2_with fail
    go_ret
    exact ⟨9, rfl, l.take 9, HN.out, Nat.le_refl _, h14k, HY.out, rfl⟩
  · have h14' : ¬ (9 : Int) < (n : Int) := by omega
    have HN := hid hn
    have HY := hid h
    clear h hn
    go_enter Tryd.func8, Tryd.ntmps8
    go_wp2_with fail
    go_ret
    exact ⟨n, rfl, l, HN.out, by omega, hk, HY.out, rfl⟩
noncomputable def cnt8 (l : List Crd) : List Crd := Classical.epsilon fun o => CountsOf o l
theorem cnt8_of {out l : List Crd} (h : CountsOf out l) : cnt8 l = out := counts_uniq (Classical.epsilon_spec (p := fun o => CountsOf o l) ⟨out, h⟩) h
def Out (l : List Crd) (p : Pr) (T : PT) (E : Int) : Prop := (rd (cnt8 l) p = 0 ∧ T = zeroT ∧ E = 16) ∨ (rd (cnt8 l) p ≠ 0 ∧ Can (cnt8 l) T ∧ T.pr = p ∧ E = 0)
theorem pin_zero (w : World) : PIn w w.heap.size zeroT := .mk ⟨⟨by decide, by decide⟩, ⟨by decide, by decide⟩⟩ (Nat.le_refl _) (by decide) Els.nil (by simp)
theorem cFindU (A : Option Addr) (all : List Crd) (n c : Nat) (hn : all.length = n) (hc : n ≤ c) (hc2 : c ≤ 9223372036854775807) (hm : n ≤ 30) (who o nm : ByteArray) (hwho : okB who) (ho : okB o) (hnm : okB nm) (w : World) (h : Crs w w.heap.size A all) :
    Calls Tryd.prog 9 #[.slice A n c, .string who, .agg #[.string o, .string nm]] w fun e w' => ∃ (T : PT) (E : Int), e = .returned (.tuple #[.agg T.cells.toArray, .int .i64 E]) ∧ PIn w' w'.heap.size T ∧ Out all ((o, nm), who) T E ∧ Below w.heap.size w w' :=
  (cFind_any A all n c hn hc hc2 (by omega) who o nm hwho ho hnm w h).mono fun e w' ⟨cs, h1, h2, h3⟩ => by
    have h4 := cnt8_of h1
    rcases h2 with ⟨h5, h6⟩ | ⟨h5, T, h6, h7, h8, h9⟩
    · exact ⟨zeroT, 16, h6, pin_zero w', .inl ⟨by rw [h4]; exact h5, rfl, rfl⟩, h3⟩
    · exact ⟨T, 0, h6, h7, .inr ⟨by rw [h4]; exact h5, by rw [h4]; exact h8, h9, rfl⟩, h3⟩
end Go.Proofs.YtoajckhnneagnaaDoor.Sh
namespace Go.Proofs.YtoajckhnneagnaaDoor.Sh
open Go Go.RowKit

set_option linter.unusedVariables false
set_option linter.unusedSimpArgs false

def OfP (cs : List Crd) (p : PT) (r : Pr) : Prop := p.pr = r ∧ Cor cs p
theorem of_no {cs : List Crd} {p : PT} {r : Pr} (h : look cs (p.d, p.q) = none) : ¬ OfP cs p r := fun e => fol_none h e.2.fol
theorem of_role {cs : List Crd} (ho : OnceI cs) {p : PT} {r : Pr} {c : Crd} (h : look cs (p.d, p.q) = some c) (hr : roleOf c ≠ (p.o, p.n)) : ¬ OfP cs p r := fun e => hr ((fol_iff ho h).1 e.2.fol).1
section
variable {cs : List Crd} {o n x : ByteArray} {d q : Int} {A : Option Addr} {cp : Nat} {ps : List PT} {c : Crd}
theorem of_kind (ho : OnceI cs) (h : look cs (d, q) = some c) (hr : roleOf c = (o, n)) : OfP cs (.mk o n x d q A cp ps) ((o, n), x) ↔ KindP c (.mk o n x d q A cp ps) ∧ ∀ a ∈ ps, Cor cs a := by
  unfold OfP
  rw [cor_iff, fol_iff ho (p := .mk o n x d q A cp ps) h]
  constructor
  · rintro ⟨_, ⟨_, h1⟩, h2⟩; exact ⟨h1, h2⟩
  · rintro ⟨h1, h2⟩; exact ⟨rfl, ⟨hr, h1⟩, h2⟩
theorem of_1 (ho : OnceI cs) (h : look cs (d, q) = some c) (hr : roleOf c = (o, n)) (hk : c.kd = 1) : OfP cs (.mk o n x d q A cp ps) ((o, n), x) ↔ c.wh = x ∧ ps = [] := by
  rw [of_kind ho h hr]
  unfold KindP PT.x PT.ps
  rw [hk]
  simp
  constructor
  · rintro ⟨⟨h1, h2⟩, _⟩; exact ⟨h1.symm, h2⟩
  · rintro ⟨h1, h2⟩; subst h2; exact ⟨⟨h1.symm, rfl⟩, by simp⟩
theorem of_2 (ho : OnceI cs) (h : look cs (d, q) = some c) (hr : roleOf c = (o, n)) (hk : c.kd = 2) : OfP cs (.mk o n x d q A cp ps) ((o, n), x) ↔ ∃ a, ps = [a] ∧ OfP cs a ((c.ao, c.an), x) := by
  rw [of_kind ho h hr]
  unfold KindP PT.x PT.ps OfP
  rw [hk]
  simp
  constructor
  · rintro ⟨⟨a, h1, h2⟩, h3⟩; subst h1; exact ⟨a, rfl, h2, h3 a (by simp)⟩
  · rintro ⟨a, h1, h2, h3⟩; subst h1; exact ⟨⟨a, rfl, h2⟩, fun b hb => by rw [List.mem_singleton] at hb; rw [hb]; exact h3⟩
theorem of_4 (ho : OnceI cs) (h : look cs (d, q) = some c) (hr : roleOf c = (o, n)) (hk : c.kd = 4) : OfP cs (.mk o n x d q A cp ps) ((o, n), x) ↔ ∃ a b, ps = [a, b] ∧ OfP cs a ((c.ao, c.an), x) ∧ OfP cs b ((c.bo, c.bn), x) := by
  rw [of_kind ho h hr]
  unfold KindP PT.x PT.ps OfP
  rw [hk]
  simp
  constructor
  · rintro ⟨⟨a, b, h1, h2, h3⟩, h4⟩; subst h1; exact ⟨a, b, rfl, ⟨h2, h4 a (by simp)⟩, h3, h4 b (by simp)⟩
  · rintro ⟨a, b, h1, ⟨h2, h4⟩, h3, h5⟩
    subst h1
    refine ⟨⟨a, b, rfl, h2, h3⟩, fun y hy => ?_⟩
    rcases List.mem_cons.1 hy with e | e
    · rw [e]; exact h4
    · rw [List.mem_singleton] at e; rw [e]; exact h5
theorem of_3 (ho : OnceI cs) (h : look cs (d, q) = some c) (hr : roleOf c = (o, n)) (hk : c.kd = 3) : OfP cs (.mk o n x d q A cp ps) ((o, n), x) ↔ ∃ a b, ps = [a, b] ∧ isD a.x ∧ OfP cs a (firstOf c, a.x) ∧ OfP cs b ((a.x, c.bn), x) := by
  rw [of_kind ho h hr]
  unfold KindP LinkP PT.x PT.ps OfP
  rw [hk]
  simp
  constructor
  · rintro ⟨⟨a, b, h1, h2, h6, h3⟩, h4⟩; subst h1; exact ⟨a, b, rfl, h6, ⟨h2, h4 a (by simp)⟩, h3, h4 b (by simp)⟩
  · rintro ⟨a, b, h1, h6, ⟨h2, h4⟩, h3, h5⟩
    subst h1
    refine ⟨⟨a, b, rfl, h2, h6, h3⟩, fun y hy => ?_⟩
    rcases List.mem_cons.1 hy with e | e
    · rw [e]; exact h4
    · rw [List.mem_singleton] at e; rw [e]; exact h5
end
end Go.Proofs.YtoajckhnneagnaaDoor.Sh
