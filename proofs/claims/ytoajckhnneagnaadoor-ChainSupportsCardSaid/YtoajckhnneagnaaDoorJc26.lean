/-
  The document's own first, by contract.
-/
import Derived.Test.YtoajckhnneagnaaDoorJc25
import Derived.Test.YtoajckhnneagnaaDoorJc17
import Derived.Test.YtoajckhnneagnaaDoorJc6
set_option linter.unusedVariables false
set_option linter.unusedSimpArgs false
namespace Go.Proofs.YtoajckhnneagnaaDoor.Sh
open Go Go.RowKit

set_option linter.unusedVariables false
set_option linter.unusedSimpArgs false
theorem fst1_at8 {cs : List Crd} {L : Pr → Prop} {p : Pr} : ∀ {j : Nat} {c : Crd} {ps : List Pr}, cs[j]? = some c → (∀ i d, i < j → cs[i]? = some d → why d L p = none) → why c L p = some ps → fst1 cs L p = some (c, ps) := by
  induction cs with
  | nil => intro j c ps h; simp at h
  | cons x cs ih =>
    intro j c ps h h0 h1
    unfold fst1
    rw [List.findSome?_cons]
    cases j with
    | zero =>
      simp only [List.getElem?_cons_zero, Option.some.injEq] at h
      subst h
      rw [h1]; rfl
    | succ j =>
      rw [h0 0 x (Nat.succ_pos j) rfl]
      exact ih (j := j) (by simpa using h) (fun i d hi hd => h0 (i + 1) d (by omega) (by simpa using hd)) h1
theorem lv_clos {cs : List Crd} {l : List Pr} (h : Clos cs l) : ∀ m q, Lv cs m q → q ∈ l := by
  intro m
  induction m with
  | zero => intro q hq; exact absurd hq (by simp [Lv])
  | succ m ih =>
    intro q hq
    rcases lv_succ.1 hq with h1 | ⟨c, hc, h1⟩
    · exact ih q h1
    · exact h q ⟨c, hc, brg_der.2 (h1.mono fun r hr => ih r hr)⟩
theorem info_id8 : (Tryd.prog.info? 27).map (·.size) = some 2 := by kernel_rfl
set_option maxHeartbeats 16000000 in
set_option maxRecDepth 100000 in
theorem refFirst8W_any (C : Option Addr) (cs : List Crd) (nc cc : Nat) (hnc : cs.length = nc) (hm : nc ≤ 30) (hmay : ∀ c ∈ cs, mayC c = true) (who o nm : ByteArray) (hp : rd cs ((o, nm), who) ≠ 0) (w : World) (h : Crs w w.heap.size C cs) :
    Calls Tryd.prog 33 #[.slice C nc cc, .agg #[.string o, .string nm, .string who]] w fun e w' => ∃ (c : Crd) (ps : List Pr) (A : Option Addr) (n cap : Nat), fs cs ((o, nm), who) = some (c, ps) ∧ ps.length = n ∧ e = .returned (.tuple #[.agg #[.int .i64 c.d, .int .i64 c.q], .slice A n cap]) ∧ Els encP w' w'.heap.size A ps ∧ (∀ ad, A = some ad → w.heap.size ≤ ad.block) ∧ Below w.heap.size w w' := by
  obtain ⟨w1, hw1⟩ : ∃ w1, w1 = w.alloc (.cells #[.string o, .string nm, .string who] 47) := ⟨_, rfl⟩
  obtain ⟨w2, hw2⟩ : ∃ x, x = w1.alloc (.cells #[.int .i64 0, .int .i64 0] 27) := ⟨_, rfl⟩
  obtain ⟨gp, hgp⟩ : ∃ g, w.heap.size = g := ⟨_, rfl⟩
  obtain ⟨gi, hgi⟩ : ∃ g, gp + 1 = g := ⟨_, rfl⟩
  have HGW : Hid (w.heap.size ≤ gi) := hid (by omega)
  have hz1 : w1.heap.size = gi := by rw [hw1, World.size_alloc, hgp, hgi]
  have HZ2 : Hid (w2.heap.size = gi + 1) := hid (by rw [hw2, World.size_alloc, hz1])
  have HQ1 : Hid (Below w.heap.size w w1) := hid (by rw [hw1]; exact (Below.refl _ _).alloc (Nat.le_refl _) _)
  have HQ2 : Hid (Below w.heap.size w w2) := hid (by rw [hw2]; exact HQ1.out.alloc HQ1.out.size _)
  have HP2 : Hid (PrB w2 gp o nm who) := hid (by rw [hw2, ← hgp]; exact keep_alloc8 (by rw [hw1]; exact PrB.new w _ _ _))
  have HI2 : Hid (w2.heap[gi]? = some (.cells #[.int .i64 0, .int .i64 0] 27 (0, 0))) := hid (by rw [hw2, ← hz1]; exact heap_alloc_new w1 _)
  have HPC := hid (fun W (hW : Below w2.heap.size w2 W) => (HP2.out.kept hW).all)
  have HIC := hid (fun W (hW : Below w2.heap.size w2 W) => (hW.block gi (Array.getElem?_eq_some_iff.1 HI2.out).1).trans HI2.out)
  have HCR := hid (fun W (hW : Below w2.heap.size w2 W) => (h.below (HQ2.out.trans (hW.mono HQ2.out.size))).more (Nat.le_trans HQ2.out.size hW.size))
  have HMY := hid hmay
  have HLC : Hid (cs.length ≤ 30 ∧ cs.length = nc) := hid ⟨by omega, hnc⟩
  obtain ⟨ws, hws⟩ : ∃ ws, whos cs [] = ws := ⟨_, rfl⟩
  have HWS : Hid (∀ c ∈ cs, c.wh ∈ ws) := hid (fun c hc => by rw [← hws]; exact List.mem_append_left _ (List.mem_map.2 ⟨c, hc, rfl⟩))
  have HWL : Hid (cs.length * ws.length ≤ 900) := hid (by
    rw [← hws]; unfold whos
    rw [List.length_append, List.length_map, List.map_nil, List.length_nil]
    exact Nat.mul_le_mul HLC.out.1 (by have := HLC.out.1; omega : cs.length + 0 ≤ 30))
  obtain ⟨R, hR⟩ : ∃ R, rd cs ((o, nm), who) = R := ⟨_, rfl⟩
  have HR := hid hR
  have HRD : Hid (R ≠ 0) := hid (by rw [← hR]; exact hp)
  have HNC := hid hnc
  have hnc30 := hm
  clear h hnc hm hmay hws hR hp hz1
  go_enter Tryd.func33, Tryd.ntmps33
  go_upto_region 2 with fail
  rw [← hw1]
  rw [← hw2]
  try rw [hgp]
  try rw [hgi]
  clear hw1 hw2 hgp hgi
  go_loopg [6] R (fun gk v6 wr => ∃ (k : Nat) (A1 : Option Addr) (n1 c1 : Nat) (now : List Pr), v6 = .slice A1 n1 c1 ∧ k + gk = R ∧ k < R ∧ n1 ≤ 900 ∧ Hid (now.length = n1) ∧ Hid (Els encP wr wr.heap.size A1 now) ∧ Hid (Within cs ws [] now) ∧ Hid (∀ p, p ∈ now ↔ Lv cs k p) ∧ Hid (Below w2.heap.size w2 wr))
  case atStart => exact ⟨0, none, 0, 0, [], rfl, by omega, by have := HRD.out; omega, Nat.zero_le _, hid rfl, hid Els.nil, hid (Within.start cs (by simp)), hid (fun p => by simp [Lv]), hid (Below.refl _ _)⟩
  case round =>
    obtain ⟨k, A1, n1, c1, now, rfl, hkg, hkR, hn1, HN1, HE1, HWI, HLV, HB1⟩ := hrel
    have HRO8 := hid (round_any C cs nc cc HNC.out (by have := HLC.out; omega) HMY.out A1 now n1 c1 HN1.out (by omega) wr (HCR.out wr HB1.out) HE1.out)
    go_upto_region 3 with (go_at_call 31; (refine HRO8.out.mono ?_); rintro er w5 ⟨A3, c3, nxt, rfl, ho3, hb3, hr3⟩; have HO3 := hid ho3; have HB5 := hid hb3; have HR3 := hid hr3; clear ho3 hb3 hr3)
    obtain ⟨n3, hn3⟩ : ∃ k, nxt.length = k := ⟨_, rfl⟩
    have HN3 := hid hn3
    have HW3 := hid (HWI.out.next HWS.out HR3.out)
    have HLV3 : Hid (∀ p, p ∈ nxt ↔ Lv cs (k + 1) p) := hid (lv_round HLV.out HR3.out)
    have hn3b : n3 ≤ 900 := by have := HW3.out.len.2; have := HWL.out; rw [hn3] at *; simp at *; omega
    have HE3 := hid (own_els HO3.out)
    rw [hn3]
    have HBW5 : Hid (Below w2.heap.size w2 w5) := hid (HB1.out.trans (HB5.out.mono HB1.out.size))
    obtain ⟨p0, p1, p2⟩ := HPC.out _ HBW5.out
    have HIN := hid (fun hh => in_any A3 nxt n3 c3 HN3.out hh o nm who w5 HE3.out)
    by_cases hin : ((o, nm), who) ∈ nxt
    · have hd : decide (((o, nm), who) ∈ nxt) = true := decide_eq_true hin
      have HIN2 := hid (HIN.out (by omega))
      rw [hd] at HIN2
      have HEQ : Hid (R = k + 1) := hid (by
        have h1 := rd_lv.1 ((HLV3.out _).1 hin)
        have := HR.out
        omega)
      clear hd hin hn3 HIN
      go_upto_region 4 with (go_at_call 21; (refine HIN2.out.mono ?_); rintro er w6 ⟨rfl, b6⟩; have HB6 := hid (HBW5.out.trans (b6.mono HBW5.out.size)); have HE6 := hid ((HE1.out.below ((HB5.out.trans (b6.mono HB5.out.size)))).more (Nat.le_trans HB5.out.size b6.size)); clear b6)
      clear p0 p1 p2
      have HFW : Hid (∀ c, why c (· ∈ now) ((o, nm), who) = why c (Lv cs (rd cs ((o, nm), who) - 1)) ((o, nm), who)) := hid (fun c => why_congr fun q _ => by rw [HLV.out q, HR.out, HEQ.out]; rfl)
      go_upto_region 7 with fail
      go_loopw [9] (fun v9 wr => ∃ j : Nat, v9 = .int .i64 (j : Int) ∧ j ≤ nc ∧ Hid (∀ i d, i < j → cs[i]? = some d → why d (· ∈ now) ((o, nm), who) = none) ∧ Hid (Below w6.heap.size w6 wr)) (fun v9 _ => nc - (intOf v9).toNat)
      case atStart => exact ⟨0, rfl, Nat.zero_le _, hid (fun i d hi => absurd hi (Nat.not_lt_zero i)), hid (Below.refl _ _)⟩
      case round =>
        obtain ⟨j, rfl, hj, HNX, HB7⟩ := hrel
        obtain ⟨wo, hwo⟩ : ∃ x, x = wr := ⟨_, rfl⟩
        subst hwo
        by_cases hlt : j < nc
        · obtain ⟨⟨d, q, nn, kd, wh, ao, an, bo, bn⟩, hx⟩ : ∃ x, cs[j]? = some x := ⟨_, List.getElem?_eq_getElem (by rw [HNC.out]; exact hlt)⟩
          have HX := hid hx
          have HBO := hid (HB6.out.trans (HB7.out.mono HB6.out.size))
          obtain ⟨ad, aj, rfl, hab, ea, hbj, a0, a1, a2, a3, a4, a5, a6, a7, a8⟩ := (HCR.out _ HBO.out).get hx
          simp only at a0 a1 a2 a3 a4 a5 a6 a7 a8
          have hj0 : (0 : Int) ≤ (j : Int) := Int.natCast_nonneg _
          have hj1 : (j : Int) < (nc : Int) := by omega
          obtain ⟨p0, p1, p2⟩ := HPC.out _ HBO.out
          have HWY := hid (fun W (hW : Below wo.heap.size wo W) => refWhy_any ⟨d, q, nn, kd, wh, ao, an, bo, bn⟩ ((o, nm), who) (HMY.out _ (List.mem_of_getElem? hx)) A1 now n1 c1 HN1.out (by omega) W ((HE6.out.below (HB7.out.trans (hW.mono HB7.out.size))).more (Nat.le_trans HB7.out.size hW.size)))
          unfold Crd.cells at HWY
          simp only at HWY
          have HAB : Hid (aj.block < wo.heap.size) := hid (by rw [hbj]; exact hab)
          have HA0 := hid (fun W (hW : Below wo.heap.size wo W) => (⟨(hW.cell (p := aj) HAB.out).trans a0, (hW.cell (p := ⟨aj.block, aj.off + 1, none⟩) HAB.out).trans a1⟩ : W.cell? aj = some (.int .i64 d) ∧ W.cell? ⟨aj.block, aj.off + 1, none⟩ = some (.int .i64 q)))
          have HCA := hid (fun W (hW : Below wo.heap.size wo W) => (⟨(hW.cell (p := aj) HAB.out).trans a0, (hW.cell (p := ⟨aj.block, aj.off + 1, none⟩) HAB.out).trans a1, (hW.cell (p := ⟨aj.block, aj.off + 2, none⟩) HAB.out).trans a2, (hW.cell (p := ⟨aj.block, aj.off + 3, none⟩) HAB.out).trans a3, (hW.cell (p := ⟨aj.block, aj.off + 4, none⟩) HAB.out).trans a4, (hW.cell (p := ⟨aj.block, aj.off + 5, none⟩) HAB.out).trans a5, (hW.cell (p := ⟨aj.block, aj.off + 6, none⟩) HAB.out).trans a6, (hW.cell (p := ⟨aj.block, aj.off + 7, none⟩) HAB.out).trans a7, (hW.cell (p := ⟨aj.block, aj.off + 8, none⟩) HAB.out).trans a8, (HPC.out W (HBO.out.trans (hW.mono HBO.out.size)))⟩ :
            W.cell? aj = some (.int .i64 d) ∧ W.cell? ⟨aj.block, aj.off + 1, none⟩ = some (.int .i64 q) ∧ W.cell? ⟨aj.block, aj.off + 2, none⟩ = some (.string nn) ∧ W.cell? ⟨aj.block, aj.off + 3, none⟩ = some (.int .i64 kd) ∧ W.cell? ⟨aj.block, aj.off + 4, none⟩ = some (.string wh) ∧ W.cell? ⟨aj.block, aj.off + 5, none⟩ = some (.string ao) ∧ W.cell? ⟨aj.block, aj.off + 6, none⟩ = some (.string an) ∧ W.cell? ⟨aj.block, aj.off + 7, none⟩ = some (.string bo) ∧ W.cell? ⟨aj.block, aj.off + 8, none⟩ = some (.string bn) ∧ W.cell? ⟨gp, 0, none⟩ = some (.string o) ∧ W.cell? ⟨gp, 1, none⟩ = some (.string nm) ∧ W.cell? ⟨gp, 2, none⟩ = some (.string who)))
          clear hx hab hbj a0 a1 a2 a3 a4 a5 a6 a7 a8 p0 p1 p2
          obtain ⟨ow, how⟩ : ∃ ow, why ⟨d, q, nn, kd, wh, ao, an, bo, bn⟩ (· ∈ now) ((o, nm), who) = ow := ⟨_, rfl⟩
          have HOW := hid how
          rw [how] at HWY
          clear how
          have HDD : Hid (Below wo.heap.size wo wo.drew) := hid (Below.refl wo.heap.size wo).drew
          cases ow with
          | none =>
            go_upto_region 9 with fail
            go_region_held3 (fun W => W.cell? aj = some (.int .i64 d) ∧ W.cell? ⟨aj.block, aj.off + 1, none⟩ = some (.int .i64 q) ∧ W.cell? ⟨aj.block, aj.off + 2, none⟩ = some (.string nn) ∧ W.cell? ⟨aj.block, aj.off + 3, none⟩ = some (.int .i64 kd) ∧ W.cell? ⟨aj.block, aj.off + 4, none⟩ = some (.string wh) ∧ W.cell? ⟨aj.block, aj.off + 5, none⟩ = some (.string ao) ∧ W.cell? ⟨aj.block, aj.off + 6, none⟩ = some (.string an) ∧ W.cell? ⟨aj.block, aj.off + 7, none⟩ = some (.string bo) ∧ W.cell? ⟨aj.block, aj.off + 8, none⟩ = some (.string bn) ∧ W.cell? ⟨gp, 0, none⟩ = some (.string o) ∧ W.cell? ⟨gp, 1, none⟩ = some (.string nm) ∧ W.cell? ⟨gp, 2, none⟩ = some (.string who))
              (first | exact HCA.out _ HDD.out | exact HCA.out _ BC.out)
              ((first | (go_at_call 48; (refine (HWY.out _ HDD.out).mono ?_); rintro er w8 ⟨hw, b8⟩; rcases hw with ⟨-, v8, rfl⟩ | ⟨ps, n8, A8, c8, h8, -⟩; (case inr => exact absurd h8 (by simp)); have BC : Hid (Below wo.heap.size wo w8) := hid (HDD.out.trans (b8.mono HDD.out.size)); clear b8)))
            all_goals
              go_wp2_with fail
              go_roundw
              case rel => exact ⟨j + 1, by go_num, by omega, hid (fun i d hi hd => by
                rcases Nat.lt_or_ge i j with h2 | h2
                · exact HNX.out i d h2 hd
                · have h3 : i = j := by omega
                  rw [h3, HX.out] at hd
                  injection hd with hd
                  subst hd
                  exact HOW.out), hid (HB7.out.trans (BC.out.mono HB7.out.size))⟩
              case measure => simp [intOf]; omega
          | some ps =>
            go_upto_region 9 with fail
            go_region_held3 (fun W => W.cell? aj = some (.int .i64 d) ∧ W.cell? ⟨aj.block, aj.off + 1, none⟩ = some (.int .i64 q) ∧ W.cell? ⟨aj.block, aj.off + 2, none⟩ = some (.string nn) ∧ W.cell? ⟨aj.block, aj.off + 3, none⟩ = some (.int .i64 kd) ∧ W.cell? ⟨aj.block, aj.off + 4, none⟩ = some (.string wh) ∧ W.cell? ⟨aj.block, aj.off + 5, none⟩ = some (.string ao) ∧ W.cell? ⟨aj.block, aj.off + 6, none⟩ = some (.string an) ∧ W.cell? ⟨aj.block, aj.off + 7, none⟩ = some (.string bo) ∧ W.cell? ⟨aj.block, aj.off + 8, none⟩ = some (.string bn) ∧ W.cell? ⟨gp, 0, none⟩ = some (.string o) ∧ W.cell? ⟨gp, 1, none⟩ = some (.string nm) ∧ W.cell? ⟨gp, 2, none⟩ = some (.string who))
              (first | exact HCA.out _ HDD.out | exact HCA.out _ BC.out)
              ((first | (go_at_call 48; (refine (HWY.out _ HDD.out).mono ?_); rintro er w8 ⟨hw, b8⟩; rcases hw with ⟨h8, -⟩ | ⟨ps, n8, A8, c8, h8, hn8, rfl, he8, hf8⟩; (case inl => exact absurd h8 (by simp)); injection h8 with h8; subst h8; have BC : Hid (Below wo.heap.size wo w8) := hid (HDD.out.trans (b8.mono HDD.out.size)); have HN8 := hid hn8; have HE8 := hid he8; have HF8 := hid hf8; clear b8 hn8 he8 hf8)))
            all_goals
              obtain ⟨a0, a1, -⟩ := HCA.out _ BC.out
              have HB8 : Hid (Below w2.heap.size w2 w8) := hid (HBO.out.trans (BC.out.mono HBO.out.size))
              have hi8 := HIC.out w8 HB8.out
              have z0 : w8.cell? ⟨gi, 0, none⟩ = some (.int .i64 0) := by rw [cell_of_row w8 gi 0 _ _ (0, 0) hi8]; rfl
              have z1 : w8.cell? ⟨gi, 1, none⟩ = some (.int .i64 0) := by rw [cell_of_row w8 gi 1 _ _ (0, 0) hi8]; rfl
              have y0 := frozen_of_row w8 gi 0 _ _ hi8
              have y1 := frozen_of_row w8 gi 1 _ _ hi8
              obtain ⟨w9, hw9⟩ : ∃ x, x = (w8.setCell ⟨gi, 0, none⟩ (.int .i64 d)).setCell ⟨gi, 1, none⟩ (.int .i64 q) := ⟨_, rfl⟩
              have HR9 : Hid (w9.heap[gi]? = some (.cells #[.int .i64 d, .int .i64 q] 27 (0, 0))) := hid (by rw [hw9]; exact pair_set hi8)
              have HB9 : Hid (Below w.heap.size w w9) := hid (by rw [hw9]; exact ((HQ2.out.trans (HB8.out.mono HQ2.out.size)).setCell (p := ⟨gi, 0, none⟩) HGW.out _).setCell (p := ⟨gi, 1, none⟩) HGW.out _)
              have HE9 : Hid (Els encP w9 w9.heap.size A8 ps) := hid (by
                have h1 := HE8.out.keep (w' := w9) fun ad e hb => by
                  have h2 : wo.heap.size ≤ ad.block := HF8.out ad e
                  have h3 : ad.block ≠ gi := by have := HBO.out.size; have := HZ2.out; omega
                  rw [hw9, Below.heap_setCell _ _ _ _ h3, Below.heap_setCell _ _ _ _ h3]
                exact h1.more (by rw [hw9]; simp))
              have HFS : Hid (fs cs ((o, nm), who) = some (⟨d, q, nn, kd, wh, ao, an, bo, bn⟩, ps)) := hid (by
                unfold fs
                exact fst1_at8 HX.out (fun i d hi hd => by rw [← HFW.out]; exact HNX.out i d hi hd) (by rw [← HFW.out]; exact HOW.out))
              go_wp2_with fail
              rw [← hw9]
              refine bodyPost_ret (results_cell_tmp (h := Tryd.results33) _ _ gi 0 [.int .i64 d, .int .i64 q] _ rfl (range_row HR9.out) Tryd.underlying27 rfl info_id8) rfl ?_
              exact ⟨_, _, _, _, _, HFS.out, HN8.out, rfl, HE9.out, fun ad e => Nat.le_trans (Nat.le_trans HQ2.out.size HBO.out.size) (HF8.out ad e), HB9.out⟩
        · obtain rfl : j = nc := by omega
          exfalso
          obtain ⟨c, hc, hd⟩ := rd_der (cs := cs) (p := ((o, nm), who)) (n := k) (by rw [HR.out]; exact HEQ.out)
          obtain ⟨i, hi, e⟩ := List.getElem_of_mem hc
          have h1 := HNX.out i c (by rw [← HNC.out]; exact hi) (by rw [← e]; exact List.getElem?_eq_getElem hi)
          rw [HFW.out] at h1
          rw [HR.out, HEQ.out] at h1
          exact why_none.1 h1 hd
    · have hd : decide (((o, nm), who) ∈ nxt) = false := decide_eq_false hin
      have HIN2 := hid (HIN.out (by omega))
      rw [hd] at HIN2
      have hKR : k + 1 < R := by
        rcases Nat.lt_or_ge (k + 1) R with h1 | h1
        · exact h1
        · exact absurd ((HLV3.out _).2 (rd_lv.2 ⟨by rw [HR.out]; exact HRD.out, by rw [HR.out]; exact h1⟩)) hin
      have hne : ¬ n3 = n1 := fun e => by
        have h1 := HR3.out.same (by rw [hn3, HN1.out]; exact e)
        have h2 := lv_clos h1.2 R ((o, nm), who) (rd_lv.2 ⟨by rw [HR.out]; exact HRD.out, by rw [HR.out]; exact Nat.le_refl _⟩)
        have h3 := rd_lv.1 ((HLV.out _).1 h2)
        rw [HR.out] at h3
        omega
      have hne2 : ¬ (n3 : Int) = (n1 : Int) := by omega
      clear hd hin hn3 HIN
      go_wp2_with (go_at_call 21; (refine HIN2.out.mono ?_); rintro er w6 ⟨rfl, b6⟩; have HB6 := hid (HBW5.out.trans (b6.mono HBW5.out.size)); have HE6 := hid ((HE3.out.below b6).more b6.size); clear b6)
      go_roundg (gk - 1)
      case rel => exact ⟨k + 1, A3, n3, c3, nxt, rfl, by omega, hKR, hn3b, HN3, HE6, HW3, HLV3, HB6⟩
      case measure => omega
theorem refFirst8_any (C : Option Addr) (cs : List Crd) (nc cc : Nat) (hnc : cs.length = nc) (hm : nc ≤ 30) (hmay : ∀ c ∈ cs, mayC c = true) (who o nm : ByteArray) (hp : rd cs ((o, nm), who) ≠ 0) (w : World) (h : Crs w w.heap.size C cs) :
    Calls Tryd.prog 33 #[.slice C nc cc, .agg #[.string o, .string nm, .string who]] w fun e w' => ∃ (c : Crd) (ps : List Pr) (A : Option Addr) (n cap : Nat), fs cs ((o, nm), who) = some (c, ps) ∧ ps.length = n ∧ e = .returned (.tuple #[.agg #[.int .i64 c.d, .int .i64 c.q], .slice A n cap]) ∧ Els encP w' w'.heap.size A ps ∧ Below w.heap.size w w' :=
  (refFirst8W_any C cs nc cc hnc hm hmay who o nm hp w h).mono fun e w' ⟨c, ps, A, n, cap, h1, h2, h3, h4, _, h5⟩ => ⟨c, ps, A, n, cap, h1, h2, h3, h4, h5⟩
end Go.Proofs.YtoajckhnneagnaaDoor.Sh
namespace Go.Proofs.YtoajckhnneagnaaDoor.Sh
open Go Go.RowKit
open Go.Maps (Keyed)

set_option linter.unusedVariables false
set_option linter.unusedSimpArgs false
def encC : Enc Crd := ⟨9, Crd.cells, by omega, fun _ => rfl, fun c u hu => by
  simp only [Crd.cells, List.mem_cons, List.not_mem_nil, or_false] at hu
  rcases hu with rfl | rfl | rfl | rfl | rfl | rfl | rfl | rfl | rfl <;> rfl⟩
theorem ch_z22 (w : World) : (zeroValue 22).run Tryd.prog w = .ok (.slice none 0 0) w := by kernel_rfl
theorem ch_z3 (w : World) : (zeroValue 3).run Tryd.prog w = .ok (.int .i64 0) w := by kernel_rfl
set_option maxRecDepth 100000 in
theorem ch_zR (w : World) : (zeroValue 90).run Tryd.prog w = .ok (.agg #[.int .i64 0, .int .i64 0, .slice none 0 0]) w := by kernel_rfl
def rowS (P : Nat → ByteArray) (vC : Value) (b2 b3 b4 b5 : Nat) (vF : Value) (b7 : Nat) (vL : Value) : Array Value :=
  #[.string (P 0), .string (P 1), .string (P 2), .string (P 3), .string (P 4), .string (P 5), .string (P 6), .string (P 7), .string (P 8), .string (P 9), .string (P 10), .string (P 11), .string (P 12), .string (P 13), .string (P 14), .string (P 15), .string (P 16),
    vC, .map (some b2), .map (some b3), .map (some b4), .map (some b5), vF, .map (some b7), vL]
structure Ly where
  B : Nat
  sb : Nat
  P : Nat → ByteArray
  A : Option Addr
  nc : Nat
  cc : Nat
  cs : List Crd
  b2 : Nat
  b3 : Nat
  b4 : Nat
  b5 : Nat
  b7 : Nat
def Ly.pe (L : Ly) : List ByteArray := (List.range 17).map L.P
abbrev Why := Pr → Option ((Int × Int) × List Pr)
structure Sx where
  s : Se
  re : Why
  nr : Nat
  la : List Pr
def Rnm (w : World) (b : Nat) (col : Col) (n : Nat) (rn : Pr → Nat) : Prop :=
  ∃ D : DataW Value, w.ownsMap Tryd.prog 58 tokR b n D ∧ col b = some (5, .nil) ∧ ∀ q, okP q → mget D (kp q) = if rn q = 0 then none else some (.int .i64 (rn q : Int))
def ReaAt (w : World) (col : Col) (o : Option Value) (r : Option ((Int × Int) × List Pr)) : Prop :=
  (o = none ∧ r = none) ∨ ∃ (i : Int × Int) (ps : List Pr) (A : Option Addr) (c : Nat), r = some (i, ps) ∧ o = some (.agg #[.int .i64 i.1, .int .i64 i.2, .slice A ps.length c]) ∧ Els encP w w.heap.size A ps ∧ (∀ ad, A = some ad → 0 < ps.length → col ad.block = none) ∧ ps.length ≤ c ∧ c ≤ 9223372036854775807
def Rea (w : World) (b : Nat) (col : Col) (re : Why) (n : Nat) : Prop :=
  ∃ D : DataW Value, w.ownsMap Tryd.prog 58 tokR b n D ∧ col b = some (7, .nil) ∧ (∀ z, Maps.has D z = true → ∃ q, okP q ∧ z = kp q) ∧ ∀ q, okP q → ReaAt w col (mget D (kp q)) (re q)
structure SzC (s : Se) : Prop where
  giv : ∀ r c, c ∈ s.giv r → mayC c = true
  ask : ∀ r c, c ∈ s.ask r → mayC c = true
  lnk : ∀ r g, g ∈ s.lnk r → okR g
  kn : ∀ q, s.rn q ≠ 0 → okP q
  fr : ∀ q ∈ s.fr, okP q
structure Sea (L : Ly) (w : World) (vF vL : Value) (col : Col) (x : Sx) : Prop where
  row : w.heap[L.sb]? = some (.cells (rowS L.P (.slice L.A L.nc L.cc) L.b2 L.b3 L.b4 L.b5 vF L.b7 vL) 69 (0, 0))
  csb : col L.sb = some (0, .nil)
  cr : L.cs.length = L.nc ∧ L.nc ≤ L.cc ∧ L.cc ≤ 9223372036854775807 ∧ Crs w w.heap.size L.A L.cs ∧ ∀ ad, L.A = some ad → 0 < L.cs.length → col ad.block = none
  giv : Grp Tryd.prog encC 24 55 kr okR 1 L.B x.s.ic L.b2 w col x.s.giv
  ask : Grp Tryd.prog encC 24 55 kr okR 2 L.B x.s.ic L.b3 w col x.s.ask
  lnk : Grp Tryd.prog encR 24 24 kr okR 3 L.B x.s.ic L.b4 w col x.s.lnk
  rn : Rnm w L.b5 col x.s.kn.length x.s.rn
  fr : Own (E := encP) w L.B 58 vF x.s.fr
  cfr : ∀ g, vF.ownBlock = some g → col g = some (6, .nil)
  re : Rea w L.b7 col x.re x.nr
  la : Own (E := encP) w L.B 58 vL x.la
  cla : ∀ g, vL.ownBlock = some g → col g = some (8, .nil)
  low : ∀ g, g < L.B → col g = none
  base : L.B ≤ w.heap.size
  dom : ∀ g c, col g = some c → g < w.heap.size
  sz : SzC x.s
  lo : ∀ q ∈ x.la, okP q
  pe : ∀ i, i < 17 → okB (L.P i)
section
variable {L : Ly} {w w' : World} {vF vL : Value} {col col' : Col} {x : Sx} {b n : Nat} {rn : Pr → Nat} {re : Why}
theorem Rnm.frame (h : Rnm w b col n rn) (hb : ∀ g, col g = some (5, .nil) → w'.heap[g]? = w.heap[g]?) (hcol : ∀ g, g < w.heap.size → col' g = col g) : Rnm w' b col' n rn := by
  obtain ⟨D, h1, h2, h3⟩ := h
  have hl := h1.lt
  exact ⟨D, map_at h1 (hb b h2), (hcol b hl).trans h2, h3⟩
theorem ReaAt.frame {o : Option Value} {r : Option ((Int × Int) × List Pr)} (h : ReaAt w col o r) (hs : w.heap.size ≤ w'.heap.size) (hf : ∀ g, g < w.heap.size → col g = none → w'.heap[g]? = w.heap[g]?) (hcol : ∀ g, g < w.heap.size → col' g = col g) : ReaAt w' col' o r := by
  rcases h with h | ⟨i, ps, A, c, h1, h2, h3, h4, h5, h6⟩
  · exact .inl h
  · by_cases hp : 0 < ps.length
    · obtain ⟨ad, rfl, hb, hc⟩ := h3 hp
      refine .inr ⟨i, ps, _, c, h1, h2, (Els.keep h3 fun ad' e hb' => hf _ hb' (h4 ad' e hp)).more hs, fun ad' e _ => ?_, h5, h6⟩
      cases e
      rw [hcol _ hb]; exact h4 _ rfl hp
    · exact .inr ⟨i, ps, A, c, h1, h2, fun h => absurd h hp, fun _ _ h => absurd h hp, h5, h6⟩
theorem Rea.frame (h : Rea w b col re n) (hb : ∀ g, col g = some (7, .nil) → w'.heap[g]? = w.heap[g]?) (hs : w.heap.size ≤ w'.heap.size) (hf : ∀ g, g < w.heap.size → col g = none → w'.heap[g]? = w.heap[g]?) (hcol : ∀ g, g < w.heap.size → col' g = col g) : Rea w' b col' re n := by
  obtain ⟨D, h1, h2, h3, h4⟩ := h
  have hl := h1.lt
  exact ⟨D, map_at h1 (hb b h2), (hcol b hl).trans h2, h3, fun q hq => (h4 q hq).frame hs hf hcol⟩
theorem Sea.cell (h : Sea L w vF vL col x) : w.cell? ⟨L.sb, 17, none⟩ = some (.slice L.A L.nc L.cc) ∧ w.cell? ⟨L.sb, 18, none⟩ = some (.map (some L.b2)) ∧ w.cell? ⟨L.sb, 19, none⟩ = some (.map (some L.b3)) ∧ w.cell? ⟨L.sb, 20, none⟩ = some (.map (some L.b4)) ∧ w.cell? ⟨L.sb, 21, none⟩ = some (.map (some L.b5)) ∧
    w.cell? ⟨L.sb, 22, none⟩ = some vF ∧ w.cell? ⟨L.sb, 23, none⟩ = some (.map (some L.b7)) ∧ w.cell? ⟨L.sb, 24, none⟩ = some vL :=
  ⟨by rw [cell_of_row w L.sb 17 _ _ (0, 0) h.row]; rfl, by rw [cell_of_row w L.sb 18 _ _ (0, 0) h.row]; rfl, by rw [cell_of_row w L.sb 19 _ _ (0, 0) h.row]; rfl, by rw [cell_of_row w L.sb 20 _ _ (0, 0) h.row]; rfl, by rw [cell_of_row w L.sb 21 _ _ (0, 0) h.row]; rfl,
   by rw [cell_of_row w L.sb 22 _ _ (0, 0) h.row]; rfl, by rw [cell_of_row w L.sb 23 _ _ (0, 0) h.row]; rfl, by rw [cell_of_row w L.sb 24 _ _ (0, 0) h.row]; rfl⟩
theorem Sea.frz (h : Sea L w vF vL col x) (k : Nat) : w.frozen? ⟨L.sb, k, none⟩ = false := frozen_of_row w L.sb k _ _ h.row
theorem Sea.lt (h : Sea L w vF vL col x) : L.sb < w.heap.size := h.dom _ _ h.csb
theorem rowS_pe {P : Nat → ByteArray} {vC vF vL : Value} {b2 b3 b4 b5 b7 : Nat} {i : Nat} (hi : i < 17) : (rowS P vC b2 b3 b4 b5 vF b7 vL)[i]? = some (.string (P i)) := by
  have : i = 0 ∨ i = 1 ∨ i = 2 ∨ i = 3 ∨ i = 4 ∨ i = 5 ∨ i = 6 ∨ i = 7 ∨ i = 8 ∨ i = 9 ∨ i = 10 ∨ i = 11 ∨ i = 12 ∨ i = 13 ∨ i = 14 ∨ i = 15 ∨ i = 16 := by omega
  rcases this with rfl | rfl | rfl | rfl | rfl | rfl | rfl | rfl | rfl | rfl | rfl | rfl | rfl | rfl | rfl | rfl | rfl <;> rfl
theorem Sea.per (h : Sea L w vF vL col x) {i : Nat} (hi : i < 17) : w.cell? ⟨L.sb, i, none⟩ = some (.string (L.P i)) := by
  rw [cell_of_row w L.sb i _ _ (0, 0) h.row]; exact rowS_pe hi
theorem Sea.free (h : Sea L w vF vL col x) {g : Nat} (hg : w.heap.size ≤ g) : col g = none := by
  cases hc : col g with
  | none => rfl
  | some c => have := h.dom g c hc; omega
theorem Sea.c2 (h : Sea L w vF vL col x) : col L.b2 = some (1, .nil) := by obtain ⟨D, hD⟩ := h.giv; exact hD.cb
theorem Sea.c3 (h : Sea L w vF vL col x) : col L.b3 = some (2, .nil) := by obtain ⟨D, hD⟩ := h.ask; exact hD.cb
theorem Sea.c4 (h : Sea L w vF vL col x) : col L.b4 = some (3, .nil) := by obtain ⟨D, hD⟩ := h.lnk; exact hD.cb
theorem Sea.c5 (h : Sea L w vF vL col x) : col L.b5 = some (5, .nil) := by obtain ⟨D, _, e, _⟩ := h.rn; exact e
theorem Sea.c7 (h : Sea L w vF vL col x) : col L.b7 = some (7, .nil) := by obtain ⟨D, _, e, _⟩ := h.re; exact e
structure Kep (M : Nat → Prop) (B : Nat) (w w' : World) (col col' : Col) : Prop where
  size : w.heap.size ≤ w'.heap.size
  blk : ∀ g c, col g = some c → ¬ M c.1 → w'.heap[g]? = w.heap[g]?
  fre : ∀ g, g < w.heap.size → col g = none → w'.heap[g]? = w.heap[g]?
  col : ∀ g, g < w.heap.size → col' g = col g
  dom : ∀ g c, col' g = some c → g < w'.heap.size
theorem Sea.kcr {M : Nat → Prop} (h : Sea L w vF vL col x) (k : Kep M L.B w w' col col') : L.cs.length = L.nc ∧ L.nc ≤ L.cc ∧ L.cc ≤ 9223372036854775807 ∧ Crs w' w'.heap.size L.A L.cs ∧ ∀ ad, L.A = some ad → 0 < L.cs.length → col' ad.block = none := by
  obtain ⟨h1, h2, h3, h4, h5⟩ := h.cr
  refine ⟨h1, h2, h3, fun hn => ?_, fun ad e hn => ?_⟩
  · obtain ⟨ad, e, hb, hc⟩ := h4 hn
    refine ⟨ad, e, Nat.lt_of_lt_of_le hb k.size, fun i u hu => ?_⟩
    rw [← hc i u hu]
    unfold World.cell?
    rw [block_add, k.fre _ hb (h5 ad e hn)]
  · obtain ⟨ad', e', hb, _⟩ := h4 hn
    rw [e] at e'; cases e'
    rw [k.col _ hb]; exact h5 ad e hn
theorem Sea.klow {M : Nat → Prop} (h : Sea L w vF vL col x) (k : Kep M L.B w w' col col') : ∀ g, g < L.B → col' g = none := fun g hg => by rw [k.col g (Nat.lt_of_lt_of_le hg h.base)]; exact h.low g hg
theorem Sea.kre {M : Nat → Prop} (h : Sea L w vF vL col x) (k : Kep M L.B w w' col col') (hM : ¬ M 7) : Rea w' L.b7 col' x.re x.nr := h.re.frame (fun g e => k.blk g _ e hM) k.size k.fre k.col
theorem Sea.krn {M : Nat → Prop} (h : Sea L w vF vL col x) (k : Kep M L.B w w' col col') (hM : ¬ M 5) : Rnm w' L.b5 col' x.s.kn.length x.s.rn := h.rn.frame (fun g e => k.blk g _ e hM) k.col
theorem Sea.kfr {M : Nat → Prop} (h : Sea L w vF vL col x) (k : Kep M L.B w w' col col') (hM : ¬ M 6) : Own (E := encP) w' L.B 58 vF x.s.fr ∧ ∀ g, vF.ownBlock = some g → col' g = some (6, .nil) :=
  ⟨h.fr.kept fun g e => k.blk g _ (h.cfr g e) hM, fun g e => by rw [k.col g (h.fr.lt g e).2]; exact h.cfr g e⟩
theorem Sea.kla {M : Nat → Prop} (h : Sea L w vF vL col x) (k : Kep M L.B w w' col col') (hM : ¬ M 8) : Own (E := encP) w' L.B 58 vL x.la ∧ ∀ g, vL.ownBlock = some g → col' g = some (8, .nil) :=
  ⟨h.la.kept fun g e => k.blk g _ (h.cla g e) hM, fun g e => by rw [k.col g (h.la.lt g e).2]; exact h.cla g e⟩
theorem Sea.kgrp {M : Nat → Prop} {α κ : Type} {E : Enc α} {kT eT : TypeId} {kl : κ → Lit} {ok : κ → Prop} {i n' : Nat} {G : κ → List α} (k : Kep M L.B w w' col col') (h : Grp Tryd.prog E kT eT kl ok i L.B n b w col G) (h1 : ¬ M i) (h2 : ¬ M (i + 10)) (hn : n ≤ n') : Grp Tryd.prog E kT eT kl ok i L.B n' b w' col' G :=
  h.frame (fun g c e hc => k.blk g c e (by rcases hc with hc | hc <;> rw [hc] <;> assumption)) k.col hn
theorem Sea.below (h : Sea L w vF vL col x) (hb : Below w.heap.size w w') : Sea L w' vF vL col x := by
  have k : Kep (fun _ => False) L.B w w' col col := ⟨hb.size, fun g c e _ => hb.block g (h.dom g c e), fun g hg _ => hb.block g hg, fun _ _ => rfl, fun g c e => Nat.lt_of_lt_of_le (h.dom g c e) hb.size⟩
  exact ⟨(hb.block _ h.lt).trans h.row, h.csb, h.kcr k, Sea.kgrp k h.giv id id (Nat.le_refl _), Sea.kgrp k h.ask id id (Nat.le_refl _), Sea.kgrp k h.lnk id id (Nat.le_refl _), h.krn k id, (h.kfr k id).1, (h.kfr k id).2, h.kre k id, (h.kla k id).1, (h.kla k id).2, h.low, Nat.le_trans h.base hb.size, k.dom, h.sz, h.lo, h.pe⟩
end
section
variable {s : Se} {pe : List ByteArray} {c : Crd}
theorem take_1y (h : c.kd = 1) (hw : c.wh ∈ pe) : s.take pe c = (s.add (roleOf c, c.wh) 1).toGiv (roleOf c) c := by unfold Se.take; rw [if_pos h, if_pos hw]
theorem take_1n (h : c.kd = 1) (hw : c.wh ∉ pe) : s.take pe c = s := by unfold Se.take; rw [if_pos h, if_neg hw]
theorem take_2 (h : c.kd = 2) : s.take pe c = (s.toAsk (c.ao, c.an) c).toGiv (roleOf c) c := by unfold Se.take; rw [if_neg (by omega), if_pos h]
theorem take_3 (h : c.kd = 3) : s.take pe c = (s.toAsk (firstOf c) c).toGiv (roleOf c) c := by unfold Se.take; rw [if_neg (by omega), if_neg (by omega), if_pos h]
theorem take_4 (h : c.kd = 4) : s.take pe c = ((s.toAsk (c.ao, c.an) c).toAsk (c.bo, c.bn) c).toGiv (roleOf c) c := by unfold Se.take; rw [if_neg (by omega), if_neg (by omega), if_neg (by omega), if_pos h]
end
end Go.Proofs.YtoajckhnneagnaaDoor.Sh
