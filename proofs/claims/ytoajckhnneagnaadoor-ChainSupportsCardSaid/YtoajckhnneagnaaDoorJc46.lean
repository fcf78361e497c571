/-
  The document's own Support, by contract.
-/
import Derived.Test.YtoajckhnneagnaaDoorJc44
import Derived.Test.YtoajckhnneagnaaDoorJc26
import Derived.Test.YtoajckhnneagnaaDoorJc45
set_option linter.unusedVariables false
set_option linter.unusedSimpArgs false
namespace Go.Proofs.YtoajckhnneagnaaDoor.Sh
open Go Go.RowKit

set_option linter.unusedSimpArgs false
set_option linter.unusedVariables false
theorem own_block_cells {α : Type} {E : Enc α} {w : World} {B g : Nat} {T : TypeId} {v : Value} {l : List α} (h : Own (E := E) w B T v l) (hg : v.ownBlock = some g) : ∃ cur, w.heap[g]? = some (.cells cur T (0, 0)) := by
  obtain ⟨-, hr⟩ := h
  rcases hr with ⟨rfl, -⟩ | ⟨gr, cp, cur, rfl, hB, hh, -⟩
  · simp [Value.ownBlock] at hg
  · simp only [Value.ownBlock, Option.some.injEq] at hg
    subst hg
    exact ⟨cur, hh⟩
theorem own_apart {α β : Type} {E : Enc α} {F : Enc β} {w : World} {B B' : Nat} {T T' : TypeId} {v v' : Value} {l : List α} {l' : List β} (h : Own (E := E) w B T v l) (h' : Own (E := F) w B' T' v' l') (hT : T ≠ T') : ∀ g, v.ownBlock = some g → v'.ownBlock ≠ some g := by
  intro g e e'
  obtain ⟨a, ha⟩ := own_block_cells h e
  obtain ⟨b, hb⟩ := own_block_cells h' e'
  rw [ha] at hb
  simp only [Option.some.injEq, Obj.cells.injEq] at hb
  exact hT hb.2.1
set_option maxHeartbeats 32000000 in
set_option maxRecDepth 100000 in
theorem refSupport8_any (A : Option Addr) (all : List Crd) (n c : Nat) (hn : all.length = n) (hm : n ≤ 30) (who : ByteArray) (Ar : Option Addr) (rs : List Rl) (m cr : Nat) (hrm : rs.length = m) (hm4 : m ≤ 100) (w : World) (h : Crs w w.heap.size A all) (hR : Els encR w w.heap.size Ar rs) :
    Calls Tryd.prog 16 #[.slice A n c, .string who, .slice Ar m cr] w fun e w' => ∃ cs, CountsOf cs all ∧ (((∃ r ∈ rs, rd cs (r, who) = 0) ∧ e = .returned (.tuple #[.slice none 0 0, .int .i64 16])) ∨ ((∀ r ∈ rs, rd cs (r, who) ≠ 0) ∧ ∃ (A' : Option Addr) (c' : Nat) (ss : List (Int × Int)), e = .returned (.tuple #[.slice A' ss.length c', .int .i64 0]) ∧ SortedI ss ∧ (∀ i, i ∈ ss ↔ Needs cs (Tgt rs who) i) ∧ Own (E := encI) w' w.heap.size 27 (.slice A' ss.length c') ss)) ∧ Below w.heap.size w w' := by
  have HCR := hid (fun W (hW : Below w.heap.size w W) => (h.below hW).more hW.size)
  have HCO := hid (refCounts_any A all n c hn (by omega) w h)
  have HRD := hid (fun (r : Rl) W (hW : Below w.heap.size w W) => refRound8_any A all n c hn hm who r.1 r.2 W (HCR.out W hW))
  have HRS := hid hR
  have HRM := hid hrm
  have HMM := hid hm
  clear hn hm h hR hrm
  go_enter Tryd.func16, Tryd.ntmps16
  go_upto_region 2 with (go_at_call 25; (refine HCO.out.mono ?_); rintro er w2 ⟨C, nc, cc, cs, rfl, hnc, hoc, hco, hb2⟩; have HOC := hid hoc; have HCN := hid hco; have HNC := hid hnc; have HB2 := hid hb2; clear hnc hoc hco hb2)
  have HLC : Hid (cs.length = nc ∧ nc ≤ 30) := hid ⟨HOC.out.len, by have := HNC.out; have := HMM.out; omega⟩
  have HMY : Hid (∀ c ∈ cs, mayC c = true) := hid (fun c hc => (counts_mem HCN.out hc).1)
  have HRR := hid (fun (r : Rl) W (hW : Below w2.heap.size w2 W) => (HRD.out r W (HB2.out.trans (hW.mono HB2.out.size))).mono (R' := fun e w' => e = .returned (.int .i64 (rd cs (r, who) : Int)) ∧ Below W.heap.size W w') fun e w' ⟨cs2, g1, g2, g3⟩ => ⟨by rw [g2, counts_one8 g1 HCN.out], g3⟩)
  go_wp2_with fail
  go_loopw [9, 10] (fun v i wr => ∃ (A2 : Option Addr) (np c2 j : Nat) (pl : List Pr), v = .slice A2 np c2 ∧ i = .int .i64 (j : Int) ∧ j ≤ m ∧ Hid (pl.length = np ∧ np ≤ j) ∧ Hid (Own (E := encP) wr w2.heap.size 47 (.slice A2 np c2) pl) ∧ Hid (pl.Nodup) ∧ Hid (∀ p, p ∈ pl ↔ Tgt (rs.take j) who p) ∧ Hid (∀ r ∈ rs.take j, rd cs (r, who) ≠ 0) ∧ Hid (Below w2.heap.size w2 wr)) (fun _ i _ => m - (intOf i).toNat)
  case atStart => exact ⟨none, 0, 0, 0, [], rfl, rfl, Nat.zero_le _, hid ⟨rfl, Nat.le_refl _⟩, hid (Own.nil _ _ _), hid List.nodup_nil, hid (by intro p; rw [List.take_zero]; exact ⟨fun h => (List.not_mem_nil h).elim, fun ⟨r, hr, _⟩ => (List.not_mem_nil hr).elim⟩), hid (by simp), hid (Below.refl _ _)⟩
  case round =>
    obtain ⟨wj, hwj⟩ : ∃ x, x = wr := ⟨_, rfl⟩
    subst hwj
    obtain ⟨A2, np, c2, j, pl, rfl, rfl, hj, HPL, HOW, HND, HTG, HRZ, HBJ⟩ := hrel
    by_cases hlt : j < m
    · obtain ⟨⟨o, nm⟩, hx⟩ : ∃ x, rs[j]? = some x := ⟨_, List.getElem?_eq_getElem (by rw [HRM.out]; exact hlt)⟩
      have HB0 : Hid (Below w.heap.size w wj) := hid (HB2.out.trans (HBJ.out.mono HB2.out.size))
      obtain ⟨ad, aj, rfl, hab, ea, hbj, a0, ai⟩ := (HRS.out.below HB0.out).get hx
      have a0 := a0 _ rfl
      have a1 := ai 1 _ (by decide) rfl
      have ea : ad.add (j * 2) = aj := ea
      have haj : aj.block < wj.heap.size := by have := HB0.out.size; omega
      have hj0 : (0 : Int) ≤ (j : Int) := Int.natCast_nonneg _
      have hj1 : (j : Int) < (m : Int) := by omega
      have HNX : Hid (rs.take (j + 1) = rs.take j ++ [(o, nm)]) := hid (take_snoc_of hx)
      have HME : Hid ((o, nm) ∈ rs) := hid (List.mem_of_getElem? hx)
      have HKA := hid (fun W (hW : Below wj.heap.size wj W) => (⟨(hW.cell (p := aj) haj).trans a0, (hW.cell (p := ⟨aj.block, aj.off + 1, none⟩) haj).trans a1⟩ : W.cell? aj = some (.string o) ∧ W.cell? ⟨aj.block, aj.off + 1, none⟩ = some (.string nm)))
      obtain ⟨w5, hw5⟩ : ∃ w5, w5 = wj.alloc (.cells #[.string o, .string nm, .string who] 47) := ⟨_, rfl⟩
      obtain ⟨gp, hgp⟩ : ∃ g, wj.heap.size = g := ⟨_, rfl⟩
      have HQ5 : Hid (Below wj.heap.size wj w5) := hid (by rw [hw5]; exact (Below.refl _ _).alloc (Nat.le_refl _) _)
      have HB5 : Hid (Below w2.heap.size w2 w5) := hid (HBJ.out.trans (HQ5.out.mono HBJ.out.size))
      have HP5 : Hid (PrB w5 gp o nm who) := hid (by rw [hw5, ← hgp]; exact PrB.new wj _ _ _)
      have HRC := hid (HRR.out (o, nm) w5 HB5.out)
      clear hx hab hbj ai
      go_upto_region 7 with fail
      try rw [← hw5]
      try rw [hgp]
      clear a0 a1 hw5 hgp
      obtain ⟨a0, a1⟩ := HKA.out _ HQ5.out
      by_cases hrd : rd cs ((o, nm), who) = 0
      · rw [hrd] at HRC
        have HZ := hid hrd
        clear hrd
        go_wp2_with (go_at_call 13; (refine HRC.out.mono ?_); rintro er w6 ⟨rfl, bb⟩; have HB6 := hid bb; clear bb)
        go_ret2
        exact ⟨cs, HCN.out, .inl ⟨⟨_, HME.out, HZ.out⟩, rfl⟩, HB0.out.trans ((HQ5.out.mono HB0.out.size).trans (HB6.out.mono (Nat.le_trans HB0.out.size HQ5.out.size)))⟩
      · obtain ⟨R, hR⟩ : ∃ R, rd cs ((o, nm), who) = R := ⟨_, rfl⟩
        rw [hR] at HRC
        have hR0 : ¬ (R : Int) = 0 := by omega
        have hR1 : ((R : Int) == 0) = false := beq_eq_false_iff_ne.2 hR0
        have HZ := hid hrd
        clear hrd hR
        go_upto_region 9 with (go_at_call 13; (refine HRC.out.mono ?_); rintro er w6 ⟨rfl, bb⟩; have HB6 := hid bb; clear bb)
        have HQ6 : Hid (Below wj.heap.size wj w6) := hid (HQ5.out.trans (HB6.out.mono HQ5.out.size))
        have HO6 := hid (HOW.out.below HQ6.out)
        have HP6 := hid (HP5.out.kept HB6.out)
        have HIN := hid (in_any A2 pl np c2 HPL.out.1 (by have := HPL.out.2; omega) o nm who w6 (own_els HO6.out))
        clear a0 a1 hR0 hR1
        obtain ⟨p0, p1, p2⟩ := HP6.out.all
        have HR2 : Hid (∀ r ∈ rs.take (j + 1), rd cs (r, who) ≠ 0) := hid (by
          rw [HNX.out]
          intro r hr
          rcases List.mem_append.1 hr with h | h
          · exact HRZ.out r h
          · rw [List.mem_singleton.1 h]; exact HZ.out)
        have HT2 : Hid (∀ p, p ∈ addP pl ((o, nm), who) ↔ Tgt (rs.take (j + 1)) who p) := hid (fun p => by
          rw [addP_mem, HTG.out, HNX.out]
          constructor
          · rintro (⟨r, hr, e⟩ | rfl)
            · exact ⟨r, List.mem_append.2 (.inl hr), e⟩
            · exact ⟨(o, nm), by simp, rfl⟩
          · rintro ⟨r, hr, e⟩
            rcases List.mem_append.1 hr with h | h
            · exact .inl ⟨r, h, e⟩
            · rw [List.mem_singleton.1 h] at e; exact .inr e)
        by_cases hin : ((o, nm), who) ∈ pl
        · rw [decide_eq_true hin] at HIN
          rw [addP_old hin] at HT2
          clear hin
          go_wp2_with (go_at_call 21; (refine HIN.out.mono ?_); rintro er w7 ⟨rfl, bb⟩; have HB7 := hid bb; clear bb)
          have HQ7 : Hid (Below wj.heap.size wj w7) := hid (HQ6.out.trans (HB7.out.mono HQ6.out.size))
          go_roundw
          case rel => exact ⟨A2, np, c2, j + 1, pl, rfl, by go_num, by omega, hid ⟨HPL.out.1, by have := HPL.out.2; omega⟩, hid (HOW.out.below HQ7.out), HND, HT2, HR2, hid (HBJ.out.trans (HQ7.out.mono HBJ.out.size))⟩
          case measure => simp [intOf]; omega
        · rw [decide_eq_false hin] at HIN
          have HN2 : Hid ((pl ++ [((o, nm), who)]).Nodup) := hid (by rw [← addP_new hin]; exact addP_nd HND.out)
          rw [addP_new hin] at HT2
          clear hin
          go_upto_region 10 with (go_at_call 21; (refine HIN.out.mono ?_); rintro er w7 ⟨rfl, bb⟩; have HB7 := hid bb; clear bb)
          have HQ7 : Hid (Below wj.heap.size wj w7) := hid (HQ6.out.trans (HB7.out.mono HQ6.out.size))
          have HP7 := hid (HP6.out.kept HB7.out)
          have HB27 : Hid (Below w2.heap.size w2 w7) := hid (HBJ.out.trans (HQ7.out.mono HBJ.out.size))
          clear p0 p1 p2
          obtain ⟨p0, p1, p2⟩ := HP7.out.all
          have HOA := hid ((HOW.out.below HQ7.out).alloc (.cells #[.string o, .string nm, .string who] 47))
          have HRDs := hid (reads_new w7 #[.string o, .string nm, .string who] 47 (0, 0))
          have HBA := hid (HB27.out.alloc HB27.out.size (.cells #[.string o, .string nm, .string who] 47))
          have hbs : w2.heap.size ≤ (w7.alloc (.cells #[.string o, .string nm, .string who] 47)).heap.size := HBA.out.size
          have hfl : pl.length ≤ 1000000000000 := by have := HPL.out; omega
          go_wp2_with (first | (at_builtin; refine wpList_app1 (E := encP) rfl slQ (.tmp 43) (.tmp 45) rfl (B := w2.heap.size) (v := .slice A2 np c2) (l := pl) HOA.out rfl (ad := ⟨w7.heap.size, 0, none⟩) (c := 1) ((o, nm), who) rfl HRDs.out hfl (by omega) hbs ?_; intro A9 c9 w9 ho9 hg9 he9; have HO9 := hid ho9; have HB9 := hid (HBA.out.grown hg9 hbs (fun g e => (World.ownsRow.lt HOA.out g e).1)); clear ho9 hg9 he9) | go_in)
          go_roundw
          case rel => exact ⟨A9, np + 1, c9, j + 1, pl ++ [((o, nm), who)], by rw [HPL.out.1], by go_num, by omega, hid ⟨by rw [List.length_append, List.length_singleton, HPL.out.1], by have := HPL.out.2; omega⟩, hid (by have := HO9.out; rwa [HPL.out.1] at this), HN2, HT2, HR2, HB9⟩
          case measure => simp [intOf]; omega
    · obtain rfl : j = m := by omega
      have HTA : Hid (rs.take j = rs) := hid (List.take_of_length_le (by rw [HRM.out]; exact Nat.le_refl _))
      rw [HTA.out] at HTG HRZ
      have HSI := hid (SpI.start (cs := cs) HND.out HTG.out HRZ.out)
      have HCC := hid (fun W (hW : Below w2.heap.size w2 W) => (HOC.out.crs.below hW).more hW.size)
      have hj0 : ¬ (j : Int) < (j : Int) := by omega
      have HNB : Hid (∀ (pl' : List Pr) (i : Nat), SpI cs who rs pl' i → pl'.length ≤ 510) := hid (fun pl' i h => by
        have h1 := h.len
        have h2 := HLC.out
        have h3 : cs.length * 17 ≤ 30 * 17 := Nat.mul_le_mul_right 17 (by omega)
        omega)
      have HRA := hid HRZ.out
      clear HTG HRZ HTA HND HRS HRR HRD HCR HCO HMM
      go_upto_region 13 with fail
      clear hj0
      have HPL0 := HPL.out.1
      go_loopw [9, 12, 13] (fun v9 v12 v13 wr => ∃ (A3 : Option Addr) (n3 c3 : Nat) (A4 : Option Addr) (c4 i : Nat) (ql : List Pr), v9 = .slice A3 n3 c3 ∧ v12 = .slice A4 i c4 ∧ v13 = .int .i64 (i : Int) ∧ i ≤ n3 ∧ Hid (ql.length = n3 ∧ n3 ≤ 510) ∧ Hid (Own (E := encP) wr w2.heap.size 47 (.slice A3 n3 c3) ql) ∧ Hid (Own (E := encI) wr w2.heap.size 27 (.slice A4 i c4) ((ql.take i).map (idAt cs))) ∧ Hid (SpI cs who rs ql i) ∧ Hid (Below w2.heap.size w2 wr)) (fun _ _ v13 _ => 600 - (intOf v13).toNat)
      case atStart => exact ⟨A2, np, c2, none, 0, 0, pl, rfl, rfl, rfl, Nat.zero_le _, hid ⟨HPL0, by have := HNB.out _ _ HSI.out; omega⟩, HOW, hid (by simp only [List.take_zero, List.map_nil]; exact Own.nil _ _ _), HSI, HBJ⟩
      case round =>
        obtain ⟨wi, hwi⟩ : ∃ x, x = wr := ⟨_, rfl⟩
        subst hwi
        obtain ⟨A3, n3, c3, A4, c4, i, ql, rfl, rfl, rfl, hi, HQL, HOQ, HOI, HSQ, HBI⟩ := hrel
        have hi0 : (0 : Int) ≤ (i : Int) := Int.natCast_nonneg _
        by_cases hlt2 : i < n3
        · obtain ⟨⟨⟨o, nm⟩, x⟩, hx⟩ : ∃ x, ql[i]? = some x := ⟨_, List.getElem?_eq_getElem (by rw [HQL.out.1]; exact hlt2)⟩
          have HX := hid hx
          obtain ⟨ad, aj, rfl, hab, ea, hbj, a0, ai⟩ := (own_els HOQ.out).get hx
          have a0 := a0 _ rfl
          have a1 := ai 1 _ (by decide) rfl
          have a2 := ai 2 _ (by decide) rfl
          have ea : ad.add (i * 3) = aj := ea
          have hi1 : (i : Int) < (n3 : Int) := by omega
          have HF := hid (refFirst8W_any C cs nc cc HLC.out.1 HLC.out.2 HMY.out x o nm (HSQ.out.src _ (List.mem_of_getElem? hx)).2.1 wi (HCC.out wi HBI.out))
          clear hx hab hbj ai
          go_upto_region 16 with (go_at_call 33; (refine HF.out.mono ?_); rintro er w6 ⟨⟨d, q, nn, kd, wh, ao, an, bo, bn⟩, ps, A6, n6, c6, hfs, hn6, rfl, hel, hfr, bb⟩; simp only at hfs ⊢; have HFS := hid hfs; have HN6 := hid hn6; have HEL := hid hel; have HFR := hid hfr; have HB6 := hid bb; clear hfs hn6 hel hfr bb)
          have hn62 : n6 ≤ 2 := by rw [← HN6.out]; exact fs_len HFS.out
          obtain ⟨w7, hw7⟩ : ∃ x, x = w6.alloc (.cells #[.int .i64 d, .int .i64 q] 27) := ⟨_, rfl⟩
          obtain ⟨gi, hgi⟩ : ∃ x, w6.heap.size = x := ⟨_, rfl⟩
          try rw [← hw7]
          try rw [hgi]
          have HB67 : Hid (Below w6.heap.size w6 w7) := hid (by rw [hw7]; exact (Below.refl _ _).alloc (Nat.le_refl _) _)
          have HBi7 : Hid (Below wi.heap.size wi w7) := hid (HB6.out.trans (HB67.out.mono HB6.out.size))
          have HB27 : Hid (Below w2.heap.size w2 w7) := hid (HBI.out.trans (HBi7.out.mono HBI.out.size))
          have HI7 : Hid (w7.heap[gi]? = some (.cells #[.int .i64 d, .int .i64 q] 27 (0, 0))) := hid (by rw [hw7, ← hgi]; exact heap_alloc_new w6 _)
          have HE7 : Hid (Els encP w7 w7.heap.size A6 ps) := hid ((HEL.out.below HB67.out).more HB67.out.size)
          clear hw7 hgi a0 a1 a2
          have i0 : w7.cell? ⟨gi, 0, none⟩ = some (.int .i64 d) := by rw [cell_of_row w7 gi 0 _ _ (0, 0) HI7.out]; rfl
          have i1 : w7.cell? ⟨gi, 1, none⟩ = some (.int .i64 q) := by rw [cell_of_row w7 gi 1 _ _ (0, 0) HI7.out]; rfl
          have HIDX : Hid ((ql.take (i + 1)).map (idAt cs) = (ql.take i).map (idAt cs) ++ [(d, q)]) := hid (by rw [take_snoc_of HX.out, List.map_append, List.map_cons, List.map_nil, idAt_fs HFS.out])
          obtain ⟨ids, hids⟩ : ∃ l, (ql.take i).map (idAt cs) = l := ⟨_, rfl⟩
          have HIL : Hid (ids.length = i) := hid (by rw [← hids, List.length_map, List.length_take, HQL.out.1]; omega)
          rw [hids] at HOI HIDX
          have HOIA := hid ((HOI.out.below HBi7.out).alloc (.cells #[.int .i64 d, .int .i64 q] 27))
          have HOQA := hid ((HOQ.out.below HBi7.out).alloc (.cells #[.int .i64 d, .int .i64 q] 27))
          have HRD7 := hid (reads_new w7 #[.int .i64 d, .int .i64 q] 27 (0, 0))
          have HBA := hid (HB27.out.alloc HB27.out.size (.cells #[.int .i64 d, .int .i64 q] 27))
          have hbs : w2.heap.size ≤ (w7.alloc (.cells #[.int .i64 d, .int .i64 q] 27)).heap.size := HBA.out.size
          have hfl : ids.length ≤ 1000000000000 := by have := HIL.out; have := HQL.out; omega
          have HAP := hid (own_apart HOQA.out HOIA.out (by decide))
          have HEA : Hid (Els encP (w7.alloc (.cells #[.int .i64 d, .int .i64 q] 27)) w7.heap.size A6 ps) := hid (HE7.out.below ((Below.refl _ _).alloc (Nat.le_refl _) _))
          have HIDS := hid hids
          clear hids i0 i1
          have i0 : w7.cell? ⟨gi, 0, none⟩ = some (.int .i64 d) := by rw [cell_of_row w7 gi 0 _ _ (0, 0) HI7.out]; rfl
          have i1 : w7.cell? ⟨gi, 1, none⟩ = some (.int .i64 q) := by rw [cell_of_row w7 gi 1 _ _ (0, 0) HI7.out]; rfl
          go_wp2_with (first | (at_builtin; refine wpList_app1 (E := encI) rfl slI (.tmp 62) (.tmp 64) rfl (B := w2.heap.size) (v := .slice A4 i c4) (l := ids) HOIA.out rfl (ad := ⟨w7.heap.size, 0, none⟩) (c := 1) (d, q) rfl HRD7.out hfl (by omega) hbs ?_; intro A9 c9 w9 ho9 hg9 he9; have HO9 := hid ho9; have HB9 := hid (HBA.out.grown hg9 hbs (fun g e => (World.ownsRow.lt HOIA.out g e).1)); have HQ9 : Hid (Own (E := encP) w9 w2.heap.size 47 (.slice (some ad) n3 c3) ql) := hid (HOQA.out.kept fun g e => hg9.block g (HOQA.out.lt g e).2 (fun e2 => HAP.out g e e2.symm)); have HE9 : Hid (Els encP w9 w9.heap.size A6 ps) := hid ((HEA.out.keep (w' := w9) fun a6 e6 hb6 => hg9.block a6.block (by rw [World.size_alloc]; omega) (fun e2 => by have h1 := (HOI.out.lt _ e2.symm).2; have h2 := HFR.out a6 e6; omega)).more (by have := hg9.size; rw [World.size_alloc] at this; omega)); clear ho9 hg9 he9) | go_in)
          clear i0 i1
          rw [HIL.out] at HO9 ⊢
          have HFA : Hid (∀ g, (Value.slice (some ad) n3 c3).ownBlock = some g → ∀ a6, A6 = some a6 → g ≠ a6.block) := hid (fun g e a6 e6 => by have h1 := (HOQ.out.lt _ e).2; have h2 := HFR.out a6 e6; omega)
          clear HOQA HOIA HEA HRD7 HBA hbs hfl HAP HI7 HE7 HEL HF
          go_loopw [9, 16] (fun v9 v16 wr => ∃ (A5 : Option Addr) (n5 c5 k : Nat) (rl : List Pr), v9 = .slice A5 n5 c5 ∧ v16 = .int .i64 (k : Int) ∧ k ≤ n6 ∧ Hid (rl.length = n5 ∧ n5 ≤ 510 ∧ i < n5) ∧ Hid (Own (E := encP) wr w2.heap.size 47 (.slice A5 n5 c5) rl) ∧ Hid (SpI cs who rs rl i) ∧ Hid (rl[i]? = some ((o, nm), x)) ∧ Hid (rl.take i = ql.take i) ∧ Hid (∀ r ∈ ps.take k, r ∈ rl) ∧ Hid (Own (E := encI) wr w2.heap.size 27 (.slice A9 (i + 1) c9) (ids ++ [(d, q)])) ∧ Hid (Els encP wr wr.heap.size A6 ps) ∧ Hid (∀ g, (Value.slice A5 n5 c5).ownBlock = some g → ∀ a6, A6 = some a6 → g ≠ a6.block) ∧ Hid (Below w2.heap.size w2 wr)) (fun _ v16 _ => n6 - (intOf v16).toNat)
          case atStart => exact ⟨some ad, n3, c3, 0, ql, rfl, rfl, Nat.zero_le _, hid ⟨HQL.out.1, HQL.out.2, hlt2⟩, HQ9, HSQ, HX, hid rfl, hid (by simp), HO9, HE9, HFA, HB9⟩
          case round =>
            obtain ⟨wk, hwk⟩ : ∃ x, x = wr := ⟨_, rfl⟩
            subst hwk
            obtain ⟨A5, n5, c5, k, rl, rfl, rfl, hk, HRL, HOR, HSR, HRI, HRT, HRP, HIO, HER, HFK, HBK⟩ := hrel
            have hk0 : (0 : Int) ≤ (k : Int) := Int.natCast_nonneg _
            by_cases hlt3 : k < n6
            · obtain ⟨⟨⟨po, pn⟩, px⟩, hy⟩ : ∃ x, ps[k]? = some x := ⟨_, List.getElem?_eq_getElem (by rw [HN6.out]; exact hlt3)⟩
              have HY := hid hy
              obtain ⟨bd, bj, rfl, hbb, eb, hbbj, b0, bi⟩ := HER.out.get hy
              have b0 := b0 _ rfl
              have b1 := bi 1 _ (by decide) rfl
              have b2 := bi 2 _ (by decide) rfl
              have eb : bd.add (k * 3) = bj := eb
              have hbj : bj.block < wk.heap.size := by omega
              have hk1 : (k : Int) < (n6 : Int) := by omega
              have HKB := hid (fun W (hW : Below wk.heap.size wk W) => (⟨(hW.cell (p := bj) hbj).trans b0, (hW.cell (p := ⟨bj.block, bj.off + 1, none⟩) hbj).trans b1, (hW.cell (p := ⟨bj.block, bj.off + 2, none⟩) hbj).trans b2⟩ : W.cell? bj = some (.string po) ∧ W.cell? ⟨bj.block, bj.off + 1, none⟩ = some (.string pn) ∧ W.cell? ⟨bj.block, bj.off + 2, none⟩ = some (.string px)))
              have HBB : Hid (bd.block < wk.heap.size) := hid hbb
              have HIN := hid (in_any A5 rl n5 c5 HRL.out.1 (by have := HRL.out; omega) po pn px wk (own_els HOR.out))
              have HPX : Hid (ps.take (k + 1) = ps.take k ++ [((po, pn), px)]) := hid (take_snoc_of hy)
              clear hy hbb hbbj bi
              by_cases hin : ((po, pn), px) ∈ rl
              · rw [decide_eq_true hin] at HIN
                have HPR : Hid (∀ r ∈ ps.take (k + 1), r ∈ rl) := hid (by
                  rw [HPX.out]
                  intro r hr
                  rcases List.mem_append.1 hr with h | h
                  · exact HRP.out r h
                  · rw [List.mem_singleton.1 h]; exact hin)
                clear hin
                go_wp2_with (go_at_call 21; (refine HIN.out.mono ?_); rintro er w10 ⟨rfl, bb⟩; have HB10 := hid bb; clear bb)
                go_roundw
                case rel => exact ⟨A5, n5, c5, k + 1, rl, rfl, by go_num, by omega, HRL, hid (HOR.out.below HB10.out), HSR, HRI, HRT, HPR, hid (HIO.out.below HB10.out), hid ((HER.out.below HB10.out).more HB10.out.size), HFK, hid (HBK.out.trans (HB10.out.mono HBK.out.size))⟩
                case measure => simp [intOf]; omega
              · rw [decide_eq_false hin] at HIN
                have HSN := hid (HSR.out.add (List.mem_of_getElem? HRI.out) HFS.out (List.mem_of_getElem? HY.out) (by have := HRL.out; omega))
                have HGN := hid (addP_get (p := ((po, pn), px)) HRI.out)
                have HTN := hid (addP_take (p := ((po, pn), px)) (l := rl) (j := i) (by have := HRL.out; omega))
                rw [addP_new hin] at HSN HGN HTN
                have HPR : Hid (∀ r ∈ ps.take (k + 1), r ∈ rl ++ [((po, pn), px)]) := hid (by
                  rw [HPX.out]
                  intro r hr
                  rcases List.mem_append.1 hr with h | h
                  · exact List.mem_append.2 (.inl (HRP.out r h))
                  · exact List.mem_append.2 (.inr h))
                have HLN : Hid (rl.length + 1 ≤ 510) := hid (by have := HNB.out _ _ HSN.out; rwa [List.length_append, List.length_singleton] at this)
                clear hin
                go_upto_region 21 with (go_at_call 21; (refine HIN.out.mono ?_); rintro er w10 ⟨rfl, bb⟩; have HB10 := hid bb; clear bb)
                have HB210 : Hid (Below w2.heap.size w2 w10) := hid (HBK.out.trans (HB10.out.mono HBK.out.size))
                clear b0 b1 b2
                obtain ⟨b0, b1, b2⟩ := HKB.out _ HB10.out
                have HOA := hid ((HOR.out.below HB10.out).alloc (.cells #[.string po, .string pn, .string px] 47))
                have HIA := hid ((HIO.out.below HB10.out).alloc (.cells #[.string po, .string pn, .string px] 47))
                have HEA := hid ((HER.out.below HB10.out).below ((Below.refl wk.heap.size w10).alloc HB10.out.size (.cells #[.string po, .string pn, .string px] 47)))
                have HRDs := hid (reads_new w10 #[.string po, .string pn, .string px] 47 (0, 0))
                have HBA := hid (HB210.out.alloc HB210.out.size (.cells #[.string po, .string pn, .string px] 47))
                have hbs : w2.heap.size ≤ (w10.alloc (.cells #[.string po, .string pn, .string px] 47)).heap.size := HBA.out.size
                have hfl : rl.length ≤ 1000000000000 := by have := HRL.out; omega
                have HAP := hid (own_apart HIA.out HOA.out (by decide))
                have HSZ : Hid (wk.heap.size < (w10.alloc (.cells #[.string po, .string pn, .string px] 47)).heap.size) := hid (by rw [World.size_alloc]; have := HB10.out.size; omega)
                go_wp2_with (first | (at_builtin; go_loud (refine wpList_app1 (E := encP) rfl slQ (.tmp 79) (.tmp 84) rfl (B := w2.heap.size) (v := .slice A5 n5 c5) (l := rl) HOA.out rfl (ad := ⟨w10.heap.size, 0, none⟩) (c := 1) ((po, pn), px) rfl HRDs.out hfl (by omega) hbs ?_; intro A11 c11 w11 ho11 hg11 he11; have HO11 := hid ho11; have HB11 := hid (HBA.out.grown hg11 hbs (fun g e => (World.ownsRow.lt HOA.out g e).1)); have HI11 := hid (HIA.out.kept fun g e => hg11.block g (HIA.out.lt g e).2 (fun e2 => HAP.out g e e2.symm)); have HE11 := hid ((HEA.out.keep (w' := w11) fun a6 e6 hb6 => hg11.block a6.block (Nat.lt_trans hb6 HSZ.out) (fun e2 => HFK.out _ e2.symm a6 e6 rfl)).more (Nat.le_trans (Nat.le_of_lt HSZ.out) hg11.size)); have HA11 := hid he11; clear ho11 hg11 he11)) | go_in)
                have HF11 : Hid (∀ g, (Value.slice A11 (rl.length + 1) c11).ownBlock = some g → ∀ a6, some bd = some a6 → g ≠ a6.block) := hid (fun g e a6 e6 => by
                  rcases HA11.out with h | h
                  · exact HFK.out g (by rw [← h]; exact e) a6 e6
                  · rw [h] at e
                    injection e with e
                    injection e6 with e6
                    subst e6
                    have := HSZ.out
                    have := HBB.out
                    omega)
                rw [HRL.out.1] at HO11 HF11 ⊢
                go_roundw
                case rel => exact ⟨A11, n5 + 1, c11, k + 1, rl ++ [((po, pn), px)], rfl, by go_num, by omega, hid ⟨by rw [List.length_append, List.length_singleton, HRL.out.1], by have := HLN.out; have := HRL.out; omega, by have := HRL.out; omega⟩, HO11, HSN, HGN, hid (HTN.out.trans HRT.out), HPR, HI11, HE11, HF11, HB11⟩
                case measure => simp [intOf]; omega
            · obtain rfl : k = n6 := by omega
              have hk1 : ¬ (k : Int) < (k : Int) := by omega
              have HPA : Hid (∀ r ∈ ps, r ∈ rl) := hid (by have := HRP.out; rwa [List.take_of_length_le (by rw [HN6.out]; exact Nat.le_refl _)] at this)
              have HIN2 : Hid ((rl.take (i + 1)).map (idAt cs) = ids ++ [(d, q)]) := hid (by rw [take_snoc_of HRI.out, List.map_append, HRT.out, HIDS.out, List.map_cons, List.map_nil, idAt_fs HFS.out])
              have HSN := hid (HSR.out.next HRI.out HFS.out HPA.out)
              have hi5 : i < 510 := by have := HRL.out; omega
              go_wp2_with fail
              go_roundw
              case rel => exact ⟨A5, n5, c5, A9, c9, i + 1, rl, rfl, rfl, by go_num, by have := HRL.out; omega, hid ⟨HRL.out.1, HRL.out.2.1⟩, HOR, hid (by rw [HIN2.out]; exact HIO.out), HSN, HBK⟩
              case measure => simp [intOf]; omega
        · obtain rfl : i = n3 := by omega
          have hi1 : ¬ (i : Int) < (i : Int) := by omega
          have HTQ : Hid ((ql.take i).map (idAt cs) = ql.map (idAt cs)) := hid (by rw [List.take_of_length_le (by rw [HQL.out.1]; exact Nat.le_refl _)])
          have HON := hid (once_any A4 (ql.map (idAt cs)) i c4 (by rw [List.length_map]; exact HQL.out.1) (by have := HQL.out.2; omega) wi (by rw [← HTQ.out]; exact own_els HOI.out))
          have HFI : Hid (∀ y, y ∈ ql.map (idAt cs) ↔ Needs cs (Tgt rs who) y) := hid (fun y => SpI.needs (by have := HSQ.out; rwa [← HQL.out.1] at this) y)
          go_wp2_with (go_at_call 34; (refine HON.out.mono ?_); rintro er w6 ⟨A6, c6, rfl, ho6, bb⟩; have HO6 := hid ho6; have HB6 := hid bb; clear ho6 bb)
          go_ret2
          obtain ⟨o1, o2, o3⟩ := onceI_all (ql.map (idAt cs))
          have hsz : w.heap.size ≤ wi.heap.size := Nat.le_trans HB2.out.size HBI.out.size
          exact ⟨cs, HCN.out, .inr ⟨HRA.out, A6, c6, _, rfl, o1, fun y => (o3 y).trans (HFI.out y), own_mono' HO6.out hsz⟩, (HB2.out.trans (HBI.out.mono HB2.out.size)).trans (HB6.out.mono hsz)⟩
end Go.Proofs.YtoajckhnneagnaaDoor.Sh
namespace Go.Proofs.YtoajckhnneagnaaDoor.Sh
open Go Go.RowKit

set_option linter.unusedSimpArgs false
set_option linter.unusedVariables false
def OutS (cs : List Crd) (rs : List Rl) (who : ByteArray) (ss : List (Int × Int)) (E : Int) : Prop := ((∃ r ∈ rs, rd cs (r, who) = 0) ∧ ss = [] ∧ E = 16) ∨ ((∀ r ∈ rs, rd cs (r, who) ≠ 0) ∧ SortedI ss ∧ (∀ i, i ∈ ss ↔ Needs cs (Tgt rs who) i) ∧ E = 0)
theorem OutS.same {cs : List Crd} {rs : List Rl} {who : ByteArray} {ss ss' : List (Int × Int)} {E E' : Int} (h : OutS cs rs who ss E) (h' : OutS cs rs who ss' E') : ss = ss' ∧ E = E' := by
  rcases h with ⟨⟨r, hr, h1⟩, h2, h3⟩ | ⟨h1, h2, h3, h4⟩
  · rcases h' with ⟨-, g2, g3⟩ | ⟨g1, -⟩
    · exact ⟨by rw [h2, g2], by rw [h3, g3]⟩
    · exact absurd h1 (g1 r hr)
  · rcases h' with ⟨⟨r, hr, g1⟩, -⟩ | ⟨g1, g2, g3, g4⟩
    · exact absurd g1 (h1 r hr)
    · exact ⟨h2.uniq g2 fun i => (h3 i).trans (g3 i).symm, by rw [h4, g4]⟩
theorem OutS.e {cs : List Crd} {rs : List Rl} {who : ByteArray} {ss : List (Int × Int)} {E : Int} (h : OutS cs rs who ss E) : E = 16 ∨ E = 0 := by
  rcases h with ⟨-, -, h⟩ | ⟨-, -, -, h⟩ <;> simp [h]
theorem SortedI.nodup {l : List (Int × Int)} (h : SortedI l) : l.Nodup := List.Pairwise.imp (fun {x y} hxy (e : x = y) => by subst e; unfold beforeI at hxy; simp only [decide_eq_true_eq] at hxy; omega) h
theorem OutS.len {cs : List Crd} {rs : List Rl} {who : ByteArray} {ss : List (Int × Int)} {E : Int} (h : OutS cs rs who ss E) : ss.length ≤ cs.length := by
  rcases h with ⟨-, h, -⟩ | ⟨-, h2, h3, -⟩
  · rw [h]; simp
  · have h4 : ss.length ≤ (cs.map fun c => (c.d, c.q)).length := nodup_lenA h2.nodup fun i hi => by
      obtain ⟨q, c, ps, -, hf, rfl⟩ := (h3 i).1 hi
      exact List.mem_map.2 ⟨c, fs_mem hf, rfl⟩
    rwa [List.length_map] at h4
theorem cSupportU (A : Option Addr) (all : List Crd) (n c : Nat) (hn : all.length = n) (hc : n ≤ c) (hc2 : c ≤ 9223372036854775807) (hm : n ≤ 30) (who : ByteArray) (hwho : okB who) (Ar : Option Addr) (rs : List Rl) (m cr : Nat) (hrm : rs.length = m) (hm4 : m ≤ 100) (hok : ∀ r ∈ rs, okR r) (w : World) (h : Crs w w.heap.size A all) (hR : Els encR w w.heap.size Ar rs) :
    Calls Tryd.prog 15 #[.slice A n c, .string who, .slice Ar m cr] w fun e w' => ∃ (A' : Option Addr) (k c' : Nat) (ss : List (Int × Int)) (E : Int), e = .returned (.tuple #[.slice A' k c', .int .i64 E]) ∧ ss.length = k ∧ k ≤ n ∧ Els encI w' w'.heap.size A' ss ∧ OutS (cnt8 all) rs who ss E ∧ Below w.heap.size w w' :=
  (cSupport_any A all n c hn hc hc2 (by omega) who hwho Ar rs m cr hrm (by omega) hok w h hR).mono fun e w' ⟨cs, h1, h2, h3⟩ => by
    rw [cnt8_of h1]
    rcases h2 with ⟨h4, h5⟩ | ⟨h4, A', c', ss, h5, h6, h7, h8⟩
    · exact ⟨none, 0, 0, [], 16, h5, rfl, Nat.zero_le _, Els.nil, .inl ⟨h4, rfl, rfl⟩, h3⟩
    · exact ⟨A', ss.length, c', ss, 0, h5, rfl, by have h9 : OutS cs rs who ss 0 := .inr ⟨h4, h6, h7, rfl⟩; have := h9.len; have := counts_len h1; omega, own_els h8, .inr ⟨h4, h6, h7, rfl⟩, h3⟩
theorem rSupportU (A : Option Addr) (all : List Crd) (n c : Nat) (hn : all.length = n) (hm : n ≤ 30) (who : ByteArray) (Ar : Option Addr) (rs : List Rl) (m cr : Nat) (hrm : rs.length = m) (hm4 : m ≤ 100) (w : World) (h : Crs w w.heap.size A all) (hR : Els encR w w.heap.size Ar rs) :
    Calls Tryd.prog 16 #[.slice A n c, .string who, .slice Ar m cr] w fun e w' => ∃ (A' : Option Addr) (k c' : Nat) (ss : List (Int × Int)) (E : Int), e = .returned (.tuple #[.slice A' k c', .int .i64 E]) ∧ ss.length = k ∧ k ≤ n ∧ Els encI w' w'.heap.size A' ss ∧ OutS (cnt8 all) rs who ss E ∧ Below w.heap.size w w' :=
  (refSupport8_any A all n c hn hm who Ar rs m cr hrm hm4 w h hR).mono fun e w' ⟨cs, h1, h2, h3⟩ => by
    rw [cnt8_of h1]
    rcases h2 with ⟨h4, h5⟩ | ⟨h4, A', c', ss, h5, h6, h7, h8⟩
    · exact ⟨none, 0, 0, [], 16, h5, rfl, Nat.zero_le _, Els.nil, .inl ⟨h4, rfl, rfl⟩, h3⟩
    · exact ⟨A', ss.length, c', ss, 0, h5, rfl, by have h9 : OutS cs rs who ss 0 := .inr ⟨h4, h6, h7, rfl⟩; have := h9.len; have := counts_len h1; omega, own_els h8, .inr ⟨h4, h6, h7, rfl⟩, h3⟩
theorem Els.headN {α : Type} {E : Enc α} {w : World} {B : Nat} {A : Option Addr} {l : List α} (k : Nat) (h : Els E w B A l) : Els E w B A (l.take k) := by
  have hsub : ∀ (j : Nat) (u : Value), (ev E (l.take k))[j]? = some u → (ev E l)[j]? = some u := by
    intro j u hu
    have e : ev E l = ev E (l.take k) ++ ev E (l.drop k) := by
      rw [← ev_append, List.take_append_drop]
    have h1 : j < (ev E (l.take k)).length := (List.getElem?_eq_some_iff.1 hu).1
    rw [e, List.getElem?_append_left h1]
    exact hu
  intro hn
  have hn2 : 0 < l.length := by rw [List.length_take] at hn; omega
  obtain ⟨ad, e, hb, hc⟩ := h hn2
  exact ⟨ad, e, hb, fun (j : Nat) (u : Value) hu => hc j u (hsub j u hu)⟩
set_option maxHeartbeats 8000000 in
set_option maxRecDepth 100000 in
theorem chainSupports_walk (A : Option Addr) (l0 : List Crd) (n0 k : Nat) (hn0 : l0.length = n0) (hk0 : n0 ≤ k) (hk2 : k ≤ 9223372036854775807) (who : ByteArray) (hwho : okB who) (Ar : Option Addr) (rs0 : List Rl) (m0 cr : Nat) (hrm : rs0.length = m0) (hmc : m0 ≤ cr) (hc2 : cr ≤ 9223372036854775807) (hok : ∀ r ∈ rs0, okR r) (w : World) (hb : Crs w w.heap.size A l0) (hR : Els encR w w.heap.size Ar rs0) :
    Calls Tryd.prog 4 #[.slice A n0 k, .string who, .slice Ar m0 cr] w fun e w' => e = .returned (.bool true) ∧ Below w.heap.size w w' := by
  have HFE := hid (few8C_any A l0 n0 k hn0 hk0 hk2 w hb)
  have HOK : Hid (okB who ∧ k ≤ 9223372036854775807) := hid ⟨hwho, hk2⟩
  obtain ⟨rs, m, hrs, hm4, hmc', hcase, HRS, HRO⟩ : ∃ (rs : List Rl) (m : Nat), rs.length = m ∧ m ≤ 4 ∧ m ≤ cr ∧ ((4 < m0 ∧ m = 4) ∨ (m0 ≤ 4 ∧ m = m0)) ∧ Hid (∀ W, Below w.heap.size w W → Els encR W W.heap.size Ar rs) ∧ Hid (∀ r ∈ rs, okR r) := by
    by_cases h4 : 4 < m0
    · exact ⟨rs0.take 4, 4, by rw [List.length_take]; omega, Nat.le_refl _, by omega, .inl ⟨h4, rfl⟩, hid (fun W hW => ((hR.below hW).more hW.size).headN 4), hid (fun r hr => hok r (List.mem_of_mem_take hr))⟩
    · exact ⟨rs0, m0, hrm, by omega, hmc, .inr ⟨by omega, rfl⟩, hid (fun W hW => (hR.below hW).more hW.size), hid hok⟩
  have HRL : Hid (rs.length = m ∧ m ≤ 4) := hid ⟨hrs, hm4⟩
  clear hb hn0 hk0 hk2 hwho hR hok hrm hrs hm4
  go_enter Tryd.func4, Tryd.ntmps4
  go_upto_region 2 with (go_at_call 8; (refine HFE.out.mono ?_); rintro er w2 ⟨n, rfl, l, hN, hm, hk, y0, rfl⟩; have HN : Hid (l.length = n ∧ n ≤ 9 ∧ n ≤ k) := hid ⟨hN, hm, hk⟩; have HY := hid (fun W (hW : Below w2.heap.size w2 W) => (y0.below hW).more hW.size); clear hN hm hk y0)
  rcases hcase with ⟨h4, rfl⟩ | ⟨h4, rfl⟩
  all_goals
    first | (have h4i : (4 : Int) < (m0 : Int) := by omega) | (have h4i : ¬ (4 : Int) < (m : Int) := by omega)
    go_upto_region 4 with fail
    clear h4i
    have HS1 := hid (cSupportU A l n k HN.out.1 HN.out.2.2 HOK.out.2 (by have := HN.out; omega) who HOK.out.1 Ar rs _ cr HRL.out.1 (by have := HRL.out; omega) HRO.out w2 (HY.out _ (Below.refl _ _)) (HRS.out _ (Below.refl _ _)))
    go_upto_region 5 with (go_at_call 15; (refine HS1.out.mono ?_); rintro er w3 ⟨A3, k3, c3, ss, E, rfl, hk3, hkn, hel, hou, bb⟩; have HK3 := hid hk3; have HKN := hid hkn; have HEL := hid hel; have HOU := hid hou; have HB3 := hid bb; clear hk3 hkn hel hou bb)
    have HS2 := hid (rSupportU A l n k HN.out.1 (by have := HN.out; omega) who Ar rs _ cr HRL.out.1 (by have := HRL.out; omega) w3 (HY.out _ HB3.out) (HRS.out _ HB3.out))
    go_upto_region 6 with (go_at_call 16; (refine HS2.out.mono ?_); rintro er w4 ⟨A4, k4, c4, ss4, E4, rfl, hk4, -, hel, hou, bb⟩; (obtain ⟨rfl, rfl⟩ := HOU.out.same hou); (obtain rfl : k3 = k4 := by rw [← HK3.out, hk4]); have HE4 := hid hel; have HB4 := hid bb; clear hk4 hel hou bb)
    have hEE : E = 16 ∨ E = 0 := HOU.out.e
    have HL3 : Hid (k3 ≤ 1000000000) := hid (by have := HKN.out; have := HN.out; omega)
    have HSI := hid (sameIDs_eq A3 A4 ss k3 c3 c4 HK3.out HL3.out w4 ((HEL.out.below HB4.out).more HB4.out.size) HE4.out)
    go_upto_region 7 with (go_at_call 17; (refine HSI.out.mono ?_); rintro er w5 ⟨rfl, q5, rfl⟩)
    have HLV := hid (lives8_any (w4.drewN q5))
    rcases hEE with rfl | rfl
    all_goals
      go_wp2_with (go_at_call 14; (refine HLV.out.mono ?_); rintro er w6 ⟨rfl, bb⟩; have HB6 := hid bb; clear bb)
      go_ret
      exact ⟨rfl, (HB3.out.trans (HB4.out.mono HB3.out.size)).trans (((below_drewN (Below.refl w4.heap.size w4) q5).trans HB6.out).mono (Nat.le_trans HB3.out.size HB4.out.size))⟩
end Go.Proofs.YtoajckhnneagnaaDoor.Sh
