/-
  A call of a Go function by its contract, as one step of a region that draws.
-/
import Derived.Test.YtoajckhnneagnaaDoorJc4
import Derived.Deep.RegionLaw
import Derived.Test.YtoajckhnneagnaaDoorJc26
import Derived.Shelf.Abstract
import Derived.Test.YtoajckhnneagnaaDoorJc40
set_option linter.unusedVariables false
set_option linter.unusedSimpArgs false
namespace Go.Proofs.YtoajckhnneagnaaDoor.Sh
open Go Go.RowKit

set_option linter.unusedSimpArgs false
set_option linter.unusedVariables false
theorem step_callG {P : Program} {ops : Array Oper} {o : Oper} {a : Act} {w : World} {K : Act → World → Prop} {Q : Exit → Act → World → Prop} {E : Prop} (hg : o.guard = none) {f : FuncId} {xs : Array Operand} {ts : Array TypeId}
    (hop : o.op = .call { callee := .value (.func f), args := xs, argTypes := ts }) (args : Array Value) (hx : xs.map a.eval = args) {R : Ending → World → Prop} (hC : Calls P f args w R)
    (he : ∀ args w, (callFunc f args).run P w = .ok (.enter f args) w)
    (h : ∀ e w', R e w' → ∃ v, e = .returned v ∧ K (a.put o.dst v) w') :
    if Region.wanted o (yielded ops a.tmps) = true then Oper.wp P o a w K Q else E := by
  have hw : Region.wanted o (yielded ops a.tmps) = true := by simp [Region.wanted, hg]
  rw [if_pos hw]
  unfold Oper.wp
  simp [execOp, hop, resolve, invoke, Result.andThen, hx, Deferred.ofValue, Act.eval, he]
  refine hC.mono fun e w' hr => ?_
  obtain ⟨v, rfl, hk⟩ := h e w' hr
  exact hk
end Go.Proofs.YtoajckhnneagnaaDoor.Sh
namespace Go.Proofs.YtoajckhnneagnaaDoor.Sh
open Go Go.RowKit

set_option linter.unusedVariables false
set_option linter.unusedSimpArgs false
def KeptIn (B : Nat) (v : Value) (w : World) (a : PT) : Prop := ∀ W : World, w.heap.size ≤ W.heap.size → (∀ b, B ≤ b → b < w.heap.size → v.ownBlock ≠ some b → W.heap[b]? = w.heap[b]?) → PIn W W.heap.size a
theorem KeptIn.next {B : Nat} {v v' : Value} {w w5 w6 : World} {a : PT} (h : KeptIn B v w a) (hb : Below w.heap.size w w5) (hg : w5.grownBy w6 v.ownBlock) (hv' : v'.ownBlock = v.ownBlock ∨ v'.ownBlock = some w5.heap.size) : KeptIn B v' w6 a := by
  intro W hW hag
  have h5 := hb.size
  have h6 : w5.heap.size ≤ w6.heap.size := hg.size
  refine h W (by omega) fun b h1 h2 h3 => ?_
  rw [hag b h1 (by omega) (fun e => ?_), hg.block b (by omega) (fun e => h3 e.symm), hb.block b h2]
  rcases hv' with e2 | e2
  · exact h3 (by rw [← e2]; exact e)
  · rw [e2] at e; have := Option.some.inj e; omega
theorem KeptIn.last {B : Nat} {v v' : Value} {wr w5 w5a w6 : World} {a : PT} (h : ∀ W : World, w5.heap.size ≤ W.heap.size → (∀ b, wr.heap.size ≤ b → b < w5.heap.size → W.heap[b]? = w5.heap[b]?) → PIn W W.heap.size a) (hB : B ≤ wr.heap.size) (hb : Below w5.heap.size w5 w5a) (hg : w5a.grownBy w6 v.ownBlock) (hv : ∀ g, v.ownBlock = some g → g < wr.heap.size) (hv' : v'.ownBlock = v.ownBlock ∨ v'.ownBlock = some w5a.heap.size) : KeptIn B v' w6 a := by
  intro W hW hag
  have h5 := hb.size
  have h6 : w5a.heap.size ≤ w6.heap.size := hg.size
  refine h W (by omega) fun b h1 h2 => ?_
  rw [hag b (by omega) (by omega) (fun e => ?_), hg.block b (by omega) (fun e => by have := hv b e.symm; omega), hb.block b h2]
  rcases hv' with e2 | e2
  · have := hv b (by rw [← e2]; exact e); omega
  · rw [e2] at e; have := Option.some.inj e; omega
theorem KeptIn.set {B : Nat} {v : Value} {w w' : World} {a : PT} {g : Nat} (h : KeptIn B v w a) (hs : w'.heap.size = w.heap.size) (hg : g < B) (hf : ∀ b, b ≠ g → w'.heap[b]? = w.heap[b]?) : KeptIn B v w' a := by
  intro W hW hag
  refine h W (by omega) fun b h1 h2 h3 => ?_
  rw [hag b h1 (by omega) h3, hf b (by omega)]
set_option maxHeartbeats 32000000 in
set_option maxRecDepth 100000 in
theorem refProof8_any (cs : List Crd) (nc : Nat) (hnc : cs.length = nc) (hm : nc ≤ 30) (hmay : ∀ c ∈ cs, mayC c = true) (C : Option Addr) (cc : Nat) : ∀ (m : Nat) (p : Pr), rd cs p ≤ m → rd cs p ≠ 0 → ∀ w : World, Crs w w.heap.size C cs →
    Calls Tryd.prog 30 #[.slice C nc cc, .agg #[.string p.1.1, .string p.1.2, .string p.2]] w fun e w' => ∃ T : PT, e = .returned (.agg T.cells.toArray) ∧ (∀ W : World, w'.heap.size ≤ W.heap.size → (∀ b, w.heap.size ≤ b → b < w'.heap.size → W.heap[b]? = w'.heap[b]?) → PIn W W.heap.size T) ∧ Can cs T ∧ T.pr = p ∧ Below w.heap.size w w' := by
  intro m
  induction m with
  | zero => intro p h0 h1; omega
  | succ m ih =>
  intro p hpm hp0 w h
  obtain ⟨⟨o, nm⟩, who⟩ := p
  have HIH := hid ih
  have HNC := hid hnc
  have HMY := hid hmay
  have HPM := hid hpm
  have HLC : Hid (nc ≤ 30) := hid hm
  obtain ⟨w1, hw1⟩ : ∃ w1, w1 = (w.alloc (.cells #[.string o, .string nm, .string who] 47)).alloc (.cells #[.string ⟨#[]⟩, .string ⟨#[]⟩, .string ⟨#[]⟩, .int .i64 0, .int .i64 0, .slice none 0 0] 30) := ⟨_, rfl⟩
  obtain ⟨gp, hgp⟩ : ∃ g, w.heap.size = g := ⟨_, rfl⟩
  obtain ⟨gz, hgz⟩ : ∃ g, gp + 1 = g := ⟨_, rfl⟩
  have HSZ1 : Hid (w1.heap.size = gz + 1) := hid (by rw [hw1, ← hgz, ← hgp]; simp)
  have HGZ : Hid (gp + 1 = gz ∧ w.heap.size = gp) := hid ⟨hgz, hgp⟩
  have HQ1 : Hid (Below w.heap.size w w1) := hid (by rw [hw1]; exact ((Below.refl _ _).alloc (Nat.le_refl _) _).alloc (by simp) _)
  have HP1 : Hid (PrB w1 gp o nm who) := hid (by rw [hw1, ← hgp]; exact keep_alloc8 (PrB.new w _ _ _))
  have HR1 : Hid (w1.heap[gz]? = some (.cells #[.string ⟨#[]⟩, .string ⟨#[]⟩, .string ⟨#[]⟩, .int .i64 0, .int .i64 0, .slice none 0 0] 30 (0, 0))) := hid (by
    have e : gz = (w.alloc (.cells #[.string o, .string nm, .string who] 47)).heap.size := by rw [World.size_alloc, hgp, hgz]
    rw [hw1, e]; exact heap_alloc_new _ _)
  have HCR := hid (fun W (hW : Below w1.heap.size w1 W) => (h.below (HQ1.out.trans (hW.mono HQ1.out.size))).more (Nat.le_trans HQ1.out.size hW.size))
  have HF := hid (refFirst8_any C cs nc cc hnc hm hmay who o nm hp0 w1 (HCR.out _ (Below.refl _ _)))
  obtain ⟨p0, p1, p2⟩ := HP1.out.all
  clear h ih hnc hmay hpm hp0 hm
  go_enter Tryd.func30, Tryd.ntmps30
  go_upto_region 1 with fail
  rw [← hw1]
  try rw [hgp]
  try rw [hgz]
  clear hw1 hgp hgz
  go_upto_region 2 with (go_at_call 33; (refine HF.out.mono ?_); rintro er w2 ⟨⟨d, q, nn, kd, wh, ao, an, bo, bn⟩, ps, A, np, cap, hfs, hnp, rfl, hel, b2⟩; simp only at hfs ⊢; have HFS := hid hfs; have HNP := hid hnp; have HEL := hid hel; have HB2 := hid b2; clear hfs hnp hel b2)
  obtain ⟨w3, hw3⟩ : ∃ x, x = w2.alloc (.cells #[.int .i64 d, .int .i64 q] 27) := ⟨_, rfl⟩
  obtain ⟨gi, hgi⟩ : ∃ x, w2.heap.size = x := ⟨_, rfl⟩
  try rw [← hw3]
  try rw [hgi]
  have HB3 : Hid (Below w1.heap.size w1 w3) := hid (by rw [hw3]; exact HB2.out.alloc HB2.out.size _)
  have HI3 : Hid (w3.heap[gi]? = some (.cells #[.int .i64 d, .int .i64 q] 27 (0, 0))) := hid (by rw [hw3, ← hgi]; exact heap_alloc_new w2 _)
  have HE3 : Hid (Els encP w3 w3.heap.size A ps) := hid (by rw [hw3]; exact (HEL.out.below ((Below.refl _ _).alloc (Nat.le_refl _) _)).more (by simp))
  clear hw3 hgi HEL HB2 p0 p1 p2
  obtain ⟨p0, p1, p2⟩ := (HP1.out.kept HB3.out).all
  have i0 : w3.cell? ⟨gi, 0, none⟩ = some (.int .i64 d) := by rw [cell_of_row w3 gi 0 _ _ (0, 0) HI3.out]; rfl
  have i1 : w3.cell? ⟨gi, 1, none⟩ = some (.int .i64 q) := by rw [cell_of_row w3 gi 1 _ _ (0, 0) HI3.out]; rfl
  obtain ⟨w4, hw4⟩ : ∃ x, x = w3.alloc (.cells #[.string o, .string nm, .string who, .int .i64 d, .int .i64 q, .slice none 0 0] 30) := ⟨_, rfl⟩
  obtain ⟨gq, hgq⟩ : ∃ x, w3.heap.size = x := ⟨_, rfl⟩
  go_upto_region 4 with fail
  rw [← hw4]
  try rw [hgq]
  have HG4 : Hid (w4.heap[gq]? = some (.cells #[.string o, .string nm, .string who, .int .i64 d, .int .i64 q, .slice none 0 0] 30 (0, 0))) := hid (by rw [hw4, ← hgq]; exact heap_alloc_new w3 _)
  have HZ4 : Hid (w4.heap.size = gq + 1 ∧ w1.heap.size ≤ gq) := hid ⟨by rw [hw4, World.size_alloc, hgq], by rw [← hgq]; exact HB3.out.size⟩
  have HB4 : Hid (Below gq w3 w4) := hid (by rw [hw4, ← hgq]; exact (Below.refl _ _).alloc (Nat.le_refl _) _)
  have HB14 : Hid (Below w1.heap.size w1 w4) := hid (HB3.out.trans (HB4.out.mono HZ4.out.2))
  rw [hgq] at HE3
  clear hw4 hgq p0 p1 p2 i0 i1
  have hnp2 : np ≤ 2 := by rw [← HNP.out]; exact fs_len HFS.out
  have HQ : Hid (∀ r ∈ ps, rd cs r ≤ m ∧ rd cs r ≠ 0) := hid (fun r hr => by
    have h1 := rd_lv.1 ((why_mem (fs_why HFS.out)) r hr).1
    have := HPM.out
    omega)
  go_loopg [8] np (fun gk v8 wr => ∃ (j : Nat) (A1 : Option Addr) (c1 : Nat) (out : List PT), v8 = .int .i64 (j : Int) ∧ j + gk = np ∧ Hid (wr.heap[gq]? = some (.cells #[.string o, .string nm, .string who, .int .i64 d, .int .i64 q, .slice A1 j c1] 30 (0, 0))) ∧ Hid (Own (E := encT) wr w4.heap.size 30 (.slice A1 j c1) out) ∧ Hid (out.length = j) ∧ Hid (∀ a ∈ out, KeptIn w4.heap.size (.slice A1 j c1) wr a ∧ Can cs a) ∧ Hid (out.map PT.pr = ps.take j) ∧ Hid (Below gq w4 wr))
  case atStart => exact ⟨0, none, 0, [], rfl, by omega, HG4, hid (Own.nil _ _ _), hid rfl, hid (by simp), hid (by simp), hid (Below.refl _ _)⟩
  case round =>
    obtain ⟨j, A1, c1, out, rfl, hjg, HG, HO, HOL, HOK, HOP, HB⟩ := hrel
    by_cases hlt : j < np
    · obtain ⟨⟨⟨po, pn⟩, px⟩, hx⟩ : ∃ x, ps[j]? = some x := ⟨_, List.getElem?_eq_getElem (by rw [HNP.out]; exact hlt)⟩
      have HX := hid hx
      have hgw : gq < wr.heap.size := (Array.getElem?_eq_some_iff.1 HG.out).1
      obtain ⟨ad2, aj2, rfl, hab, ea, hbj, a0, ai⟩ := (HE3.out.below (HB4.out.trans HB.out)).get hx
      have a0 := a0 _ rfl
      have a1 := ai 1 _ (by decide) rfl
      have a2 := ai 2 _ (by decide) rfl
      have ea : ad2.add (j * 3) = aj2 := ea
      have hj0 : (0 : Int) ≤ (j : Int) := Int.natCast_nonneg _
      have hj1 : (j : Int) < (np : Int) := by omega
      have HBR : Hid (Below w1.heap.size w1 wr) := hid (HB14.out.trans (HB.out.mono HZ4.out.2))
      have hq := HQ.out _ (List.mem_of_getElem? hx)
      have HCALL := hid (fun W (hW : Below wr.heap.size wr W) => HIH.out ((po, pn), px) hq.1 hq.2 W (HCR.out W (HBR.out.trans (hW.mono HBR.out.size))))
      have haj : aj2.block < wr.heap.size := by omega
      have HGA := hid (fun W (hW : Below wr.heap.size wr W) => (hW.block gq hgw).trans HG.out)
      have haq : aj2.block < gq := by omega
      have HKX := hid (fun W (hW : Below gq w4 W) => (have e : W.heap[aj2.block]? = wr.heap[aj2.block]? := (hW.block _ haq).trans (HB.out.block _ haq).symm
        ⟨by rw [← a0]; unfold World.cell?; rw [e], by rw [← a1]; unfold World.cell?; simp only [e], by rw [← a2]; unfold World.cell?; simp only [e]⟩ :
        W.cell? aj2 = some (.string po) ∧ W.cell? ⟨aj2.block, aj2.off + 1, none⟩ = some (.string pn) ∧ W.cell? ⟨aj2.block, aj2.off + 2, none⟩ = some (.string px)))
      have c5 : wr.cell? ⟨gq, 5, none⟩ = some (.slice A1 j c1) := by rw [cell_of_row wr gq 5 _ _ (0, 0) HG.out]; rfl
      have HBDR : Hid (Below gq w4 wr.drew) := hid HB.out.drew
      have hfl : out.length ≤ 1000000000000 := by have := HOL.out; omega
      have HDD : Hid (Below wr.heap.size wr wr.drew) := hid (Below.refl wr.heap.size wr).drew
      have HGW := hid hgw
      have HB4W : Hid (w4.heap.size ≤ wr.heap.size) := hid HB.out.size
      have HOT := hid (fun g (e : (Value.slice A1 j c1).ownBlock = some g) => HO.out.lt g e)
      clear hx hab hbj a0 a1 a2 ai haj hq hgw haq
      go_upto_region 6 with fail
      obtain ⟨a0, a1, a2⟩ := HKX.out _ HBDR.out
      go_region_law
        ((first
          | (refine step_callG (by rfl) (f := 30) (by rfl) _ (by simp [Act.eval]) (HCALL.out _ HDD.out) (enters_of Tryd.func30 (by kernel_rfl) rfl) ?_; rintro er w5 ⟨⟨To, Tn, Tx, Td, Tq, TA, Tc, Tps⟩, rfl, hpin, hcan, hpr, b5⟩; have BC : Hid (Below wr.heap.size wr w5) := hid (HDD.out.trans b5); have HPI := hid hpin; have HCN := hid hcan; have HPR := hid hpr; have HO5 := hid (HO.out.below BC.out); have HG5 := hid (HGA.out w5 BC.out); have HB5 : Hid (Below gq w4 w5) := hid (HB.out.trans (BC.out.mono (Nat.le_of_lt HGW.out))); have c55 : w5.cell? ⟨gq, 5, none⟩ = some (.slice A1 j c1) := (by rw [cell_of_row w5 gq 5 _ _ (0, 0) HG5.out]; rfl); have c56 : (w5.alloc (.cells (PT.cells (.mk To Tn Tx Td Tq TA Tc Tps)).toArray 30)).cell? ⟨gq, 5, none⟩ = some (.slice A1 j c1) := (by rw [cell_of_row _ gq 5 _ _ (0, 0) (keep_alloc8 HG5.out)]; rfl); have hbs5 : w4.heap.size ≤ (w5.alloc (.cells (PT.cells (.mk To Tn Tx Td Tq TA Tc Tps)).toArray 30)).heap.size := (by have := HB4W.out; have := BC.out.size; simp; omega); simp only [PT.cells] at hbs5 c56 ⊢; clear hpin hcan hpr b5; refine ⟨_, rfl, ?_⟩)
          | (refine step_appW (E := encT) (by rfl) slT (.tmp 28) (.tmp 35) (by rfl) (B := w4.heap.size) (v := .slice A1 j c1) (l := out) (HO5.out.alloc _) (by rfl) (ad := ⟨w5.heap.size, 0, none⟩) (c := 1) (.mk To Tn Tx Td Tq TA Tc Tps) (by rfl) (reads_new w5 #[.string To, .string Tn, .string Tx, .int .i64 Td, .int .i64 Tq, .slice TA Tps.length Tc] 30 (0, 0)) hfl (by decide) hbs5 ?_; intro A' c' w6 ho6 hg6 hl6; rw [HOL.out] at ho6 hl6 ⊢; have HO6 := hid ho6; have HNXT : Hid (∀ a, KeptIn w4.heap.size (.slice A1 j c1) wr a → KeptIn w4.heap.size (.slice A' (j + 1) c') w6 a) := hid (fun a ha => ha.next (BC.out.alloc BC.out.size _) hg6 hl6); have HLST : Hid (KeptIn w4.heap.size (.slice A' (j + 1) c') w6 (.mk To Tn Tx Td Tq TA Tc Tps)) := hid (KeptIn.last (wr := wr) HPI.out HB4W.out ((Below.refl w5.heap.size w5).alloc (Nat.le_refl _) _) hg6 (fun g e => (HOT.out g e).2) hl6); have HG6 := hid ((hg6.block gq (by have := HGW.out; have := BC.out.size; simp; omega) (fun e => by have := (HOT.out gq e.symm).1; have := HZ4.out; omega)).trans (keep_alloc8 HG5.out)); have HB6 : Hid (Below gq w4 w6) := hid (((HB.out.trans (BC.out.mono (Nat.le_of_lt HGW.out))).alloc (by have := HGW.out; have := BC.out.size; omega) _).grown hg6 (by have := HGW.out; have := BC.out.size; simp; omega) (fun g e => by have := (HOT.out g e).1; have := HZ4.out; omega)); have c66 : w6.cell? ⟨gq, 5, none⟩ = some (.slice A1 j c1) := (by rw [cell_of_row w6 gq 5 _ _ (0, 0) HG6.out]; rfl); have y5 := frozen_of_row w6 gq 5 _ _ HG6.out; clear hg6 hl6 ho6)))
      all_goals
        obtain ⟨w7, hw7⟩ : ∃ x, x = w6.setCell ⟨gq, 5, none⟩ (.slice A' (j + 1) c') := ⟨_, rfl⟩
        have hfar : ∀ b, b ≠ gq → w7.heap[b]? = w6.heap[b]? := fun b hb => by rw [hw7]; exact Below.heap_setCell _ _ _ _ hb
        have hs7 : w7.heap.size = w6.heap.size := by rw [hw7]; simp
        have hg4 : gq < w4.heap.size := by have := HZ4.out; omega
        have HG7 : Hid (w7.heap[gq]? = some (.cells #[.string o, .string nm, .string who, .int .i64 d, .int .i64 q, .slice A' (j + 1) c'] 30 (0, 0))) := hid (by rw [hw7, heap_setCell_same w6 gq 5 _ _ _ HG6.out]; rfl)
        have HO7 := hid (HO6.out.kept (w' := w7) fun g e => hfar g (by have := (HO6.out.lt g e).1; omega))
        have HB7 : Hid (Below gq w4 w7) := hid (by rw [hw7]; exact HB6.out.setCell (p := ⟨gq, 5, none⟩) (Nat.le_refl _) _)
        have HK7 : Hid (∀ a ∈ out ++ [PT.mk To Tn Tx Td Tq TA Tc Tps], KeptIn w4.heap.size (.slice A' (j + 1) c') w7 a ∧ Can cs a) := hid (fun a ha => by
          rcases List.mem_append.1 ha with h1 | h1
          · exact ⟨(HNXT.out a (HOK.out a h1).1).set hs7 hg4 hfar, (HOK.out a h1).2⟩
          · rw [List.mem_singleton] at h1
            subst h1
            exact ⟨HLST.out.set hs7 hg4 hfar, HCN.out⟩)
        have HM7 : Hid ((out ++ [PT.mk To Tn Tx Td Tq TA Tc Tps]).map PT.pr = ps.take (j + 1)) := hid (by rw [List.map_append, HOP.out, take_snoc_of HX.out, List.map_singleton, HPR.out])
        have HL7 : Hid ((out ++ [PT.mk To Tn Tx Td Tq TA Tc Tps]).length = j + 1) := hid (by simp [HOL.out])
        try rw [← hw7]
        clear hfar hs7 hg4 hw7 c66 y5 c5 c55 c56
        go_wp2_with fail
        go_roundg (gk - 1)
        case rel => exact ⟨j + 1, A', c', _, by go_num, by omega, HG7, HO7, HL7, HK7, HM7, HB7⟩
        case measure => omega
    · obtain rfl : j = np := by omega
      have hg := HG.out
      have c0 : wr.cell? ⟨gq, 0, none⟩ = some (.string o) := by rw [cell_of_row wr gq 0 _ _ (0, 0) hg]; rfl
      have c1' : wr.cell? ⟨gq, 1, none⟩ = some (.string nm) := by rw [cell_of_row wr gq 1 _ _ (0, 0) hg]; rfl
      have c2 : wr.cell? ⟨gq, 2, none⟩ = some (.string who) := by rw [cell_of_row wr gq 2 _ _ (0, 0) hg]; rfl
      have c3 : wr.cell? ⟨gq, 3, none⟩ = some (.int .i64 d) := by rw [cell_of_row wr gq 3 _ _ (0, 0) hg]; rfl
      have c4 : wr.cell? ⟨gq, 4, none⟩ = some (.int .i64 q) := by rw [cell_of_row wr gq 4 _ _ (0, 0) hg]; rfl
      have c5 : wr.cell? ⟨gq, 5, none⟩ = some (.slice A1 j c1) := by rw [cell_of_row wr gq 5 _ _ (0, 0) hg]; rfl
      have HRZ : Hid (wr.heap[gz]? = some (.cells #[.string ⟨#[]⟩, .string ⟨#[]⟩, .string ⟨#[]⟩, .int .i64 0, .int .i64 0, .slice none 0 0] 30 (0, 0))) := hid (by
        have h1 := HSZ1.out
        have h2 := HZ4.out
        rw [HB.out.block gz (by omega), HB14.out.block gz (by omega)]
        exact HR1.out)
      have z0 : wr.cell? ⟨gz, 0, none⟩ = some (.string ⟨#[]⟩) := by rw [cell_of_row wr gz 0 _ _ (0, 0) HRZ.out]; rfl
      have z1 : wr.cell? ⟨gz, 1, none⟩ = some (.string ⟨#[]⟩) := by rw [cell_of_row wr gz 1 _ _ (0, 0) HRZ.out]; rfl
      have z2 : wr.cell? ⟨gz, 2, none⟩ = some (.string ⟨#[]⟩) := by rw [cell_of_row wr gz 2 _ _ (0, 0) HRZ.out]; rfl
      have z3 : wr.cell? ⟨gz, 3, none⟩ = some (.int .i64 0) := by rw [cell_of_row wr gz 3 _ _ (0, 0) HRZ.out]; rfl
      have z4 : wr.cell? ⟨gz, 4, none⟩ = some (.int .i64 0) := by rw [cell_of_row wr gz 4 _ _ (0, 0) HRZ.out]; rfl
      have z5 : wr.cell? ⟨gz, 5, none⟩ = some (.slice none 0 0) := by rw [cell_of_row wr gz 5 _ _ (0, 0) HRZ.out]; rfl
      have y0 := frozen_of_row wr gz 0 _ _ HRZ.out
      have y1 := frozen_of_row wr gz 1 _ _ HRZ.out
      have y2 := frozen_of_row wr gz 2 _ _ HRZ.out
      have y3 := frozen_of_row wr gz 3 _ _ HRZ.out
      have y4 := frozen_of_row wr gz 4 _ _ HRZ.out
      have y5 := frozen_of_row wr gz 5 _ _ HRZ.out
      obtain ⟨w9, hw9⟩ : ∃ w9, w9 = ((((((wr.setCell ⟨gz, 0, none⟩ (.string o)).setCell ⟨gz, 1, none⟩ (.string nm)).setCell ⟨gz, 2, none⟩ (.string who)).setCell ⟨gz, 3, none⟩ (.int .i64 d)).setCell ⟨gz, 4, none⟩ (.int .i64 q)).setCell ⟨gz, 5, none⟩ (.slice A1 j c1)) := ⟨_, rfl⟩
      have HR9 : Hid (w9.heap[gz]? = some (.cells #[.string o, .string nm, .string who, .int .i64 d, .int .i64 q, .slice A1 j c1] 30 (0, 0))) := hid (by rw [hw9]; exact set_six HRZ.out)
      have hfar : ∀ b, b ≠ gz → w9.heap[b]? = wr.heap[b]? := fun b hb => by
        rw [hw9]
        rw [Below.heap_setCell _ _ _ _ hb, Below.heap_setCell _ _ _ _ hb, Below.heap_setCell _ _ _ _ hb, Below.heap_setCell _ _ _ _ hb, Below.heap_setCell _ _ _ _ hb, Below.heap_setCell _ _ _ _ hb]
      have hsz9 : w9.heap.size = wr.heap.size := by rw [hw9]; simp
      have HBW : Hid (Below w.heap.size w wr) := hid (HQ1.out.trans ((HB14.out.trans (HB.out.mono HZ4.out.2)).mono HQ1.out.size))
      have HB9 : Hid (Below w.heap.size w w9) := hid (by
        rw [hw9]
        exact HBW.out.trans (six_below (k6 := 0) (by have := HGZ.out; omega) _ _ _ _ _ _))
      have hwz : w.heap.size ≤ w4.heap.size := by have := HGZ.out; have := HSZ1.out; have := HZ4.out; omega
      have HFIN : Hid (∀ W : World, w9.heap.size ≤ W.heap.size → (∀ b, w.heap.size ≤ b → b < w9.heap.size → W.heap[b]? = w9.heap[b]?) → PIn W W.heap.size (.mk o nm who d q A1 c1 out)) := hid (by
        intro W hW hag
        obtain ⟨A2, c2', e, h1, h2, h3⟩ := HO.out.els
        rw [HOL.out] at e
        simp only [Value.slice.injEq] at e
        obtain ⟨rfl, -, rfl⟩ := e
        have hgz : gz < w4.heap.size := by have := HSZ1.out; have := HZ4.out; omega
        have hkeep : ∀ b, w4.heap.size ≤ b → b < wr.heap.size → W.heap[b]? = wr.heap[b]? := fun b g1 g2 => by
          rw [hag b (by omega) (by omega), hfar b (by omega)]
        refine .mk (may_okI (HMY.out _ (fs_mem HFS.out))) h1 h2 ?_ fun a ha => (HOK.out a ha).1 W (by omega) fun b g1 g2 _ => hkeep b g1 g2
        rcases Nat.eq_zero_or_pos out.length with h0 | h0
        · exact fun hn => absurd hn (by omega)
        · refine (h3.keep fun ad e hb => ?_).more (by omega)
          obtain ⟨gr, e2, g1, g2⟩ := own_some HO.out h0
          rw [e2] at e
          injection e with e
          subst e
          exact hkeep gr g1 g2)
      have HCAN : Hid (Can cs (.mk o nm who d q A1 c1 out)) := hid (.mk HFS.out rfl rfl (by rw [show (PT.mk o nm who d q A1 c1 out).ps = out from rfl, HOP.out, List.take_of_length_le (by rw [HNP.out]; exact Nat.le_refl _)]) fun a ha => (HOK.out a ha).2)
      have HOL2 := hid HOL.out
      clear hfar hsz9 hwz
      go_wp2_with fail
      rw [← hw9]
      refine bodyPost_ret (results_cellP (h := Tryd.results30) _ _ gz 0 [.string o, .string nm, .string who, .int .i64 d, .int .i64 q, .slice A1 j c1] _ rfl (range_row HR9.out) Tryd.underlying30 rfl info_proof) rfl ?_
      exact ⟨.mk o nm who d q A1 c1 out, by unfold PT.cells; simp only [HOL2.out], HFIN.out, HCAN.out, rfl, HB9.out⟩
end Go.Proofs.YtoajckhnneagnaaDoor.Sh
namespace Go.Proofs.YtoajckhnneagnaaDoor.Sh
open Go Go.RowKit
open Go.Maps (Keyed)

set_option linter.unusedVariables false
set_option linter.unusedSimpArgs false
theorem Rkd.eta {L : Ly} {who : ByteArray} {x : Sx} (h : Rkd L who x) : x = ⟨x.s, fun _ => none, 0, []⟩ := by
  obtain ⟨s, re, nr, la⟩ := x
  have h1 := h.re
  have h2 := h.nr
  have h3 := h.la
  simp only at h1 h2 h3
  rw [h1, h2, h3]
set_option maxHeartbeats 16000000 in
set_option maxRecDepth 100000 in
theorem cFindW_any (A : Option Addr) (all : List Crd) (n c : Nat) (hn : all.length = n) (hc : n ≤ c) (hc2 : c ≤ 9223372036854775807) (hm : n ≤ 50) (who o nm : ByteArray) (hwho : okB who) (ho : okB o) (hnm : okB nm) (w : World) (h : Crs w w.heap.size A all) :
    Calls Tryd.prog 9 #[.slice A n c, .string who, .agg #[.string o, .string nm]] w fun e w' => ∃ cs, CountsOf cs all ∧ ((rd cs ((o, nm), who) = 0 ∧ e = .returned (.tuple #[.agg zeroT.cells.toArray, .int .i64 16])) ∨ (rd cs ((o, nm), who) ≠ 0 ∧ ∃ V : Array Value, e = .returned (.tuple #[.agg V, .int .i64 0]) ∧ ∀ W : World, w'.heap.size ≤ W.heap.size → (∀ b, w.heap.size ≤ b → b < w'.heap.size → W.heap[b]? = w'.heap[b]?) → ∃ T : PT, V = T.cells.toArray ∧ PIn W W.heap.size T ∧ Can cs T ∧ T.pr = ((o, nm), who))) ∧ Below w.heap.size w w' := by
  obtain ⟨w1, hw1⟩ : ∃ w1, w1 = (w.alloc (.cells #[.string o, .string nm] 24)).alloc (.cells #[.string ⟨#[]⟩, .string ⟨#[]⟩, .string ⟨#[]⟩, .int .i64 0, .int .i64 0, .slice none 0 0] 30) := ⟨_, rfl⟩
  obtain ⟨gp, hgp⟩ : ∃ g, w.heap.size = g := ⟨_, rfl⟩
  have HGP := hid hgp
  have HQ1 : Hid (Below w.heap.size w w1) := hid (by rw [hw1]; exact ((Below.refl _ _).alloc (Nat.le_refl _) _).alloc (by simp) _)
  have HRO : Hid (RoleAt w1 gp o nm) := hid (by rw [hw1]; exact keep_alloc (by rw [← hgp]; exact RoleAt.new w o nm))
  have HRZ : Hid (w1.heap[gp + 1]? = some (.cells #[.string ⟨#[]⟩, .string ⟨#[]⟩, .string ⟨#[]⟩, .int .i64 0, .int .i64 0, .slice none 0 0] 30 (0, 0))) := hid (by rw [hw1]; exact new_at (by simp [hgp]))
  have HRK := hid (ranked_any A all n c hn hc hc2 hm who hwho w1 ((h.below HQ1.out).more HQ1.out.size))
  have HOK : Hid (okP ((o, nm), who)) := hid ⟨⟨ho, hnm⟩, hwho⟩
  clear h hn hc hc2 hm hwho ho hnm
  go_enter Tryd.func9, Tryd.ntmps9
  go_upto_region 1 with fail
  rw [← hw1]
  clear hw1
  try rw [hgp]
  clear hgp
  go_upto_region 2 with (go_at_call 27; (refine HRK.out.mono ?_); rintro er w2 ⟨L, vF, col, x, rfl, hco, hLB, hsea, hrk, bb⟩; have HCO := hid hco; have HS2 := hid hsea; have HRX := hid hrk; have HB2 := hid bb; have HLB := hid hLB; clear hco hLB hsea hrk bb)
  have HR2 := hid (HRO.out.kept HB2.out)
  have HZ2 := hid ((HB2.out.block _ (Array.getElem?_eq_some_iff.1 HRZ.out).1).trans HRZ.out)
  have r0 := HR2.out.c0
  have r1 := HR2.out.c1
  obtain ⟨w3, hw3⟩ : ∃ w3, w3 = w2.alloc (.cells #[.string o, .string nm, .string who] 58) := ⟨_, rfl⟩
  obtain ⟨gq, hgq⟩ : ∃ g, w2.heap.size = g := ⟨_, rfl⟩
  go_upto_region 3 with fail
  rw [← hw3]
  try rw [hgq]
  have HB3 : Hid (Below w2.heap.size w2 w3) := hid (by rw [hw3]; exact (Below.refl _ _).alloc (Nat.le_refl _) _)
  have HP3 : Hid (PrA w3 gq o nm who) := hid (by rw [hw3, ← hgq]; exact PrA.new w2 _ _ _)
  have HGQ : Hid (col gq = none) := hid (HS2.out.free (by omega))
  clear hw3 hgq r0 r1
  have hs3 := HS2.out.below HB3.out
  rw [HRX.out.eta] at hs3
  have HS3 := hid hs3
  have HZ3 := hid ((HB3.out.block _ (Array.getElem?_eq_some_iff.1 HZ2.out).1).trans HZ2.out)
  have hpe : who ∈ L.pe := HRX.out.me
  obtain ⟨k0, k1, k2⟩ := HP3.out.all
  have HBW : Hid (Below w.heap.size w w3) := hid (HQ1.out.trans ((HB2.out.mono HQ1.out.size).trans (HB3.out.mono (Nat.le_trans HQ1.out.size HB2.out.size))))
  clear hs3
  by_cases hrd : rd L.cs ((o, nm), who) = 0
  · have HF := hid (find_no HRX.out.sch ((o, nm), who) HOK.out hpe hrd w3 _ _ HS3.out)
    have HRD := hid hrd
    clear hrd hpe
    go_upto_region 4 with (go_at_call 28; (refine HF.out.mono ?_); rintro er w4 ⟨rfl, bb⟩; have HB4 := hid bb; clear bb)
    have HZ4 := hid ((HB4.out.block _ (Array.getElem?_eq_some_iff.1 HZ3.out).1).trans HZ3.out)
    have z0 : w4.cell? ⟨gp + 1, 0, none⟩ = some (.string ⟨#[]⟩) := by rw [cell_of_row w4 _ 0 _ _ (0, 0) HZ4.out]; rfl
    have z1 : w4.cell? ⟨gp + 1, 1, none⟩ = some (.string ⟨#[]⟩) := by rw [cell_of_row w4 _ 1 _ _ (0, 0) HZ4.out]; rfl
    have z2 : w4.cell? ⟨gp + 1, 2, none⟩ = some (.string ⟨#[]⟩) := by rw [cell_of_row w4 _ 2 _ _ (0, 0) HZ4.out]; rfl
    have z3 : w4.cell? ⟨gp + 1, 3, none⟩ = some (.int .i64 0) := by rw [cell_of_row w4 _ 3 _ _ (0, 0) HZ4.out]; rfl
    have z4 : w4.cell? ⟨gp + 1, 4, none⟩ = some (.int .i64 0) := by rw [cell_of_row w4 _ 4 _ _ (0, 0) HZ4.out]; rfl
    have z5 : w4.cell? ⟨gp + 1, 5, none⟩ = some (.slice none 0 0) := by rw [cell_of_row w4 _ 5 _ _ (0, 0) HZ4.out]; rfl
    have y0 := frozen_of_row w4 (gp + 1) 0 _ _ HZ4.out
    have y1 := frozen_of_row w4 (gp + 1) 1 _ _ HZ4.out
    have y2 := frozen_of_row w4 (gp + 1) 2 _ _ HZ4.out
    have y3 := frozen_of_row w4 (gp + 1) 3 _ _ HZ4.out
    have y4 := frozen_of_row w4 (gp + 1) 4 _ _ HZ4.out
    have y5 := frozen_of_row w4 (gp + 1) 5 _ _ HZ4.out
    obtain ⟨w9, hw9⟩ : ∃ w9, w9 = (((((w4.setCell ⟨gp + 1, 0, none⟩ (.string ⟨#[]⟩)).setCell ⟨gp + 1, 1, none⟩ (.string ⟨#[]⟩)).setCell ⟨gp + 1, 2, none⟩ (.string ⟨#[]⟩)).setCell ⟨gp + 1, 3, none⟩ (.int .i64 0)).setCell ⟨gp + 1, 4, none⟩ (.int .i64 0)).setCell ⟨gp + 1, 5, none⟩ (.slice none 0 0) := ⟨_, rfl⟩
    have HR9 : Hid (w9.heap[gp + 1]? = some (.cells #[.string ⟨#[]⟩, .string ⟨#[]⟩, .string ⟨#[]⟩, .int .i64 0, .int .i64 0, .slice none 0 0] 30 (0, 0))) := hid (by rw [hw9]; exact set_six HZ4.out)
    have HB9 : Hid (Below w.heap.size w w9) := hid (by rw [hw9]; exact (HBW.out.trans (HB4.out.mono HBW.out.size)).trans (six_below (by rw [HGP.out]; omega) _ _ _ _ _ _ (k6 := 0)))
    go_wp2_with fail
    rw [← hw9]
    refine bodyPost_ret (results_cell_tmp (h := Tryd.results9) _ _ (gp + 1) 0 [.string ⟨#[]⟩, .string ⟨#[]⟩, .string ⟨#[]⟩, .int .i64 0, .int .i64 0, .slice none 0 0] _ rfl (range_row HR9.out) Tryd.underlying30 rfl info_proof) rfl ?_
    exact ⟨L.cs, HCO.out, .inl ⟨HRD.out, rfl⟩, HB9.out⟩
  · have HF := hid (find_yes HRX.out.sch ((o, nm), who) HOK.out hpe hrd w3 _ _ HS3.out ReI.zero)
    have HRD := hid hrd
    clear hrd hpe
    go_upto_region 5 with (go_at_call 28; (refine HF.out.mono ?_); rintro er w4 ⟨rfl, vL', col', re', nr', hsea4, hri4, hex4, hhas4, hx4⟩; have HS4 := hid hsea4; have HRI4 := hid hri4; have HEX4 := hid hex4; have HHAS := hid hhas4; have HX4 := hid hx4; clear hsea4 hri4 hex4 hhas4 hx4)
    have HB4 : Hid (Below w1.heap.size w3 w4) := hid (HX4.out.below (by rw [← HLB.out]; exact HS3.out.low) (Nat.le_trans HB2.out.size HB3.out.size))
    have HP4 : Hid (PrA w4 gq o nm who) := hid ((HX4.out.free HP3.out.lt HGQ.out).trans HP3.out)
    have HZ4 := hid ((HB4.out.block _ (Array.getElem?_eq_some_iff.1 HRZ.out).1).trans HZ3.out)
    have HG4 : Hid (gp + 1 < w4.heap.size) := hid (Array.getElem?_eq_some_iff.1 HZ4.out).1
    have HPF := hid (proof_any HRX.out.sch ((o, nm), who) w4 re' nr' HS4.out HRI4.out (HEX4.out.shuts (fun q i ps h => by cases h)) HHAS.out)
    obtain ⟨m0, m1, m2⟩ := HP4.out.all
    clear k0 k1 k2
    go_wp2_with (go_at_call 29; (refine HPF.out.mono ?_); rintro er w5 ⟨V, rfl, hV, bb⟩; have HB5 := hid bb; have HV := hid hV; (obtain ⟨⟨To, Tn, Tx, Td, Tq, TA, Tc, Tps⟩, rfl, -⟩ := hV w5 (Nat.le_refl _) (fun b _ _ => rfl)); have HZ5 := hid ((bb.block _ HG4.out).trans HZ4.out); clear hV bb; simp only [PT.cells]; have z0 : w5.cell? ⟨gp + 1, 0, none⟩ = some (.string ⟨#[]⟩) := (by rw [cell_of_row w5 _ 0 _ _ (0, 0) HZ5.out]; rfl); have z1 : w5.cell? ⟨gp + 1, 1, none⟩ = some (.string ⟨#[]⟩) := (by rw [cell_of_row w5 _ 1 _ _ (0, 0) HZ5.out]; rfl); have z2 : w5.cell? ⟨gp + 1, 2, none⟩ = some (.string ⟨#[]⟩) := (by rw [cell_of_row w5 _ 2 _ _ (0, 0) HZ5.out]; rfl); have z3 : w5.cell? ⟨gp + 1, 3, none⟩ = some (.int .i64 0) := (by rw [cell_of_row w5 _ 3 _ _ (0, 0) HZ5.out]; rfl); have z4 : w5.cell? ⟨gp + 1, 4, none⟩ = some (.int .i64 0) := (by rw [cell_of_row w5 _ 4 _ _ (0, 0) HZ5.out]; rfl); have z5 : w5.cell? ⟨gp + 1, 5, none⟩ = some (.slice none 0 0) := (by rw [cell_of_row w5 _ 5 _ _ (0, 0) HZ5.out]; rfl); have y0 := frozen_of_row w5 (gp + 1) 0 _ _ HZ5.out; have y1 := frozen_of_row w5 (gp + 1) 1 _ _ HZ5.out; have y2 := frozen_of_row w5 (gp + 1) 2 _ _ HZ5.out; have y3 := frozen_of_row w5 (gp + 1) 3 _ _ HZ5.out; have y4 := frozen_of_row w5 (gp + 1) 4 _ _ HZ5.out; have y5 := frozen_of_row w5 (gp + 1) 5 _ _ HZ5.out)
    obtain ⟨w9, hw9⟩ : ∃ w9, w9 = ((((((w5.setCell ⟨gp + 1, 0, none⟩ (.string To)).setCell ⟨gp + 1, 1, none⟩ (.string Tn)).setCell ⟨gp + 1, 2, none⟩ (.string Tx)).setCell ⟨gp + 1, 3, none⟩ (.int .i64 Td)).setCell ⟨gp + 1, 4, none⟩ (.int .i64 Tq)).setCell ⟨gp + 1, 5, none⟩ (.slice TA Tps.length Tc)) := ⟨_, rfl⟩
    have HR9 : Hid (w9.heap[gp + 1]? = some (.cells #[.string To, .string Tn, .string Tx, .int .i64 Td, .int .i64 Tq, .slice TA Tps.length Tc] 30 (0, 0))) := hid (by rw [hw9]; exact set_six HZ5.out)
    have hbel5 : Below w.heap.size w w5 := HBW.out.trans ((HB4.out.mono HQ1.out.size).trans (HB5.out.mono (Nat.le_trans HBW.out.size HB4.out.size)))
    have HB9 : Hid (Below w.heap.size w w9) := hid (by rw [hw9]; exact hbel5.trans (six_below (by rw [HGP.out]; omega) _ _ _ _ _ _ (k6 := 0)))
    have hsz5 : w9.heap.size = w5.heap.size := by rw [hw9]; simp
    have hlow : w.heap.size ≤ w4.heap.size := Nat.le_trans HBW.out.size HB4.out.size
    have HFIN : Hid (∀ W : World, w9.heap.size ≤ W.heap.size → (∀ b, w.heap.size ≤ b → b < w9.heap.size → W.heap[b]? = w9.heap[b]?) → ∃ T : PT, (#[.string To, .string Tn, .string Tx, .int .i64 Td, .int .i64 Tq, .slice TA Tps.length Tc] : Array Value) = T.cells.toArray ∧ PIn W W.heap.size T ∧ Can L.cs T ∧ T.pr = ((o, nm), who)) := hid (fun W hW hag => by
      refine HV.out W (by rw [← hsz5]; exact hW) fun b h1 h2 => ?_
      have hb : b ≠ gp + 1 := by have := HG4.out; omega
      rw [hag b (Nat.le_trans hlow h1) (by rw [hsz5]; exact h2)]
      rw [hw9, Below.heap_setCell _ _ _ _ hb, Below.heap_setCell _ _ _ _ hb, Below.heap_setCell _ _ _ _ hb, Below.heap_setCell _ _ _ _ hb, Below.heap_setCell _ _ _ _ hb, Below.heap_setCell _ _ _ _ hb])
    clear hsz5 hlow
    try rw [← hw9]
    clear hbel5
    refine bodyPost_ret (results_cell_tmp (h := Tryd.results9) _ _ (gp + 1) 0 [.string To, .string Tn, .string Tx, .int .i64 Td, .int .i64 Tq, .slice TA Tps.length Tc] _ rfl (range_row HR9.out) Tryd.underlying30 rfl info_proof) rfl ?_
    exact ⟨L.cs, HCO.out, .inr ⟨HRD.out, _, rfl, HFIN.out⟩, HB9.out⟩
theorem cFind_any (A : Option Addr) (all : List Crd) (n c : Nat) (hn : all.length = n) (hc : n ≤ c) (hc2 : c ≤ 9223372036854775807) (hm : n ≤ 50) (who o nm : ByteArray) (hwho : okB who) (ho : okB o) (hnm : okB nm) (w : World) (h : Crs w w.heap.size A all) :
    Calls Tryd.prog 9 #[.slice A n c, .string who, .agg #[.string o, .string nm]] w fun e w' => ∃ cs, CountsOf cs all ∧ ((rd cs ((o, nm), who) = 0 ∧ e = .returned (.tuple #[.agg zeroT.cells.toArray, .int .i64 16])) ∨ (rd cs ((o, nm), who) ≠ 0 ∧ ∃ T : PT, e = .returned (.tuple #[.agg T.cells.toArray, .int .i64 0]) ∧ PIn w' w'.heap.size T ∧ Can cs T ∧ T.pr = ((o, nm), who))) ∧ Below w.heap.size w w' :=
  (cFindW_any A all n c hn hc hc2 hm who o nm hwho ho hnm w h).mono fun e w' ⟨cs, h1, h2, h3⟩ => ⟨cs, h1, by
    rcases h2 with h2 | ⟨h4, V, h5, h6⟩
    · exact .inl h2
    · obtain ⟨T, g1, g2⟩ := h6 w' (Nat.le_refl _) fun b _ _ => rfl
      exact .inr ⟨h4, T, by rw [h5, g1], g2⟩, h3⟩
end Go.Proofs.YtoajckhnneagnaaDoor.Sh
