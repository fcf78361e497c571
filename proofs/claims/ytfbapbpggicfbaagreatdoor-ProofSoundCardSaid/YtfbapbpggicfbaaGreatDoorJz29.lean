/-
  The program's Check, by contract.
-/
import Derived.Test.YtfbapbpggicfbaaGreatDoorJz19
import Derived.Test.YtfbapbpggicfbaaGreatDoorJz28
set_option linter.unusedVariables false
set_option linter.unusedSimpArgs false
namespace Go.Proofs.YtfbapbpggicfbaaGreatDoor.Sh
open Go Go.RowKit

set_option linter.unusedVariables false
set_option linter.unusedSimpArgs false

theorem counts_onceI {out l : List Crd} (h : CountsOf out l) : OnceI out := fun c hc c' hc' e => by
  have h1 := counts_one h hc
  have h2 := counts_one h hc'
  simp only [Prod.mk.injEq] at e
  rw [← e.1, ← e.2, h1] at h2
  exact (List.cons.inj h2).1
theorem look_take {cs : List Crd} (h : OnceI cs) (hn : cs.Nodup) {j : Nat} {c : Crd} (hx : cs[j]? = some c) : look (cs.take j) (c.d, c.q) = none := by
  cases hl : look (cs.take j) (c.d, c.q) with
  | none => rfl
  | some c' =>
    obtain ⟨h1, h2⟩ := look_mem hl
    obtain rfl : c' = c := h c' (List.mem_of_mem_take h1) c (List.mem_of_getElem? hx) h2
    exfalso
    obtain ⟨i, hi, e⟩ := List.mem_iff_getElem.1 h1
    rw [List.getElem_take] at e
    have hi2 : i < j := by rw [List.length_take] at hi; omega
    obtain ⟨hj, e2⟩ := List.getElem?_eq_some_iff.1 hx
    have := (List.getElem_inj hn).1 (e.trans e2.symm)
    omega
theorem counts_nodup {out l : List Crd} (h : CountsOf out l) : out.Nodup := by
  have : ∀ (a : List Crd), (∀ c ∈ a, a.filter (idIs c.d c.q) = [c]) → a.Nodup := by
    intro a
    induction a with
    | nil => intro _; exact List.nodup_nil
    | cons x t ih =>
      intro ha
      have hx := ha x (by simp)
      rw [List.filter_cons_of_pos (by simp [idIs])] at hx
      have hx0 : t.filter (idIs x.d x.q) = [] := (List.cons.inj hx).2
      have hnot : ∀ c ∈ t, ¬ (c.d = x.d ∧ c.q = x.q) := fun c hc hh => by
        have : c ∈ t.filter (idIs x.d x.q) := List.mem_filter.2 ⟨hc, idIs_iff.2 hh⟩
        rw [hx0] at this
        cases this
      refine List.nodup_cons.2 ⟨fun hh => hnot x hh ⟨rfl, rfl⟩, ih fun c hc => ?_⟩
      have hc1 := ha c (by simp [hc])
      rwa [List.filter_cons_of_neg (by rw [idIs_iff]; intro hh; exact hnot c hc ⟨hh.1.symm, hh.2.symm⟩)] at hc1
  exact this out fun c hc => counts_one h hc
theorem may_okI {c : Crd} (h : mayC c = true) : okI (c.d, c.q) := by
  unfold mayC headOk at h
  simp only [Bool.and_eq_true, decide_eq_true_eq] at h
  obtain ⟨⟨⟨h1, h2, h3, h4⟩, _⟩, _⟩ := h
  refine ⟨⟨?_, ?_⟩, ⟨?_, ?_⟩⟩ <;> simp only <;> omega
theorem wpList_cmap {ops : Array Oper} {rest : List Oper} {o : Oper} {a : Act} {w : World} {Q : Exit → Act → World → Prop} (hg : o.guard = none) (m x v : Operand) (hop : o.op = Op.mapUpdate 38 m x v)
    {b n : Nat} {cs : List Crd} (hm : a.eval m = .map (some b)) (h : CMap w b n cs) (hn : n < 1000000) (c : Crd) (hx : a.eval x = .agg #[.int .i64 c.d, .int .i64 c.q]) (hv : a.eval v = .agg c.cells.toArray) (hi : okI (c.d, c.q)) (hno : look cs (c.d, c.q) = none)
    (hK : ∀ w', CMap w' b (n + 1) (cs ++ [c]) → w.grownBy w' (some b) → wpList Tryz.prog ops Q rest (a.put o.dst undef) w') : wpList Tryz.prog ops Q (o :: rest) a w := by
  refine wpList_plain hg fun K' hK' => ?_
  obtain ⟨w', hrun, r1, r2⟩ := h.store hn hi hno
  unfold Oper.wp
  simp [execOp, hop, hm, hx, hv, hrun, Result.andThen]
  exact hK' _ _ (hK w' r1 r2)
set_option maxHeartbeats 4000000 in
set_option maxRecDepth 100000 in
theorem check_any (A : Option Addr) (all : List Crd) (n c : Nat) (hn : all.length = n) (hc : n ≤ c) (hc2 : c ≤ 9223372036854775807) (hm : n ≤ 1000) (p : PT) (w : World) (h : Crs w w.heap.size A all) (hp : PIn w w.heap.size p) :
    Calls Tryz.prog 6 #[.slice A n c, .agg p.cells.toArray] w fun e w' => ∃ out, CountsOf out all ∧ e = .returned (.int .i64 (bif dc (Cor out p) then 0 else 15)) ∧ Below w.heap.size w w' := by
  have hmf : ∀ (fn : Fn) (first cap : Array Value) (w : World), (Instr.makeFunc fn first cap).run Tryz.prog w = .ok (.func fn first cap) w := fun _ _ _ _ => rfl
  have hmm := @run_makeMap Tryz.prog
  obtain ⟨o, n', x, d, q, A', cp, ps⟩ := p
  obtain ⟨g0, hg0⟩ : ∃ g, w.heap.size = g := ⟨_, rfl⟩
  obtain ⟨w1, hw1⟩ : ∃ w1, w1 = ((w.alloc (.cells (PT.mk o n' x d q A' cp ps).cells.toArray 29)).alloc (.map #[] 0)).alloc (.cells #[.map (some (g0 + 1)), .map none, .int .i64 0] 41) := ⟨_, rfl⟩
  have hsz : w1.heap.size = g0 + 3 := by rw [hw1, World.size_alloc, World.size_alloc, World.size_alloc, hg0]
  have HQ1 : Hid (Below w.heap.size w w1) := hid (by rw [hw1]; exact (((Below.refl _ w).alloc (Nat.le_refl _) _).alloc (by rw [World.size_alloc]; exact Nat.le_succ _) _).alloc (by rw [World.size_alloc, World.size_alloc]; omega) _)
  have HPA : Hid (PrAt w1 g0 (.mk o n' x d q A' cp ps)) := hid (by
    rw [hw1, ← hg0]
    exact ((PrAt.new w _).kept ((Below.refl _ _).alloc (Nat.le_refl _) _)).kept ((Below.refl _ _).alloc (Nat.le_refl _) _))
  have HCM : Hid (CMap w1 (g0 + 1) 0 []) := hid (by
    rw [hw1]
    have := CMap.new (w.alloc (.cells (PT.mk o n' x d q A' cp ps).cells.toArray 29))
    rw [World.size_alloc, hg0] at this
    exact this.kept ((Below.refl _ _).alloc (Nat.le_refl _) _))
  have HKA : Hid (KAt w1 (g0 + 1 + 1) (g0 + 1)) := hid (by
    rw [hw1]
    have := heap_alloc_new ((w.alloc (.cells (PT.mk o n' x d q A' cp ps).cells.toArray 29)).alloc (.map #[] 0)) (.cells #[.map (some (g0 + 1)), .map none, .int .i64 0] 41)
    rw [World.size_alloc, World.size_alloc, hg0] at this
    exact this)
  have HCO := hid (counts_any A all n c hn hc hc2 (by omega) w1 ((h.below HQ1.out).more HQ1.out.size))
  have HPI := hid hp
  obtain ⟨np, hnp⟩ : ∃ np, ps.length = np := ⟨_, rfl⟩
  have HNP := hid hnp
  have HM : Hid (n ≤ 1000) := hid hm
  unfold PT.cells at hw1 ⊢
  simp only [hnp] at hw1 ⊢
  have HSZ := hid hsz
  have HG0 := hid hg0
  clear h hp hn hc hc2 hnp hm hsz
  go_enter Tryz.func6, Tryz.ntmps6
  go_wp2_with fail
  rw [← hw1]
  obtain ⟨gk, hgk⟩ : ∃ g, g0 + 1 + 1 = g := ⟨_, rfl⟩
  obtain ⟨gb, hgb⟩ : ∃ g, g0 + 1 = g := ⟨_, rfl⟩
  have HGK : Hid (g0 + 1 + 1 = gk ∧ g0 + 1 = gb) := hid ⟨hgk, hgb⟩
  rw [hgk] at HKA ⊢
  rw [hgb] at HKA HCM ⊢
  clear hw1 hg0 hgk hgb
  refine HCO.out.mono ?_
  rintro er w2 ⟨Ac, nc, cc, cs, rfl, hnc, oc, hco, bb⟩
  have HB2 := hid bb
  have HCN := hid hco
  have HCS := hid oc.crs
  have HCL := hid oc.len
  have HCI := hid (counts_onceI hco)
  have HND := hid (counts_nodup hco)
  have HMY : Hid (∀ c ∈ cs, mayC c = true) := hid (fun c hc => (counts_mem hco hc).1)
  have HFA : Hid (∀ ad, Ac = some ad → g0 + 3 ≤ ad.block ∨ cs = []) := hid (fun ad e => by
    rcases oc.2 with ⟨h1, h2⟩ | ⟨g, cap, cur, hv, hb, hg, h3⟩
    · refine .inr (List.eq_nil_of_length_eq_zero ?_)
      have := oc.len
      omega
    · simp only [Value.slice.injEq] at hv
      rw [hv.1] at e
      injection e with e
      subst e
      rw [HSZ.out] at hb
      exact .inl hb)
  have hnc63 : nc ≤ 1000 := by have := HM.out; omega
  clear HCO bb oc hco hnc
  go_wp2_with fail
  go_loopw [13] (fun i wr => ∃ j : Nat, j ≤ nc ∧ i = .int .i64 (j : Int) ∧ Hid (CMap wr gb j (cs.take j)) ∧ Hid (w2.grownBy wr (some gb))) (fun i _ => nc - (intOf i).toNat)
  case atStart => exact ⟨0, Nat.zero_le _, rfl, hid (by simpa using HCM.out.kept HB2.out), hid ⟨rfl, rfl, rfl, Nat.le_refl _, fun _ _ _ => rfl⟩⟩
  case round =>
    obtain ⟨j, hj, rfl, HMJ, HGR⟩ := hrel
    have HKR : Hid (KAt wr gk gb) := hid ((HGR.out.block gk (HKA.out.kept HB2.out).lt (fun e => by injection e with e; have := HGK.out; omega)).trans (HKA.out.kept HB2.out))
    have HPR : Hid (PrAt wr g0 (.mk o n' x d q A' cp ps)) := hid ((HGR.out.block g0 (HPA.out.kept HB2.out).lt (fun e => by injection e with e; have := HGK.out; omega)).trans (HPA.out.kept HB2.out))
    have HBW : Hid (Below w.heap.size w wr) := hid ((HQ1.out.trans (HB2.out.mono HQ1.out.size)).grown HGR.out (by have := HQ1.out.size; have := HB2.out.size; omega) (fun k e => by injection e with e; have := HG0.out; have := HGK.out; omega))
    have kc := HKR.out.cell
    obtain ⟨k0, k1, k2, k3, k4, k5⟩ := HPR.out.all
    rw [HNP.out] at k5
    by_cases hlt : j < nc
    · obtain ⟨⟨cd, cq, nm, kd, wh, ao, an, bo, bn⟩, hx⟩ : ∃ x, cs[j]? = some x := ⟨_, List.getElem?_eq_getElem (by rw [HCL.out]; exact hlt)⟩
      have HX := hid hx
      have HCR : Hid (Crs wr w2.heap.size Ac cs) := hid (fun hn => by
        obtain ⟨ad, e, hb, hcl⟩ := HCS.out hn
        refine ⟨ad, e, hb, fun j x hx => ?_⟩
        rw [← hcl j x hx]
        unfold World.cell?
        rw [block_add, HGR.out.block ad.block hb (fun e2 => by
          injection e2 with e2
          have := HGK.out
          rcases HFA.out ad e with h | h
          · omega
          · rw [h] at hn; simp at hn)])
      obtain ⟨ad, aj, rfl, hab, ea, hbj, a0, a1, a2, a3, a4, a5, a6, a7, a8⟩ := HCR.out.get hx
      simp only at a0 a1 a2 a3 a4 a5 a6 a7 a8
      have hj0 : (0 : Int) ≤ (j : Int) := Int.natCast_nonneg _
      have hj1 : (j : Int) < (nc : Int) := by omega
      have HOK := hid (may_okI (HMY.out _ (List.mem_of_getElem? hx)))
      have HNO := hid (look_take HCI.out HND.out hx)
      have HMB := hid (HMJ.out.kept ((Below.refl wr.heap.size wr).alloc (Nat.le_refl _) (.cells #[.int .i64 cd, .int .i64 cq, .string nm, .int .i64 kd, .string wh, .string ao, .string an, .string bo, .string bn] 43)))
      have HGB : Hid (w2.grownBy (wr.alloc (.cells #[.int .i64 cd, .int .i64 cq, .string nm, .int .i64 kd, .string wh, .string ao, .string an, .string bo, .string bn] 43)) (some gb)) := hid (HGR.out.trans (World.grownBy_alloc wr _ _))
      have hjm : j < 1000000 := by omega
      have kc2 := (HKR.out.kept ((Below.refl wr.heap.size wr).alloc (Nat.le_refl _) (.cells #[.int .i64 cd, .int .i64 cq, .string nm, .int .i64 kd, .string wh, .string ao, .string an, .string bo, .string bn] 43))).cell
      clear hx hab hbj
      go_wp2_with (first | (at_mapUpdate; refine wpList_cmap rfl (.tmp 18) (.tmp 20) (.tmp 21) rfl rfl HMB.out hjm ⟨cd, cq, nm, kd, wh, ao, an, bo, bn⟩ rfl rfl HOK.out HNO.out ?_; intro w5 hm5 hg5) | go_in)
      have HM5 := hid hm5
      have HG5 := hid (HGB.out.trans hg5)
      clear hm5 hg5 kc kc2 k0 k1 k2 k3 k4 k5 a0 a1 a2 a3 a4 a5 a6 a7 a8
      go_wp2_with fail
      go_roundw
      case rel => exact ⟨j + 1, by omega, by go_num, hid (by rw [take_snoc_of HX.out]; exact HM5.out), HG5⟩
      case measure => simp [intOf]; omega
    · obtain rfl : j = nc := by omega
      have e1 : cs.take j = cs := List.take_of_length_le (by rw [HCL.out]; exact Nat.le_refl _)
      rw [e1] at HMJ
      have HVI := hid (visitF_any cs HMY.out HCI.out gk gb j (.mk o n' x d q A' cp ps) wr HKR.out HMJ.out (HPI.out.now HBW.out))
      unfold PT.cells at HVI
      simp only [HNP.out] at HVI
      obtain ⟨T, hT⟩ : ∃ T, dc (Cor cs (.mk o n' x d q A' cp ps)) = T := ⟨_, rfl⟩
      have HT := hid hT
      rw [hT] at HVI
      clear hT e1
      go_wp2_with fail
      refine HVI.out.mono ?_
      rintro er w6 ⟨rfl, hb6⟩
      cases T <;>
      · go_wp2_with fail
        go_ret
        exact ⟨cs, HCN.out, by rw [HT.out]; rfl, HBW.out.trans (hb6.mono HBW.out.size)⟩
end Go.Proofs.YtfbapbpggicfbaaGreatDoor.Sh
