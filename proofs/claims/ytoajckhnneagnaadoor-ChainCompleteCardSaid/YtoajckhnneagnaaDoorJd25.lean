/-
  What turns in a search, part by part.
-/
import Derived.Test.YtoajckhnneagnaaDoorJd24
import Derived.Test.YtoajckhnneagnaaDoorJd5
set_option linter.unusedVariables false
set_option linter.unusedSimpArgs false
namespace Go.Proofs.YtoajckhnneagnaaDoor.Sh
open Go Go.RowKit
open Go.Maps (Keyed)

set_option linter.unusedVariables false
set_option linter.unusedSimpArgs false
def Mc (i : Nat) : Prop := i = 0 ∨ i = 5 ∨ i = 6
def Mr (i : Nat) : Prop := i = 7
def Mlt (i : Nat) : Prop := i = 0 ∨ i = 8
section
variable {w w' : World} {b n : Nat} {col : Col} {rn : Pr → Nat} {re : Why}
theorem Rnm.look (h : Rnm w b col n rn) {p : Pr} (hp : okP p) : (Instr.lookup 65 (.map (some b)) (pV p) false).run Tryd.prog w = .ok (.int .i64 (rn p : Int)) w := by
  obtain ⟨D, h1, h2, h3⟩ := h
  have e := h3 p hp
  rcases map_cases h1 lawP Tryd.underlying65 (ch_z3 w) (keyP hp) false with ⟨h4, h5⟩ | ⟨u, h4, h5⟩
  · rw [h5]
    rw [h4] at e
    by_cases h0 : rn p = 0
    · rw [h0]; rfl
    · rw [if_neg h0] at e; cases e
  · rw [h5]
    rw [h4] at e
    by_cases h0 : rn p = 0
    · rw [if_pos h0] at e; cases e
    · rw [if_neg h0] at e; cases e; rfl
theorem Rnm.add (h : Rnm w b col n rn) {p : Pr} (hp : okP p) (hl : n < maxLen) {r : Nat} (hr : r ≠ 0) : ∃ w', (Instr.mapUpdate 65 (.map (some b)) (pV p) (.int .i64 (r : Int))).run Tryd.prog w = .ok () w' ∧ Rnm w' b col (n + 1) (fun q => if q = p then r else rn q) ∧ w.grownBy w' (some b) := by
  obtain ⟨D, h1, h2, h3⟩ := h
  obtain ⟨w', hrun, ho, hg⟩ := map_store (val := .int .i64 (r : Int)) h1 lawP Tryd.underlying65 hl (keyP hp)
  refine ⟨w', hrun, ⟨_, ho, h2, fun q hq => ?_⟩, hg⟩
  by_cases e : q = p
  · subst e
    rw [mget_same h1 lawP (keyP hp)]
    simp [hr]
  · rw [mget_other (fun e' => e (kp_inj _ _ hq hp e')), h3 q hq]
    simp only [if_neg e]
def reaV (A : Option Addr) (i : Int × Int) (ps : List Pr) (c : Nat) : Value := .agg #[.int .i64 i.1, .int .i64 i.2, .slice A ps.length c]
theorem Rea.lacks (h : Rea w b col re n) {p : Pr} (hp : okP p) (hr : re p = none) : ∀ W : World, W.heap[b]? = w.heap[b]? → (Instr.lookup 67 (.map (some b)) (pV p) true).run Tryd.prog W = .ok (.tuple #[.agg #[.int .i64 0, .int .i64 0, .slice none 0 0], .bool false]) W := fun W hW => by
  obtain ⟨D, h1, h2, h3, h4⟩ := h
  rcases h4 p hp with ⟨e, _⟩ | ⟨i, ps, A, c, e, _⟩
  · rcases map_cases (map_at h1 hW) lawP Tryd.underlying67 (ch_zR W) (keyP hp) true with ⟨h5, h6⟩ | ⟨u, h5, h6⟩
    · exact h6
    · rw [e] at h5; cases h5
  · rw [hr] at e; cases e
theorem Rea.holds (h : Rea w b col re n) {p : Pr} (hp : okP p) {i : Int × Int} {ps : List Pr} (hr : re p = some (i, ps)) : ∃ A c, Els encP w w.heap.size A ps ∧ (∀ ad, A = some ad → 0 < ps.length → col ad.block = .none) ∧ ps.length ≤ c ∧ c ≤ 9223372036854775807 ∧
    (∀ W : World, W.heap[b]? = w.heap[b]? → (Instr.lookup 67 (.map (some b)) (pV p) true).run Tryd.prog W = .ok (.tuple #[reaV A i ps c, .bool true]) W) ∧
    ∀ W : World, W.heap[b]? = w.heap[b]? → (Instr.lookup 67 (.map (some b)) (pV p) false).run Tryd.prog W = .ok (reaV A i ps c) W := by
  obtain ⟨D, h1, h2, h3, h4⟩ := h
  rcases h4 p hp with ⟨_, e⟩ | ⟨i', ps', A, c, e, e2, h5, h6, h7, h8⟩
  · rw [hr] at e; cases e
  · rw [hr] at e
    cases e
    refine ⟨A, c, h5, h6, h7, h8, fun W hW => ?_, fun W hW => ?_⟩
    · rcases map_cases (map_at h1 hW) lawP Tryd.underlying67 (ch_zR W) (keyP hp) true with ⟨h9, h10⟩ | ⟨u, h9, h10⟩
      · rw [e2] at h9; cases h9
      · rw [e2] at h9; cases h9; exact h10
    · rcases map_cases (map_at h1 hW) lawP Tryd.underlying67 (ch_zR W) (keyP hp) false with ⟨h9, h10⟩ | ⟨u, h9, h10⟩
      · rw [e2] at h9; cases h9
      · rw [e2] at h9; cases h9; exact h10
theorem Rea.lay (h : Rea w b col re n) {p : Pr} (hp : okP p) (hl : n < maxLen) (i : Int × Int) {A : Option Addr} {ps : List Pr} {c : Nat} (he : Els encP w w.heap.size A ps) (hc : ∀ ad, A = some ad → 0 < ps.length → col ad.block = none) (hc1 : ps.length ≤ c) (hc2 : c ≤ 9223372036854775807) (hfree : ∀ g c, col g = some c → g < w.heap.size) :
    ∃ w', (Instr.mapUpdate 67 (.map (some b)) (pV p) (reaV A i ps c)).run Tryd.prog w = .ok () w' ∧ Rea w' b col (fun q => if q = p then some (i, ps) else re q) (n + 1) ∧ w.grownBy w' (some b) := by
  have hh := h
  obtain ⟨D, h1, h2, h3, h4⟩ := h
  obtain ⟨w', hrun, ho, hg⟩ := map_store (val := reaV A i ps c) h1 lawP Tryd.underlying67 hl (keyP hp)
  have hf : ∀ g, g < w.heap.size → col g = none → w'.heap[g]? = w.heap[g]? := fun g hg' hcg => hg.block g hg' (fun e => by
    injection e with e
    rw [e, h2] at hcg; cases hcg)
  have hs := hg.size
  refine ⟨w', hrun, ⟨_, ho, h2, fun z hz => ?_, fun q hq => ?_⟩, hg⟩
  · by_cases e : z = kp p
    · exact ⟨p, hp, e⟩
    · rw [Maps.has_put_other e] at hz
      exact h3 z hz
  · by_cases e : q = p
    · subst e
      rw [mget_same h1 lawP (keyP hp)]
      simp only [if_true]
      refine .inr ⟨i, ps, A, c, rfl, rfl, fun hn => ?_, hc, hc1, hc2⟩
      obtain ⟨ad, e, hb, hcc⟩ := he hn
      refine ⟨ad, e, Nat.lt_of_lt_of_le hb hs, fun j u hu => ?_⟩
      rw [← hcc j u hu]
      unfold World.cell?
      rw [block_add, hf _ hb (hc ad e hn)]
    · rw [mget_other (fun e' => e (kp_inj _ _ hq hp e'))]
      simp only [if_neg e]
      exact (h4 q hq).frame hs hf (fun _ _ => rfl)
end
section
variable {L : Ly} {w w' : World} {vF vF' vL vL' v v' : Value} {col : Col} {x : Sx} {z : Lit}
theorem Sea.kep {M : Nat → Prop} {v' : Value} {c : Nat × Lit} (h : Sea L w vF vL col x) {X : Nat → Prop} (hb : But X w w') (hX : ∀ g c, X g → col g = some c → M c.1) (hX2 : ∀ g, g < w.heap.size → X g → col g ≠ none) (hl : ∀ g, v'.ownBlock = some g → col g = some c ∨ w.heap.size ≤ g) (hlt : ∀ g, v'.ownBlock = some g → g < w'.heap.size) :
    Kep M L.B w w' col (paint col v' c) ∧ Ext M w w' col (paint col v' c) := by
  have hc : ∀ g, g < w.heap.size → paint col v' c g = col g := fun g hg => paint_old hl hg
  refine ⟨⟨hb.size, fun g c' e hm => hb.block g (h.dom g c' e) fun hx => hm (hX g c' hx e), fun g hg e => hb.block g hg fun hx => hX2 g hg hx e, hc, fun g c' e => ?_⟩, ⟨hb.os, hb.tape, hb.output, hb.size, fun g hg hcg => hb.block g hg fun hx => ?_, hc⟩⟩
  · unfold paint at e
    split at e
    · rename_i e1; exact hlt g e1
    · exact Nat.lt_of_lt_of_le (h.dom g c' e) hb.size
  · cases hcc : col g with
    | none => exact hX2 g hg hx hcc
    | some c' => exact hcg c' hcc (hX g c' hx hcc)
theorem Sea.added (h : Sea L w vF vL col x) {p : Pr} {n : Nat} (hp : okP p) (hk : x.s.rn p = 0)
    (hrow : w'.heap[L.sb]? = some (.cells (rowS L.P (.slice L.A L.nc L.cc) L.b2 L.b3 L.b4 L.b5 vF' L.b7 vL) 69 (0, 0)))
    (hrn : Rnm w' L.b5 col (x.s.kn.length + 1) (fun q => if q = p then n else x.s.rn q)) (hfr : Own (E := encP) w' L.B 58 vF' (x.s.fr ++ [p])) (hb : But (fun g => g = L.sb ∨ g = L.b5 ∨ some g = vF.ownBlock) w w')
    (hl : vF'.ownBlock = vF.ownBlock ∨ ∃ g, vF'.ownBlock = some g ∧ w.heap.size ≤ g) : ∃ col', Sea L w' vF' vL col' { x with s := x.s.add p n } ∧ Ext Mc w w' col col' := by
  have hlc : ∀ g, vF'.ownBlock = some g → col g = some (6, .nil) ∨ w.heap.size ≤ g := fun g hg => by
    rcases hl with hl | ⟨g', e, hl⟩
    · exact .inl (h.cfr g (hl ▸ hg))
    · rw [e] at hg; injection hg with hg; exact .inr (hg ▸ hl)
  obtain ⟨k, e⟩ := h.kep (M := Mc) (c := (6, .nil)) (v' := vF') hb (fun g c hx e => by
      rcases hx with rfl | rfl | hx
      · rw [h.csb] at e; cases e; exact .inl rfl
      · rw [h.c5] at e; cases e; exact .inr (.inl rfl)
      · rw [h.cfr g hx.symm] at e; cases e; exact .inr (.inr rfl)) (fun g _ hx e => by
      rcases hx with rfl | rfl | hx
      · rw [h.csb] at e; cases e
      · rw [h.c5] at e; cases e
      · rw [h.cfr g hx.symm] at e; cases e) hlc (fun g hg => (hfr.lt g hg).2)
  have m : ∀ i, i = 1 ∨ i = 2 ∨ i = 3 ∨ i = 11 ∨ i = 12 ∨ i = 13 ∨ i = 7 ∨ i = 8 → ¬ Mc i := fun i hi => by unfold Mc; omega
  have ea := add_new' (s := x.s) (n := n) hk
  refine ⟨_, ⟨hrow, (k.col _ (h.dom _ _ h.csb)).trans h.csb, h.kcr k, ?_, ?_, ?_, ?_, ?_, fun g hg => if_pos hg, h.kre k (m 7 (by omega)), (h.kla k (m 8 (by omega))).1, (h.kla k (m 8 (by omega))).2, h.klow k, Nat.le_trans h.base k.size, k.dom, ?_, h.lo, h.pe⟩, e⟩
  · show Grp _ _ _ _ _ _ _ _ (x.s.add p n).ic _ _ _ (x.s.add p n).giv
    rw [adds_ic, adds_giv]; exact Sea.kgrp k h.giv (m 1 (by omega)) (m 11 (by omega)) (Nat.le_refl _)
  · show Grp _ _ _ _ _ _ _ _ (x.s.add p n).ic _ _ _ (x.s.add p n).ask
    rw [adds_ic, adds_ask]; exact Sea.kgrp k h.ask (m 2 (by omega)) (m 12 (by omega)) (Nat.le_refl _)
  · show Grp _ _ _ _ _ _ _ _ (x.s.add p n).ic _ _ _ (x.s.add p n).lnk
    rw [adds_ic, adds_lnk]; exact Sea.kgrp k h.lnk (m 3 (by omega)) (m 13 (by omega)) (Nat.le_refl _)
  · show Rnm _ _ _ (x.s.add p n).kn.length (x.s.add p n).rn
    rw [ea, List.length_append, List.length_singleton]
    obtain ⟨D, a1, a2, a3⟩ := hrn
    exact ⟨D, a1, (k.col _ (h.dom _ _ h.c5)).trans a2, a3⟩
  · show Own _ _ _ _ (x.s.add p n).fr
    rw [ea]; exact hfr
  · refine ⟨?_, ?_, ?_, ?_, ?_⟩
    · show ∀ r c, c ∈ (x.s.add p n).giv r → _
      rw [adds_giv]; exact h.sz.giv
    · show ∀ r c, c ∈ (x.s.add p n).ask r → _
      rw [adds_ask]; exact h.sz.ask
    · show ∀ r c, c ∈ (x.s.add p n).lnk r → _
      rw [adds_lnk]; exact h.sz.lnk
    · intro q hq
      change (x.s.add p n).rn q ≠ 0 at hq
      rw [ea] at hq
      by_cases e : q = p
      · rw [e]; exact hp
      · simp only [if_neg e] at hq; exact h.sz.kn q hq
    · intro q hq
      change q ∈ (x.s.add p n).fr at hq
      rw [ea] at hq
      rcases List.mem_append.1 hq with hq | hq
      · exact h.sz.fr q hq
      · rw [List.mem_singleton.1 hq]; exact hp
theorem Sea.turned (h : Sea L w vF vL col x) {i b : Nat} (hbc : col b = some (i, .nil)) (hv : ∀ g, v.ownBlock = some g → col g = some (i + 10, z)) (hb : But (fun g => g = b ∨ some g = v.ownBlock) w w')
    (hl : v'.ownBlock = v.ownBlock ∨ ∃ g, v'.ownBlock = some g ∧ w.heap.size ≤ g) (hlt : ∀ g, v'.ownBlock = some g → g < w'.heap.size) :
    Kep (Mg i) L.B w w' col (paint col v' (i + 10, z)) ∧ Ext (Mg i) w w' col (paint col v' (i + 10, z)) :=
  h.kep hb (fun g c hx e => by
    rcases hx with rfl | hx
    · rw [hbc] at e; cases e; exact .inl rfl
    · rw [hv g hx.symm] at e; cases e; exact .inr rfl) (fun g _ hx e => by
    rcases hx with rfl | hx
    · rw [hbc] at e; cases e
    · rw [hv g hx.symm] at e; cases e) (fun g hg => by
    rcases hl with hl | ⟨g', e, hl⟩
    · exact .inl (hv g (hl ▸ hg))
    · rw [e] at hg; injection hg with hg; exact .inr (hg ▸ hl)) hlt
theorem mg_no {i j : Nat} (h : j ≠ i ∧ j ≠ i + 10) : ¬ Mg i j := fun e => by unfold Mg at e; omega
theorem Sea.asked (h : Sea L w vF vL col x) {r : Rl} {c : Crd} (hc : mayC c = true) (hv : ∀ g, v.ownBlock = some g → col g = some (2 + 10, kr r)) (hb : But (fun g => g = L.b3 ∨ some g = v.ownBlock) w w')
    (hl : v'.ownBlock = v.ownBlock ∨ ∃ g, v'.ownBlock = some g ∧ w.heap.size ≤ g) (hlt : ∀ g, v'.ownBlock = some g → g < w'.heap.size)
    (hG : Grp Tryd.prog encC 24 55 kr okR 2 L.B (x.s.ic + 1) L.b3 w' (paint col v' (2 + 10, kr r)) (upd x.s.ask r c)) :
    Sea L w' vF vL (paint col v' (2 + 10, kr r)) { x with s := x.s.toAsk r c } ∧ Ext (Mg 2) w w' col (paint col v' (2 + 10, kr r)) := by
  obtain ⟨k, e⟩ := h.turned h.c3 hv hb hl hlt
  exact ⟨⟨(k.blk _ _ h.csb (mg_no (by omega))).trans h.row, (k.col _ (h.dom _ _ h.csb)).trans h.csb, h.kcr k, Sea.kgrp k h.giv (mg_no (by omega)) (mg_no (by omega)) (Nat.le_succ _), hG, Sea.kgrp k h.lnk (mg_no (by omega)) (mg_no (by omega)) (Nat.le_succ _),
    h.krn k (mg_no (by omega)), (h.kfr k (mg_no (by omega))).1, (h.kfr k (mg_no (by omega))).2, h.kre k (mg_no (by omega)), (h.kla k (mg_no (by omega))).1, (h.kla k (mg_no (by omega))).2, h.klow k, Nat.le_trans h.base k.size, k.dom,
    ⟨h.sz.giv, fun r' c' hq => by
      rcases upd_mem.1 hq with hq | ⟨_, rfl⟩
      · exact h.sz.ask _ _ hq
      · exact hc, h.sz.lnk, h.sz.kn, h.sz.fr⟩, h.lo, h.pe⟩, e⟩
theorem Sea.gived (h : Sea L w vF vL col x) {r : Rl} {c : Crd} (hc : mayC c = true) (hv : ∀ g, v.ownBlock = some g → col g = some (1 + 10, kr r)) (hb : But (fun g => g = L.b2 ∨ some g = v.ownBlock) w w')
    (hl : v'.ownBlock = v.ownBlock ∨ ∃ g, v'.ownBlock = some g ∧ w.heap.size ≤ g) (hlt : ∀ g, v'.ownBlock = some g → g < w'.heap.size)
    (hG : Grp Tryd.prog encC 24 55 kr okR 1 L.B (x.s.ic + 1) L.b2 w' (paint col v' (1 + 10, kr r)) (upd x.s.giv r c)) :
    Sea L w' vF vL (paint col v' (1 + 10, kr r)) { x with s := x.s.toGiv r c } ∧ Ext (Mg 1) w w' col (paint col v' (1 + 10, kr r)) := by
  obtain ⟨k, e⟩ := h.turned h.c2 hv hb hl hlt
  exact ⟨⟨(k.blk _ _ h.csb (mg_no (by omega))).trans h.row, (k.col _ (h.dom _ _ h.csb)).trans h.csb, h.kcr k, hG, Sea.kgrp k h.ask (mg_no (by omega)) (mg_no (by omega)) (Nat.le_succ _), Sea.kgrp k h.lnk (mg_no (by omega)) (mg_no (by omega)) (Nat.le_succ _),
    h.krn k (mg_no (by omega)), (h.kfr k (mg_no (by omega))).1, (h.kfr k (mg_no (by omega))).2, h.kre k (mg_no (by omega)), (h.kla k (mg_no (by omega))).1, (h.kla k (mg_no (by omega))).2, h.klow k, Nat.le_trans h.base k.size, k.dom,
    ⟨fun r' c' hq => by
      rcases upd_mem.1 hq with hq | ⟨_, rfl⟩
      · exact h.sz.giv _ _ hq
      · exact hc, h.sz.ask, h.sz.lnk, h.sz.kn, h.sz.fr⟩, h.lo, h.pe⟩, e⟩
theorem Sea.linked (h : Sea L w vF vL col x) {r g : Rl} (hg : okR g) (hv : ∀ g, v.ownBlock = some g → col g = some (3 + 10, kr r)) (hb : But (fun g => g = L.b4 ∨ some g = v.ownBlock) w w')
    (hl : v'.ownBlock = v.ownBlock ∨ ∃ g, v'.ownBlock = some g ∧ w.heap.size ≤ g) (hlt : ∀ g, v'.ownBlock = some g → g < w'.heap.size)
    (hG : Grp Tryd.prog encR 24 24 kr okR 3 L.B (x.s.ic + 1) L.b4 w' (paint col v' (3 + 10, kr r)) (upd x.s.lnk r g)) :
    Sea L w' vF vL (paint col v' (3 + 10, kr r)) { x with s := x.s.toLnk r g } ∧ Ext (Mg 3) w w' col (paint col v' (3 + 10, kr r)) := by
  obtain ⟨k, e⟩ := h.turned h.c4 hv hb hl hlt
  exact ⟨⟨(k.blk _ _ h.csb (mg_no (by omega))).trans h.row, (k.col _ (h.dom _ _ h.csb)).trans h.csb, h.kcr k, Sea.kgrp k h.giv (mg_no (by omega)) (mg_no (by omega)) (Nat.le_succ _), Sea.kgrp k h.ask (mg_no (by omega)) (mg_no (by omega)) (Nat.le_succ _), hG,
    h.krn k (mg_no (by omega)), (h.kfr k (mg_no (by omega))).1, (h.kfr k (mg_no (by omega))).2, h.kre k (mg_no (by omega)), (h.kla k (mg_no (by omega))).1, (h.kla k (mg_no (by omega))).2, h.klow k, Nat.le_trans h.base k.size, k.dom,
    ⟨h.sz.giv, h.sz.ask, fun r' c' hq => by
      rcases upd_mem.1 hq with hq | ⟨_, rfl⟩
      · exact h.sz.lnk _ _ hq
      · exact hg, h.sz.kn, h.sz.fr⟩, h.lo, h.pe⟩, e⟩
theorem paint_none {col : Col} {c : Nat × Lit} : paint col (.slice none 0 0) c = col := by funext g; unfold paint; split <;> rename_i h <;> first | cases h | rfl
theorem Sea.reasoned (h : Sea L w vF vL col x) {re : Why} {nr : Nat} (hre : Rea w' L.b7 col re nr) (hb : But (fun g => g = L.b7) w w') : Sea L w' vF vL col { x with re := re, nr := nr } ∧ Ext Mr w w' col col := by
  obtain ⟨k, e⟩ := h.kep (M := Mr) (v' := .slice none 0 0) (c := (7, .nil)) hb (fun g c hx e => by rw [hx, h.c7] at e; cases e; rfl) (fun g _ hx e => by rw [hx, h.c7] at e; cases e) (fun g hg => by cases hg) (fun g hg => by cases hg)
  rw [paint_none] at k e
  have m : ∀ i, i ≠ 7 → ¬ Mr i := fun i hi e => hi e
  exact ⟨⟨(k.blk _ _ h.csb (m 0 (by omega))).trans h.row, h.csb, h.kcr k, Sea.kgrp k h.giv (m _ (by omega)) (m _ (by omega)) (Nat.le_refl _), Sea.kgrp k h.ask (m _ (by omega)) (m _ (by omega)) (Nat.le_refl _), Sea.kgrp k h.lnk (m _ (by omega)) (m _ (by omega)) (Nat.le_refl _),
    h.krn k (m _ (by omega)), (h.kfr k (m _ (by omega))).1, (h.kfr k (m _ (by omega))).2, hre, (h.kla k (m _ (by omega))).1, (h.kla k (m _ (by omega))).2, h.klow k, Nat.le_trans h.base k.size, k.dom, h.sz, h.lo, h.pe⟩, e⟩
theorem Sea.latered (h : Sea L w vF vL col x) {la : List Pr} (hok : ∀ q ∈ la, okP q)
    (hrow : w'.heap[L.sb]? = some (.cells (rowS L.P (.slice L.A L.nc L.cc) L.b2 L.b3 L.b4 L.b5 vF L.b7 vL') 69 (0, 0)))
    (hla : Own (E := encP) w' L.B 58 vL' la) (hb : But (fun g => g = L.sb ∨ some g = vL.ownBlock) w w')
    (hl : vL'.ownBlock = vL.ownBlock ∨ ∃ g, vL'.ownBlock = some g ∧ w.heap.size ≤ g) : ∃ col', Sea L w' vF vL' col' { x with la := la } ∧ Ext Mlt w w' col col' := by
  have hlc : ∀ g, vL'.ownBlock = some g → col g = some (8, .nil) ∨ w.heap.size ≤ g := fun g hg => by
    rcases hl with hl | ⟨g', e, hl⟩
    · exact .inl (h.cla g (hl ▸ hg))
    · rw [e] at hg; injection hg with hg; exact .inr (hg ▸ hl)
  obtain ⟨k, e⟩ := h.kep (M := Mlt) (c := (8, .nil)) (v' := vL') hb (fun g c hx e => by
      rcases hx with rfl | hx
      · rw [h.csb] at e; cases e; exact .inl rfl
      · rw [h.cla g hx.symm] at e; cases e; exact .inr rfl) (fun g _ hx e => by
      rcases hx with rfl | hx
      · rw [h.csb] at e; cases e
      · rw [h.cla g hx.symm] at e; cases e) hlc (fun g hg => (hla.lt g hg).2)
  have m : ∀ i, i ≠ 0 ∧ i ≠ 8 → ¬ Mlt i := fun i hi => by unfold Mlt; omega
  exact ⟨_, ⟨hrow, (k.col _ (h.dom _ _ h.csb)).trans h.csb, h.kcr k, Sea.kgrp k h.giv (m _ (by omega)) (m _ (by omega)) (Nat.le_refl _), Sea.kgrp k h.ask (m _ (by omega)) (m _ (by omega)) (Nat.le_refl _), Sea.kgrp k h.lnk (m _ (by omega)) (m _ (by omega)) (Nat.le_refl _),
    h.krn k (m _ (by omega)), (h.kfr k (m _ (by omega))).1, (h.kfr k (m _ (by omega))).2, h.kre k (m _ (by omega)), hla, fun g hg => if_pos hg, h.klow k, Nat.le_trans h.base k.size, k.dom, h.sz, hok, h.pe⟩, e⟩
end
end Go.Proofs.YtoajckhnneagnaaDoor.Sh
namespace Go.Proofs.YtoajckhnneagnaaDoor.Sh
open Go Go.RowKit
open Go.Maps (Keyed)

set_option linter.unusedVariables false
set_option linter.unusedSimpArgs false
theorem wp_appW {α : Type} {E : Enc α} {P : Program} {w : World} {o : Oper} {a : Act} {K : Act → World → Prop} {Q : Exit → Act → World → Prop} {T S : TypeId} {bytes : Nat} (hT : SlN P T S E.k bytes) (s x : Operand)
    (ho : o.op = .call { callee := .builtin .append, args := #[s, x], argTypes := #[T, T] })
    {B : Nat} {v : Value} {l : List α} (hown : Own (E := E) w B S v l) (hs : a.eval s = v)
    {ad : Addr} {c : Nat} (y : α) (hx : a.eval x = .slice (some ad) 1 c) (hr : Reads w (some ad) (E.cells y))
    (hl : l.length ≤ 1000000000000) (hby : bytes ≤ 128) (hbase : B ≤ w.heap.size)
    (h : ∀ A' c' w', Own (E := E) w' B S (.slice A' (l.length + 1) c') (l ++ [y]) → w.grownBy w' v.ownBlock → ((Value.slice A' (l.length + 1) c').ownBlock = v.ownBlock ∨ (Value.slice A' (l.length + 1) c').ownBlock = some w.heap.size) → K (a.put o.dst (.slice A' (l.length + 1) c')) w') : o.wp P a w K Q := by
  have hm : (l.length + 1) * bytes ≤ (l.length + 1) * 128 := Nat.mul_le_mul_left _ hby
  obtain ⟨A', c', w', hrun, h2, h3, h4⟩ := run_appN (ty := o.type) hT hown (A := some ad) (m := 1) (c := c) (news := E.cells y) (by rw [E.len]; omega) hr (E.one y) (by omega) (by unfold maxLen; omega) hbase
  have h5 : Own (E := E) w' B S (.slice A' (l.length + 1) c') (l ++ [y]) := by
    unfold Own
    rw [ev_append, List.length_append, List.length_singleton]
    simpa [ev] using h2
  unfold Oper.wp execOp
  simp only [ho, resolve, invoke, builtin, Sem.run_bind, Sem.run_pure, Result.andThen_ok, List.map_toArray, List.map_cons, List.map_nil, hs, hx, hrun]
  exact h A' c' w' h5 h3 h4
theorem step_appW {α : Type} {E : Enc α} {P : Program} {w : World} {ops : Array Oper} {o : Oper} {a : Act} {K : Act → World → Prop} {Q : Exit → Act → World → Prop} {F : Prop} (hgd : o.guard = none) {T S : TypeId} {bytes : Nat} (hT : SlN P T S E.k bytes) (s x : Operand)
    (ho : o.op = .call { callee := .builtin .append, args := #[s, x], argTypes := #[T, T] })
    {B : Nat} {v : Value} {l : List α} (hown : Own (E := E) w B S v l) (hs : a.eval s = v)
    {ad : Addr} {c : Nat} (y : α) (hx : a.eval x = .slice (some ad) 1 c) (hr : Reads w (some ad) (E.cells y))
    (hl : l.length ≤ 1000000000000) (hby : bytes ≤ 128) (hbase : B ≤ w.heap.size)
    (h : ∀ A' c' w', Own (E := E) w' B S (.slice A' (l.length + 1) c') (l ++ [y]) → w.grownBy w' v.ownBlock → ((Value.slice A' (l.length + 1) c').ownBlock = v.ownBlock ∨ (Value.slice A' (l.length + 1) c').ownBlock = some w.heap.size) → K (a.put o.dst (.slice A' (l.length + 1) c')) w') :
    if Region.wanted o (yielded ops a.tmps) = true then Oper.wp P o a w K Q else F := by
  have hw : Region.wanted o (yielded ops a.tmps) = true := by simp [Region.wanted, hgd]
  rw [if_pos hw]
  exact wp_appW hT s x ho hown hs y hx hr hl hby hbase h
set_option maxHeartbeats 16000000 in
set_option maxRecDepth 100000 in
theorem cask_any {L : Ly} {vF vL : Value} {col : Col} {x : Sx} {w : World} (h : Sea L w vF vL col x) (r : Rl) (hr : okR r) (c : Crd) (hc : mayC c = true) (hn : x.s.ic ≤ 100000000000) :
    Calls Tryd.prog 67 #[.pointer (some ⟨L.sb, 0, none⟩), .agg #[.string r.1, .string r.2], .agg c.cells.toArray] w fun e w' => e = .returned (.tuple #[]) ∧ ∃ col', Sea L w' vF vL col' { x with s := x.s.toAsk r c } ∧ Ext (Mg 2) w w' col col' := by
  obtain ⟨o, n⟩ := r
  obtain ⟨d, q, nm, kd, wh, ao, an, bo, bn⟩ := c
  obtain ⟨sb, hsb⟩ : ∃ sb, L.sb = sb := ⟨_, rfl⟩
  obtain ⟨b3, hb3⟩ : ∃ b3, L.b3 = b3 := ⟨_, rfl⟩
  obtain ⟨w1, hw1⟩ : ∃ w1, w1 = w.alloc (.cells #[.string o, .string n] 24) := ⟨_, rfl⟩
  obtain ⟨w3, hw3⟩ : ∃ w3, w3 = w1.alloc (.cells (Crd.cells ⟨d, q, nm, kd, wh, ao, an, bo, bn⟩).toArray 55) := ⟨_, rfl⟩
  obtain ⟨gr, hgr⟩ : ∃ g, w.heap.size = g := ⟨_, rfl⟩
  obtain ⟨gc, hgc⟩ : ∃ g, gr + 1 = g := ⟨_, rfl⟩
  have hz1 : w1.heap.size = gc := by rw [hw1, World.size_alloc, hgr, hgc]
  have q1 : Below w.heap.size w w1 := by rw [hw1]; exact (Below.refl _ _).alloc (Nat.le_refl _) _
  have q3 : Below w1.heap.size w1 w3 := by rw [hw3]; exact (Below.refl _ _).alloc (Nat.le_refl _) _
  have r1 : RoleAt w1 gr o n := by rw [hw1, ← hgr]; exact RoleAt.new w o n
  have r3 : RoleAt w3 gr o n := (q3.block _ r1.lt).trans r1
  have c3 : CrAt w3 gc ⟨d, q, nm, kd, wh, ao, an, bo, bn⟩ := by rw [hw3, ← hz1]; exact CrAt.new w1 _
  have HQ3 : Hid (Below w.heap.size w w3) := hid (q1.trans (q3.mono q1.size))
  have HS3 := hid (h.below HQ3.out)
  have HOK := hid hr
  have HMY := hid hc
  have HIC : Hid (x.s.ic ≤ 100000000000) := hid hn
  have HSB := hid hsb
  have HB3 := hid hb3
  have HGS : Hid (∀ g ∈ [sb, gr, gc], g < w3.heap.size ∧ (col g = some (0, .nil) ∨ col g = none)) := hid (fun g hg => by
    simp only [List.mem_cons, List.not_mem_nil, or_false] at hg
    rcases hg with rfl | rfl | rfl
    · exact ⟨by rw [← hsb]; exact HS3.out.lt, .inl (by rw [← hsb]; exact HS3.out.csb)⟩
    · exact ⟨r3.lt, .inr (h.free (by omega))⟩
    · exact ⟨c3.lt, .inr (h.free (by have := q1.size; omega))⟩)
  have HKS : Hid (∀ W, Kp [sb, gr, gc] w3 W → (fun w' => w'.cell? ⟨sb, 19, none⟩ = some (.map (some b3)) ∧ w'.cell? ⟨gr, 0, none⟩ = some (.string o) ∧ w'.cell? ⟨gr, 1, none⟩ = some (.string n) ∧ w'.cell? ⟨gc, 0, none⟩ = some (.int .i64 d) ∧ w'.cell? ⟨gc, 1, none⟩ = some (.int .i64 q) ∧ w'.cell? ⟨gc, 2, none⟩ = some (.string nm) ∧ w'.cell? ⟨gc, 3, none⟩ = some (.int .i64 kd) ∧ w'.cell? ⟨gc, 4, none⟩ = some (.string wh) ∧ w'.cell? ⟨gc, 5, none⟩ = some (.string ao) ∧ w'.cell? ⟨gc, 6, none⟩ = some (.string an) ∧ w'.cell? ⟨gc, 7, none⟩ = some (.string bo) ∧ w'.cell? ⟨gc, 8, none⟩ = some (.string bn)) W) := hid (fun W hW => ⟨by rw [cell_of_row W sb 19 _ _ (0, 0) ((hW sb (by simp)).trans (by rw [← hsb]; exact HS3.out.row)), ← hb3]; rfl, by rw [cell_of_row W gr 0 _ _ (0, 0) ((hW gr (by simp)).trans r3)]; rfl, by rw [cell_of_row W gr 1 _ _ (0, 0) ((hW gr (by simp)).trans r3)]; rfl, by rw [cell_of_row W (gc) 0 _ _ (0, 0) ((hW gc (by simp)).trans c3)]; rfl, by rw [cell_of_row W (gc) 1 _ _ (0, 0) ((hW gc (by simp)).trans c3)]; rfl, by rw [cell_of_row W (gc) 2 _ _ (0, 0) ((hW gc (by simp)).trans c3)]; rfl, by rw [cell_of_row W (gc) 3 _ _ (0, 0) ((hW gc (by simp)).trans c3)]; rfl, by rw [cell_of_row W (gc) 4 _ _ (0, 0) ((hW gc (by simp)).trans c3)]; rfl, by rw [cell_of_row W (gc) 5 _ _ (0, 0) ((hW gc (by simp)).trans c3)]; rfl, by rw [cell_of_row W (gc) 6 _ _ (0, 0) ((hW gc (by simp)).trans c3)]; rfl, by rw [cell_of_row W (gc) 7 _ _ (0, 0) ((hW gc (by simp)).trans c3)]; rfl, by rw [cell_of_row W (gc) 8 _ _ (0, 0) ((hW gc (by simp)).trans c3)]; rfl⟩)
  rw [hsb]
  clear h q1 q3 r1 r3 c3 hn hr hc hsb hb3 hz1
  unfold Crd.cells at hw3 ⊢
  simp only at hw3 ⊢
  go_enter Tryd.func67, Tryd.ntmps67
  go_wp2_with fail
  rw [← hw1]
  try rw [hgr]
  rw [← hw3]
  try rw [hgc]
  clear hw1 hw3 hgr hgc
  obtain ⟨v, ho, hvl, hvc, hent⟩ := HS3.out.ask.entry kr_inj klR Tryd.underlying63 ch_z22 (by have := HIC.out; unfold maxLen; omega) (k := (o, n)) HOK.out (keyR HOK.out)
  unfold rV at hent
  simp only at hent
  obtain ⟨A, cA, rfl, -, -, -⟩ := ho.els
  rw [HB3.out] at hent
  have hcb : col b3 = some (2, .nil) := by rw [← HB3.out]; exact HS3.out.c3
  have hbl : b3 < w3.heap.size := HS3.out.dom _ _ hcb
  have hgs : ∀ g ∈ [sb, gr, gc], g < w3.heap.size ∧ g ≠ b3 ∧ some g ≠ (Value.slice A (x.s.ask (o, n)).length cA).ownBlock := fun g hg => by
    obtain ⟨q1, q2⟩ := HGS.out g hg
    refine ⟨q1, fun e => ?_, fun e => ?_⟩
    · rcases q2 with q2 | q2
      · rw [e, hcb] at q2; cases q2
      · rw [e, hcb] at q2; cases q2
    · have q3 := hvc _ e.symm
      rcases q2 with q2 | q2
      · rw [q3] at q2; cases q2
      · rw [q3] at q2; cases q2
  have hvb : ∀ g, (Value.slice A (x.s.ask (o, n)).length cA).ownBlock = some g → g < w3.heap.size ∧ g ≠ b3 := fun g hg => ⟨(ho.lt g hg).2, fun e => by have h1 := hvc g hg; rw [e, hcb] at h1; simp at h1⟩
  obtain ⟨st1, u1, run1, g1, z1, fin1⟩ := hent w3.drew rfl
  obtain ⟨st2, u2, run2, g2, z2, fin2⟩ := hent (w3.alloc (.cells #[.int .i64 d, .int .i64 q, .string nm, .int .i64 kd, .string wh, .string ao, .string an, .string bo, .string bn] 55)).drew ((MapKept.heap_alloc w3 _).2 _ hbl)
  have zX : (w3.alloc (.cells #[.int .i64 d, .int .i64 q, .string nm, .int .i64 kd, .string wh, .string ao, .string an, .string bo, .string bn] 55)).drew.heap.size = w3.heap.size + 1 := by simp
  have zD : w3.drew.heap.size = w3.heap.size := rfl
  have kpD := hid ((Kp.refl [sb, gr, gc] w3).drew)
  have kpA := hid (((Kp.refl [sb, gr, gc] w3).alloc (fun g hg => (hgs g hg).1) (.cells #[.int .i64 d, .int .i64 q, .string nm, .int .i64 kd, .string wh, .string ao, .string an, .string bo, .string bn] 55)).drew)
  have kp1 := hid (kpD.out.grown g1 (fun g hg => (hgs g hg).1) (fun g hg => by simp only [ne_eq, Option.some.injEq]; exact (hgs g hg).2.1))
  have kp1a := hid (kp1.out.alloc (fun g hg => by have := (hgs g hg).1; omega) (.cells #[.int .i64 d, .int .i64 q, .string nm, .int .i64 kd, .string wh, .string ao, .string an, .string bo, .string bn] 55))
  have kp2 := hid (kpA.out.grown g2 (fun g hg => by have := (hgs g hg).1; omega) (fun g hg => by simp only [ne_eq, Option.some.injEq]; exact (hgs g hg).2.1))
  have oA := hid ((Own.kept ho (w' := u1) fun g hg => g1.block g (hvb g hg).1 (by simp only [ne_eq, Option.some.injEq]; exact (hvb g hg).2)).alloc (.cells #[.int .i64 d, .int .i64 q, .string nm, .int .i64 kd, .string wh, .string ao, .string an, .string bo, .string bn] 55))
  have oB := hid (Own.kept ho (w' := u2) fun g hg => (g2.block g (by have := (hvb g hg).1; omega) (by simp only [ne_eq, Option.some.injEq]; exact (hvb g hg).2)).trans ((MapKept.heap_alloc w3 _).2 g (hvb g hg).1))
  have rA := hid (reads_new u1 #[.int .i64 d, .int .i64 q, .string nm, .int .i64 kd, .string wh, .string ao, .string an, .string bo, .string bn] 55 (0, 0))
  have rB := hid ((reads_newd w3 #[.int .i64 d, .int .i64 q, .string nm, .int .i64 kd, .string wh, .string ao, .string an, .string bo, .string bn] 55 (0, 0)).grown g2 (fun ad e => by cases e; exact ⟨by simp, by simp only [ne_eq, Option.some.injEq]; omega⟩))
  have bA := hid ((((But.refl (fun g => g = b3 ∨ some g = (Value.slice A (x.s.ask (o, n)).length cA).ownBlock) w3).drew).then_grown g1 (fun g e => .inr (.inl (Option.some.inj e).symm))).alloc (.cells #[.int .i64 d, .int .i64 q, .string nm, .int .i64 kd, .string wh, .string ao, .string an, .string bo, .string bn] 55))
  have bB := hid ((((But.refl (fun g => g = b3 ∨ some g = (Value.slice A (x.s.ask (o, n)).length cA).ownBlock) w3).alloc (.cells #[.int .i64 d, .int .i64 q, .string nm, .int .i64 kd, .string wh, .string ao, .string an, .string bo, .string bn] 55)).drew).then_grown g2 (fun g e => .inr (.inl (Option.some.inj e).symm)))
  have FA := hid fin1
  have FB := hid fin2
  have GS := hid hgs
  have VB := hid hvb
  have Z1 : Hid (u1.heap.size = w3.heap.size ∧ u2.heap.size = w3.heap.size + 1 ∧ (u1.alloc (.cells #[.int .i64 d, .int .i64 q, .string nm, .int .i64 kd, .string wh, .string ao, .string an, .string bo, .string bn] 55)).heap.size = w3.heap.size + 1 ∧ b3 < w3.heap.size) := hid ⟨by omega, by omega, by simp; omega, hbl⟩
  have FBW : Hid (u1.heap[b3]? = (u1.alloc (.cells #[.int .i64 d, .int .i64 q, .string nm, .int .i64 kd, .string wh, .string ao, .string an, .string bo, .string bn] 55)).heap[b3]?) := hid ((MapKept.heap_alloc u1 _).2 _ (by omega)).symm
  have VC := hid hvc
  have hbB : L.B ≤ w3.heap.size := HS3.out.base
  have hll : (x.s.ask (o, n)).length ≤ 1000000000000 := by have := HIC.out; omega
  clear fin1 fin2 g1 g2 ho hvc hvl hent hvb hgs zX zD hbl hcb
  go_region_held3 (fun w' => w'.cell? ⟨sb, 19, none⟩ = some (.map (some b3)) ∧ w'.cell? ⟨gr, 0, none⟩ = some (.string o) ∧ w'.cell? ⟨gr, 1, none⟩ = some (.string n) ∧ w'.cell? ⟨gc, 0, none⟩ = some (.int .i64 d) ∧ w'.cell? ⟨gc, 1, none⟩ = some (.int .i64 q) ∧ w'.cell? ⟨gc, 2, none⟩ = some (.string nm) ∧ w'.cell? ⟨gc, 3, none⟩ = some (.int .i64 kd) ∧ w'.cell? ⟨gc, 4, none⟩ = some (.string wh) ∧ w'.cell? ⟨gc, 5, none⟩ = some (.string ao) ∧ w'.cell? ⟨gc, 6, none⟩ = some (.string an) ∧ w'.cell? ⟨gc, 7, none⟩ = some (.string bo) ∧ w'.cell? ⟨gc, 8, none⟩ = some (.string bn))
    (first | exact HKS.out _ kpD.out | exact HKS.out _ kpA.out | exact HKS.out _ kp1.out | exact HKS.out _ kp1a.out | exact HKS.out _ kp2.out | exact HKS.out _ kp5.out | exact HKS.out _ kp6.out)
    ((first | (refine step_appW (E := encC) (by rfl) slC (.tmp 11) (.tmp 13) (by rfl) (B := L.B) (v := .slice A (x.s.ask (o, n)).length cA) (l := x.s.ask (o, n)) oA.out (by rfl) (ad := ⟨u1.heap.size, 0, none⟩) (c := 1) (⟨d, q, nm, kd, wh, ao, an, bo, bn⟩ : Crd) (by rfl) rA.out hll (by omega) (by have := Z1.out; omega) ?_; intro A' c' w5 ho5 hg5 hl5; obtain ⟨w6, run6, g6, z6, fin6⟩ := FA.out w5 (.slice A' ((x.s.ask (o, n)).length + 1) c') ((hg5.block b3 (by have := Z1.out; omega) (fun e => (VB.out b3 e.symm).2 rfl)).trans FBW.out.symm); have kp5 := hid (kp1a.out.grown hg5 (fun g hg => by have := (GS.out g hg).1; have := Z1.out; omega) (fun g hg => (GS.out g hg).2.2)); have kp6 := hid (kp5.out.grown g6 (fun g hg => by have := (GS.out g hg).1; have := Z1.out; have := hg5.size; omega) (fun g hg => by simp only [ne_eq, Option.some.injEq]; exact (GS.out g hg).2.1)); have b6 := hid ((bA.out.then_grown hg5 (fun g e => .inr (.inr e.symm))).then_grown g6 (fun g e => .inr (.inl (Option.some.inj e).symm))); have l6 := hid (loc_of (a := w3.heap.size) hl5 (by have := Z1.out; omega)); have o6 := hid (own_behind ho5 g6 l6.out (fun g e => (VB.out g e).2) (by have := Z1.out; omega)); have F6 := hid fin6; clear fin6 g6 hl5 ho5 hg5) | (refine step_appW (E := encC) (by rfl) slC (.tmp 11) (.tmp 13) (by rfl) (B := L.B) (v := .slice A (x.s.ask (o, n)).length cA) (l := x.s.ask (o, n)) oB.out (by rfl) (ad := ⟨w3.heap.size, 0, none⟩) (c := 1) (⟨d, q, nm, kd, wh, ao, an, bo, bn⟩ : Crd) (by rfl) rB.out hll (by omega) (by have := Z1.out; omega) ?_; intro A' c' w5 ho5 hg5 hl5; obtain ⟨w6, run6, g6, z6, fin6⟩ := FB.out w5 (.slice A' ((x.s.ask (o, n)).length + 1) c') ((hg5.block b3 (by have := Z1.out; omega) (fun e => (VB.out b3 e.symm).2 rfl))); have kp5 := hid (kp2.out.grown hg5 (fun g hg => by have := (GS.out g hg).1; have := Z1.out; omega) (fun g hg => (GS.out g hg).2.2)); have kp6 := hid (kp5.out.grown g6 (fun g hg => by have := (GS.out g hg).1; have := Z1.out; have := hg5.size; omega) (fun g hg => by simp only [ne_eq, Option.some.injEq]; exact (GS.out g hg).2.1)); have b6 := hid ((bB.out.then_grown hg5 (fun g e => .inr (.inr e.symm))).then_grown g6 (fun g e => .inr (.inl (Option.some.inj e).symm))); have l6 := hid (loc_of (a := w3.heap.size) hl5 (by have := Z1.out; omega)); have o6 := hid (own_behind ho5 g6 l6.out (fun g e => (VB.out g e).2) (by have := Z1.out; omega)); have F6 := hid fin6; clear fin6 g6 hl5 ho5 hg5)))
  all_goals
    obtain ⟨h6, x6⟩ := HS3.out.asked (v := .slice A (x.s.ask (o, n)).length cA) (v' := .slice A' ((x.s.ask (o, n)).length + 1) c') HMY.out VC.out (by rw [HB3.out]; exact b6.out) l6.out (fun g hg => (o6.out.lt g hg).2) (by rw [HB3.out]; exact F6.out (⟨d, q, nm, kd, wh, ao, an, bo, bn⟩ : Crd) o6.out (fun g hg h1 h2 => b6.out.block g hg (fun h => h.elim h1 h2)) l6.out)
    go_wp2_with fail
    go_end0
    exact ⟨rfl, _, h6, (Ext.of_below (Mg 2) col HQ3.out).trans x6⟩
end Go.Proofs.YtoajckhnneagnaaDoor.Sh
