/-
  append of one element to a row of the call's own; worlds that are as they were but for some blocks.
-/
import Derived.Test.YtfbapbpggicfbaaGreatDoorJz32
import Derived.Test.YtfbapbpggicfbaaGreatDoorJz11
import Derived.Test.YtfbapbpggicfbaaGreatDoorJz15
set_option linter.unusedVariables false
set_option linter.unusedSimpArgs false
namespace Go.Proofs.YtfbapbpggicfbaaGreatDoor.Sh
open Go Go.RowKit
open Go.Maps (Keyed)

theorem slR : SlN Tryz.prog 101 24 2 32 := by
  obtain ⟨i0, hi0, hz0, hz1, hz2⟩ := info_parts (P := Tryz.prog) (e := 24) (z := .agg #[.string E0, .string E0]) (size := 2) (bytes := 32) (by kernel_rfl)
  exact ⟨Tryz.underlying101, ⟨i0, _, hi0, hz0, hz1, hz2, rfl⟩, by omega⟩
theorem slBo : SlN Tryz.prog 105 107 4 64 := by
  obtain ⟨i0, hi0, hz0, hz1, hz2⟩ := info_parts (P := Tryz.prog) (e := 107) (z := .agg #[.string E0, .string E0, .string E0, .string E0]) (size := 4) (bytes := 64) (by kernel_rfl)
  exact ⟨Tryz.underlying105, ⟨i0, _, hi0, hz0, hz1, hz2, rfl⟩, by omega⟩
theorem slK : SlN Tryz.prog 102 104 3 48 := by
  obtain ⟨i0, hi0, hz0, hz1, hz2⟩ := info_parts (P := Tryz.prog) (e := 104) (z := .agg #[.string E0, .string E0, .string E0]) (size := 3) (bytes := 48) (by kernel_rfl)
  exact ⟨Tryz.underlying102, ⟨i0, _, hi0, hz0, hz1, hz2, rfl⟩, by omega⟩
theorem slP : SlN Tryz.prog 80 55 3 48 := by
  obtain ⟨i0, hi0, hz0, hz1, hz2⟩ := info_parts (P := Tryz.prog) (e := 55) (z := .agg #[.string E0, .string E0, .string E0]) (size := 3) (bytes := 48) (by kernel_rfl)
  exact ⟨Tryz.underlying80, ⟨i0, _, hi0, hz0, hz1, hz2, rfl⟩, by omega⟩
/-! ### a world that is another but for some blocks -/
structure But (X : Nat → Prop) (w w' : World) : Prop where
  os : w'.os = w.os
  tape : w'.tape = w.tape
  output : w'.output = w.output
  size : w.heap.size ≤ w'.heap.size
  block : ∀ g, g < w.heap.size → ¬ X g → w'.heap[g]? = w.heap[g]?
section
variable {X X' : Nat → Prop} {w w' w'' : World}
theorem But.refl (X : Nat → Prop) (w : World) : But X w w := ⟨rfl, rfl, rfl, Nat.le_refl _, fun _ _ _ => rfl⟩
theorem But.trans (h : But X w w') (k : But X' w' w'') (hX : ∀ g, g < w.heap.size → X' g → X g) : But X w w'' :=
  ⟨k.os.trans h.os, k.tape.trans h.tape, k.output.trans h.output, Nat.le_trans h.size k.size, fun g hg hx => (k.block g (Nat.lt_of_lt_of_le hg h.size) fun h' => hx (hX g hg h')).trans (h.block g hg hx)⟩
theorem But.mono (h : But X w w') (hX : ∀ g, g < w.heap.size → X g → X' g) : But X' w w' := ⟨h.os, h.tape, h.output, h.size, fun g hg hx => h.block g hg fun h' => hx (hX g hg h')⟩
theorem But.grown {r : Option Nat} (h : w.grownBy w' r) : But (fun g => r = some g) w w' := ⟨h.os, h.tape, h.output, h.size, fun g hg hx => h.block g hg fun e => hx e.symm⟩
theorem But.below (h : Below w.heap.size w w') : But (fun _ => False) w w' := ⟨h.os, h.tape, h.output, h.size, fun g hg _ => h.block g hg⟩
theorem But.then_below (h : But X w w') (k : Below w'.heap.size w' w'') : But X w w'' := h.trans (.below k) fun _ _ h' => h'.elim
theorem But.drew (h : But X w w') : But X w w'.drew := ⟨h.os, h.tape, h.output, h.size, h.block⟩
theorem But.alloc (h : But X w w') (o : Obj) : But X w (w'.alloc o) := h.then_below ((Below.refl _ _).alloc (Nat.le_refl _) _)
theorem But.set (h : But X w w') {b k : Nat} (u : Value) (hb : w.heap.size ≤ b ∨ X b) : But X w (w'.setCell ⟨b, k, none⟩ u) :=
  h.trans (.grown (grown_set w' b k u)) fun g hg e => by
    simp only [Option.some.injEq] at e
    rcases hb with hb | hb
    · omega
    · exact e ▸ hb
theorem But.then_grown {r : Option Nat} (h : But X w w') (k : w'.grownBy w'' r) (hr : ∀ g, r = some g → w.heap.size ≤ g ∨ X g) : But X w w'' :=
  h.trans (.grown k) fun g hg e => (hr g e).resolve_left (by omega)
end
/-- What add may turn. -/
def Ma (i : Nat) : Prop := i = 0 ∨ i = 5 ∨ i = 6
theorem row6 {w : World} {sb : Nat} {u0 u1 u2 u3 u4 u5 v : Value} {t : TypeId} (h : w.heap[sb]? = some (.cells #[u0, u1, u2, u3, u4, u5] t (0, 0))) : (w.setCell ⟨sb, 5, none⟩ v).heap[sb]? = some (.cells #[u0, u1, u2, u3, u4, v] t (0, 0)) :=
  heap_setCell_same w sb 5 _ _ v h
theorem row5 {w : World} {sb : Nat} {u0 u1 u2 u3 u4 u5 v : Value} {t : TypeId} (h : w.heap[sb]? = some (.cells #[u0, u1, u2, u3, u4, u5] t (0, 0))) : (w.setCell ⟨sb, 4, none⟩ v).heap[sb]? = some (.cells #[u0, u1, u2, u3, v, u5] t (0, 0)) :=
  heap_setCell_same w sb 4 _ _ v h
section
variable {w w' : World} {B sb b0 b1 b2 b3 b4 : Nat} {vF vF' : Value} {col : Col} {s : St} {p : Pr}
theorem paint_old {col : Col} {v : Value} {c : Nat × Lit} {n : Nat} (hl : ∀ g, v.ownBlock = some g → col g = some c ∨ n ≤ g) {g : Nat} (hg : g < n) : paint col v c g = col g := by
  unfold paint
  split
  · rename_i e
    rcases hl g e with h | h
    · exact h.symm
    · omega
  · rfl
theorem Knw.add {kn : List Pr} (h : Knw w b4 col kn) (hp : okP p) (hl : kn.length < maxLen) : ∃ w', (Instr.mapUpdate 79 (.map (some b4)) (pV p) (.agg #[])).run Tryz.prog w = .ok () w' ∧ Knw w' b4 col (kn ++ [p]) ∧ w.grownBy w' (some b4) := by
  obtain ⟨D, h1, h2, h3, h4⟩ := h
  obtain ⟨w', hrun, ho, hg⟩ := h1.update lawP Tryz.underlying79 hl (keyP hp) (unitElem_mk (H := Unit))
  refine ⟨w', hrun, ⟨_, by rw [List.length_append, List.length_singleton]; exact ho, fun q hq => ?_, fun z hz => ?_, h4⟩, hg⟩
  · by_cases e : q = p
    · subst e
      rw [Maps.has_put_same h1.isMap (lawP.key (keyP hp))]
      simp
    · rw [Maps.has_put_other (fun e' => e (kp_inj _ _ hq hp e')), h2 q hq]
      simp [e]
  · by_cases e : z = kp p
    · exact ⟨p, by simp, e⟩
    · rw [Maps.has_put_other e] at hz
      obtain ⟨q, hq, e'⟩ := h3 z hz
      exact ⟨q, by simp [hq], e'⟩
/-- A pair that was not known, made known. -/
theorem Sol.added (h : Sol w B sb b0 b1 b2 b3 b4 vF col s) (hp : okP p) (hk : p ∉ s.kn)
    (hrow : w'.heap[sb]? = some (.cells #[.map (some b0), .map (some b1), .map (some b2), .map (some b3), .map (some b4), vF'] 82 (0, 0)))
    (hkn : Knw w' b4 col (s.kn ++ [p])) (hfr : Own (E := encP) w' B 55 vF' (s.fr ++ [p])) (hb : But (fun g => g = sb ∨ g = b4 ∨ some g = vF.ownBlock) w w')
    (hl : vF'.ownBlock = vF.ownBlock ∨ ∃ g, vF'.ownBlock = some g ∧ w.heap.size ≤ g) : ∃ col', Sol w' B sb b0 b1 b2 b3 b4 vF' col' (s.add p) ∧ Ext Ma w w' col col' := by
  have hlc : ∀ g, vF'.ownBlock = some g → col g = some (6, .nil) ∨ w.heap.size ≤ g := fun g hg => by
    rcases hl with hl | ⟨g', e, hl⟩
    · exact .inl (h.cfr g (hl ▸ hg))
    · rw [e] at hg; injection hg with hg; exact .inr (hg ▸ hl)
  have hc : ∀ g, g < w.heap.size → paint col vF' (6, .nil) g = col g := fun g hg => paint_old hlc hg
  have hkc : col b4 = some (5, .nil) := by obtain ⟨_, _, _, _, e⟩ := h.kn; exact e
  have hfar : ∀ g c, col g = some c → ¬ Ma c.1 → w'.heap[g]? = w.heap[g]? := fun g c e hm => hb.block g (h.dom g c e) fun hx => hm (by
    rcases hx with rfl | rfl | hx
    · rw [h.csb] at e; cases e; exact .inl rfl
    · rw [hkc] at e; cases e; exact .inr (.inl rfl)
    · rw [h.cfr g hx.symm] at e; cases e; exact .inr (.inr rfl))
  have hG : ∀ (i : Nat), i = 1 ∨ i = 2 ∨ i = 3 ∨ i = 4 → ∀ g c, col g = some c → c.1 = i ∨ c.1 = i + 10 → w'.heap[g]? = w.heap[g]? := fun i hi g c e hci => hfar g c e (by unfold Ma; omega)
  refine ⟨paint col vF' (6, .nil), ⟨hrow, (hc sb (h.dom _ _ h.csb)).trans h.csb, ?_, ?_, ?_, ?_, ?_, ?_, fun g hg => if_pos hg, ?_, Nat.le_trans h.base hb.size, ?_, ?_⟩, ⟨hb.os, hb.tape, hb.output, hb.size, fun g hg hcg => hb.block g hg fun hx => ?_, hc⟩⟩
  · rw [(add_same s p).giv, add_ic]; exact h.giv.frame (hG 1 (by omega)) hc (Nat.le_refl _)
  · rw [add_inc, add_ic]; exact h.inc.frame (hG 2 (by omega)) hc (Nat.le_refl _)
  · rw [(add_same s p).bth, add_ic]; exact h.bth.frame (hG 3 (by omega)) hc (Nat.le_refl _)
  · rw [(add_same s p).lnk, add_ic]; exact h.lnk.frame (hG 4 (by omega)) hc (Nat.le_refl _)
  · rw [add_new hk]
    obtain ⟨D, k1, k2, k3, k4⟩ := hkn
    exact ⟨D, k1, k2, k3, (hc b4 (h.dom _ _ k4)).trans k4⟩
  · rw [add_new hk]; exact hfr
  · intro g hg
    rw [hc g (by have := h.base; omega)]
    exact h.low g hg
  · intro g c e
    unfold paint at e
    split at e
    · rename_i e1; exact (hfr.lt g e1).2
    · exact Nat.lt_of_lt_of_le (h.dom g c e) hb.size
  · refine ⟨?_, ?_, ?_, ?_, ?_, ?_⟩
    · rw [(add_same s p).giv]; exact h.sz.giv
    · rw [add_inc]; exact h.sz.inc
    · rw [(add_same s p).bth]; exact h.sz.bth
    · rw [(add_same s p).lnk]; exact h.sz.lnk
    · rw [add_new hk]
      intro q hq
      rcases List.mem_append.1 hq with hq | hq
      · exact h.sz.kn q hq
      · rw [List.mem_singleton.1 hq]; exact hp
    · rw [add_new hk]
      intro q hq
      rcases List.mem_append.1 hq with hq | hq
      · exact h.sz.fr q hq
      · rw [List.mem_singleton.1 hq]; exact hp
  · rcases hx with rfl | rfl | hx
    · exact hcg _ h.csb (.inl rfl)
    · exact hcg _ hkc (.inr (.inl rfl))
    · exact hcg _ (h.cfr g hx.symm) (.inr (.inr rfl))
end
end Go.Proofs.YtfbapbpggicfbaaGreatDoor.Sh
/-
  The program's knows and add, by contract.
-/
namespace Go.Proofs.YtfbapbpggicfbaaGreatDoor.Sh
open Go Go.RowKit
open Go.Maps (Keyed)

theorem so_z74 (w : World) : (zeroValue 72).run Tryz.prog w = .ok (.agg #[]) w := by kernel_rfl
section
variable {B sb b0 b1 b2 b3 b4 : Nat} {vF : Value} {col : Col} {s : St} {w : World}
/-- 'p is known?' at the operation. -/
theorem Sol.look (h : Sol w B sb b0 b1 b2 b3 b4 vF col s) {p : Pr} (hp : okP p) : (Instr.lookup 79 (.map (some b4)) (pV p) true).run Tryz.prog w = .ok (.tuple #[.agg #[], .bool (decide (p ∈ s.kn))]) w := by
  obtain ⟨D, h1, h2, h3, h4⟩ := h.kn
  obtain ⟨v, ps, hrun, hv⟩ := h1.look_ok lawP Tryz.underlying79 (so_z74 w) (unitElem_mk (H := Unit)) (keyP hp)
  obtain ⟨rfl, _⟩ := unitElem_inv hv
  rw [hrun, h2 p hp]
end
set_option maxHeartbeats 4000000 in
theorem knows_any {B sb b0 b1 b2 b3 b4 : Nat} {vF : Value} {col : Col} {s : St} {w : World} (h : Sol w B sb b0 b1 b2 b3 b4 vF col s) (p : Pr) (hp : okP p) :
    Calls Tryz.prog 20 #[.pointer (some ⟨sb, 0, none⟩), .agg #[.string p.1.1, .string p.1.2, .string p.2]] w fun e w' => e = .returned (.bool (decide (p ∈ s.kn))) ∧ Below w.heap.size w w' := by
  obtain ⟨⟨o, n⟩, who⟩ := p
  obtain ⟨b, hb⟩ : ∃ b, decide (((o, n), who) ∈ s.kn) = b := ⟨_, rfl⟩
  obtain ⟨w1, hw1⟩ : ∃ w1, w1 = w.alloc (.cells #[.string o, .string n, .string who] 55) := ⟨_, rfl⟩
  have q1 : Below w.heap.size w w1 := by rw [hw1]; exact (Below.refl _ _).alloc (Nat.le_refl _) _
  have HS := hid (fun W (hW : Below w1.heap.size w1 W) => h.below (q1.trans (hW.mono q1.size)))
  have p0 : w1.heap[w.heap.size]? = some (.cells #[.string o, .string n, .string who] 55 (0, 0)) := by rw [hw1]; exact heap_alloc_new w _
  have hp1 : w.heap.size < w1.heap.size := (Array.getElem?_eq_some_iff.1 p0).1
  have HK := hid (fun W (hW : Below w1.heap.size w1 W) => (⟨(HS.out W hW).cell.2.2.2.2.1, by rw [cell_of_row W _ 0 _ _ (0, 0) ((hW.block _ hp1).trans p0)]; rfl, by rw [cell_of_row W _ 1 _ _ (0, 0) ((hW.block _ hp1).trans p0)]; rfl, by rw [cell_of_row W _ 2 _ _ (0, 0) ((hW.block _ hp1).trans p0)]; rfl,
      by have := (HS.out W hW).look hp; rw [hb] at this; exact this⟩ :
    W.cell? ⟨sb, 4, none⟩ = some (.map (some b4)) ∧ W.cell? ⟨w.heap.size, 0, none⟩ = some (.string o) ∧ W.cell? ⟨w.heap.size, 1, none⟩ = some (.string n) ∧ W.cell? ⟨w.heap.size, 2, none⟩ = some (.string who) ∧
      (Instr.lookup 79 (.map (some b4)) (.agg #[.string o, .string n, .string who]) true).run Tryz.prog W = .ok (.tuple #[.agg #[], .bool b]) W))
  have HQ := hid q1
  simp only at hb ⊢
  rw [hb]
  clear h hp p0 hp1 q1 hb
  go_enter Tryz.func20, Tryz.ntmps20
  go_wp2_with fail
  rw [← hw1]
  clear hw1
  obtain ⟨k1, k2, k3, k4, k5⟩ := HK.out _ (Below.refl _ _)
  go_region_held3 (fun w' => w'.cell? ⟨sb, 4, none⟩ = some (.map (some b4)) ∧ w'.cell? ⟨w.heap.size, 0, none⟩ = some (.string o) ∧ w'.cell? ⟨w.heap.size, 1, none⟩ = some (.string n) ∧ w'.cell? ⟨w.heap.size, 2, none⟩ = some (.string who) ∧
      (Instr.lookup 79 (.map (some b4)) (.agg #[.string o, .string n, .string who]) true).run Tryz.prog w' = .ok (.tuple #[.agg #[], .bool b]) w')
    (first | exact HK.out _ (Below.refl _ _).drew | exact HK.out _ ((Below.refl _ _).drew.alloc (Nat.le_refl _) _) | exact HK.out _ (((Below.refl _ _).drew.alloc (Nat.le_refl _) _).setCell (Nat.le_refl _) _)) (fail)
  all_goals
    go_wp2
    go_ret
    exact ⟨rfl, by first | exact (HQ.out.alloc HQ.out.size _).drew | exact HQ.out.alloc HQ.out.size _ | exact HQ.out.drew.alloc HQ.out.size _⟩
set_option maxHeartbeats 4000000 in
theorem add_any {B sb b0 b1 b2 b3 b4 : Nat} {vF : Value} {col : Col} {s : St} {w : World} (h : Sol w B sb b0 b1 b2 b3 b4 vF col s) (p : Pr) (hp : okP p) (hn : s.kn.length ≤ 100000000000) (hf : s.fr.length ≤ 100000000000) :
    Calls Tryz.prog 58 #[.pointer (some ⟨sb, 0, none⟩), .agg #[.string p.1.1, .string p.1.2, .string p.2]] w fun e w' => e = .returned (.tuple #[]) ∧ ∃ vF' col', Sol w' B sb b0 b1 b2 b3 b4 vF' col' (s.add p) ∧ Ext Ma w w' col col' := by
  obtain ⟨⟨o, n⟩, who⟩ := p
  obtain ⟨b, hb⟩ : ∃ b, decide (((o, n), who) ∈ s.kn) = b := ⟨_, rfl⟩
  have HC := hid (fun (W : World) (hW : Sol W B sb b0 b1 b2 b3 b4 vF col s) => by have := knows_any hW _ hp; rw [hb] at this; exact this)
  simp only at HC
  obtain ⟨w1, hw1⟩ : ∃ w1, w1 = w.alloc (.cells #[.string o, .string n, .string who] 55) := ⟨_, rfl⟩
  have q1 : Below w.heap.size w w1 := by rw [hw1]; exact (Below.refl _ _).alloc (Nat.le_refl _) _
  have s1 := h.below q1
  have p0 : w1.heap[w.heap.size]? = some (.cells #[.string o, .string n, .string who] 55 (0, 0)) := by rw [hw1]; exact heap_alloc_new w _
  have hp1 : w.heap.size < w1.heap.size := (Array.getElem?_eq_some_iff.1 p0).1
  have HB := hid hb
  have HP0 := hid p0
  have HS1 := hid s1
  have HQ1 := hid q1
  have HP := hid hp
  have HH := hid h
  clear h hp hb p0 q1 s1
  simp only
  cases b with
  | true =>
    go_enter Tryz.func58, Tryz.ntmps58
    go_wp2_with fail
    rw [← hw1]
    clear hw1
    go_wp2_with (go_at_call 20; (refine (HC.out _ HS1.out).mono ?_); rintro er w2 ⟨rfl, bb⟩)
    refine bodyPost_ret (results_none rfl _ _ _) rfl ?_
    exact ⟨rfl, vF, col, by rw [add_known (of_decide_eq_true HB.out)]; exact HS1.out.below bb, (Ext.of_below Ma col (HQ1.out.trans (bb.mono HQ1.out.size)))⟩
  | false =>
    go_enter Tryz.func58, Tryz.ntmps58
    go_wp2_with fail
    rw [← hw1]
    clear hw1
    go_wp2_with (go_at_call 20; (refine (HC.out _ HS1.out).mono ?_); rintro er w2 ⟨rfl, bb⟩)
    have s2 := HS1.out.below bb
    have p2 := (bb.block _ hp1).trans HP0.out
    obtain ⟨w3, hrun, hk3, hg3⟩ := (show Knw w2.drew b4 col s.kn from s2.kn).add HP.out (by unfold maxLen; omega)
    have HB2 : Hid (But (fun _ => False) w w2) := hid (.below (HQ1.out.trans (bb.mono HQ1.out.size)))
    have hb4 : b4 < w2.heap.size ∧ sb ≠ b4 ∧ w.heap.size ≠ b4 := by
      obtain ⟨_, _, _, _, e⟩ := s2.kn
      have := HH.out.dom _ _ e
      refine ⟨s2.dom _ _ e, fun e' => ?_, by omega⟩
      have := s2.csb
      rw [e', e] at this
      cases this
    have hsb := s2.dom _ _ s2.csb
    have s3 := (hg3.block sb hsb (by simp only [ne_eq, Option.some.injEq]; exact hb4.2.1)).trans s2.row
    have p3 := (hg3.block w.heap.size (by have := bb.size; show _ < w2.heap.size; omega) (by simp only [ne_eq, Option.some.injEq]; exact hb4.2.2)).trans p2
    have c4 := s2.cell.2.2.2.2.1
    have k2 : w2.cell? ⟨w.heap.size, 0, none⟩ = some (.string o) := by rw [cell_of_row w2 _ 0 _ _ (0, 0) p2]; rfl
    have k3 : w2.cell? ⟨w.heap.size, 1, none⟩ = some (.string n) := by rw [cell_of_row w2 _ 1 _ _ (0, 0) p2]; rfl
    have k4 : w2.cell? ⟨w.heap.size, 2, none⟩ = some (.string who) := by rw [cell_of_row w2 _ 2 _ _ (0, 0) p2]; rfl
    have o3 : Own (E := encP) w3 B 55 vF s.fr := s2.fr.kept fun g hg => hg3.block g (s2.fr.lt g hg).2 (by
      simp only [ne_eq, Option.some.injEq]
      intro e
      obtain ⟨_, _, _, _, e2⟩ := s2.kn
      have := s2.cfr g hg
      rw [e, e2] at this
      cases this)
    have HS3 := hid s3
    have HP3 := hid p3
    have HO3 := hid o3
    have HS2 := hid s2
    have HK3 := hid hk3
    have HG3 := hid hg3
    have HB4 := hid hb4
    clear s2 p2 s3 p3 o3 hk3 hg3 hb4 hsb bb
    unfold pV at hrun
    simp only at hrun
    go_region_law fail
    all_goals
      go_wp2_with fail
      clear c4 k2 k3 k4 hrun
      have c5 : w3.cell? ⟨sb, 5, none⟩ = some vF := by rw [cell_of_row w3 _ 5 _ _ (0, 0) HS3.out]; rfl
      have f5 : w3.frozen? ⟨sb, 5, none⟩ = false := frozen_of_row w3 sb 5 _ _ HS3.out
      have k2 : w3.cell? ⟨w.heap.size, 0, none⟩ = some (.string o) := by rw [cell_of_row w3 _ 0 _ _ (0, 0) HP3.out]; rfl
      have k3 : w3.cell? ⟨w.heap.size, 1, none⟩ = some (.string n) := by rw [cell_of_row w3 _ 1 _ _ (0, 0) HP3.out]; rfl
      have k4 : w3.cell? ⟨w.heap.size, 2, none⟩ = some (.string who) := by rw [cell_of_row w3 _ 2 _ _ (0, 0) HP3.out]; rfl
      have hsz := HG3.out.size
      have hBw : B ≤ w3.heap.size := Nat.le_trans HS2.out.base hsz
      have hfl : s.fr.length ≤ 1000000000000 := by omega
      have n1 := World.new_ne w3 _ c5
      have HVS : Hid (vF.ownBlock ≠ some sb) := hid (fun e => by
        have a := HS2.out.cfr sb e
        rw [HS2.out.csb] at a
        cases a)
      have HR4 : Hid (∀ w4, (w3.alloc (.cells #[.string o, .string n, .string who] 55)).drew.grownBy w4 vF.ownBlock → w4.heap[sb]? = some (.cells #[.map (some b0), .map (some b1), .map (some b2), .map (some b3), .map (some b4), vF] 82 (0, 0))) :=
        hid (fun w4 hg => by
          have hs3 := (Array.getElem?_eq_some_iff.1 HS3.out).1
          rw [hg.block sb (by simp; omega) (fun e => HVS.out e.symm)]
          exact ((MapKept.heap_alloc w3 _).2 sb hs3).trans HS3.out)
      have c5a : (w3.alloc (.cells #[.string o, .string n, .string who] 55)).cell? ⟨sb, 5, none⟩ = some vF := by
        have hs3 := (Array.getElem?_eq_some_iff.1 HS3.out).1
        rw [cell_of_row _ sb 5 _ _ (0, 0) (((MapKept.heap_alloc w3 _).2 sb hs3).trans HS3.out)]; rfl
      have n2 := World.new_ne w3 _ k2
      go_region_law ((first | (refine step_app1 (E := encP) (by rfl) slP (.tmp 17) (.tmp 19) (by rfl) (B := B) (v := vF) (l := s.fr) ((HO3.out.alloc _).drew) (by rfl) (ad := ⟨w3.heap.size, 0, none⟩) (c := 1) ((o, n), who) (by rfl) (reads_newd w3 #[.string o, .string n, .string who] 55 (0, 0)) hfl (by omega) (by simp; omega) ?_; intro A' c' w4 ho4 hg4 hl4; have r4 := hid (HR4.out _ hg4); have c54 : w4.cell? ⟨sb, 5, none⟩ = some vF := (by rw [cell_of_row w4 _ 5 _ _ (0, 0) r4.out]; rfl); have f54 : w4.frozen? ⟨sb, 5, none⟩ = false := frozen_of_row w4 sb 5 _ _ r4.out)))
      all_goals
        go_wp2_with fail
        go_end0
        have hw3 : w.heap.size ≤ w3.heap.size := Nat.le_trans HB2.out.size hsz
        have hN : (w3.alloc (.cells #[.string o, .string n, .string who] 55)).drew.heap.size = w3.heap.size + 1 := by simp
        have h34 : But (fun g => g = sb ∨ some g = vF.ownBlock) w3 (w4.setCell ⟨sb, 5, none⟩ (.slice A' (s.fr.length + 1) c')) :=
          ((((But.refl (fun g => g = sb ∨ some g = vF.ownBlock) w3).alloc _).drew).then_grown hg4 fun g e => .inr (.inr e.symm)).set _ (.inr (.inl rfl))
        have h04 : But (fun g => g = sb ∨ g = b4 ∨ some g = vF.ownBlock) w (w4.setCell ⟨sb, 5, none⟩ (.slice A' (s.fr.length + 1) c')) :=
          ((HB2.out.drew.mono fun _ _ h => h.elim).then_grown HG3.out fun g e => .inr (.inr (.inl (by injection e with e; exact e.symm)))).trans h34 fun g _ h => by
            rcases h with h | h
            · exact .inl h
            · exact .inr (.inr h)
        have hl : (Value.slice A' (s.fr.length + 1) c').ownBlock = vF.ownBlock ∨ ∃ g, (Value.slice A' (s.fr.length + 1) c').ownBlock = some g ∧ w.heap.size ≤ g := by
          rcases hl4 with h | h
          · exact .inl h
          · exact .inr ⟨_, h, by omega⟩
        have hsb := HH.out.dom _ _ HH.out.csb
        have ho5 : Own (E := encP) (w4.setCell ⟨sb, 5, none⟩ (.slice A' (s.fr.length + 1) c')) B 55 (.slice A' (s.fr.length + 1) c') (s.fr ++ [((o, n), who)]) := ho4.kept fun g hg => by
          refine Below.heap_setCell w4 ⟨sb, 5, none⟩ _ g ?_
          intro e
          rcases hl with h | ⟨g', h, h'⟩
          · have a := HH.out.cfr g (h ▸ hg)
            rw [e, HH.out.csb] at a
            cases a
          · rw [hg] at h
            injection h with h
            simp only at e
            omega
        obtain ⟨col', hS, hE⟩ := HH.out.added HP.out (of_decide_eq_false HB.out) (row6 r4.out)
          (HK3.out.frame (fun g hg => h34.block g (Nat.lt_of_lt_of_le (HH.out.dom g _ hg) hw3) (by
            rintro (h | h)
            · rw [h, HH.out.csb] at hg; cases hg
            · rw [HH.out.cfr g h.symm] at hg; cases hg)) (fun _ _ => rfl)) ho5 h04 hl
        exact ⟨rfl, _, _, hS, hE⟩
end Go.Proofs.YtfbapbpggicfbaaGreatDoor.Sh
/-
  A look-up in a map of rows, at the operation; what stays beside what add turns.
-/
namespace Go.Proofs.YtfbapbpggicfbaaGreatDoor.Sh
open Go Go.RowKit
open Go.Maps (Keyed)

section
variable {α κ : Type} {P : Program} {E : Enc α} {kT eT sT t : TypeId} {kl : κ → Lit} {ok : κ → Prop} {i B n n' b : Nat} {w w' : World} {col col' : Col} {G : κ → List α} {D : DataW Value}
theorem map_at (h : w.ownsMap P kT tokR b n D) (hb : w'.heap[b]? = w.heap[b]?) : w'.ownsMap P kT tokR b n D := by
  obtain ⟨es, clock, h1, r⟩ := h
  exact ⟨es, clock, hb.trans h1, r⟩
theorem Grp.look (h : Grp P E kT eT kl ok i B n b w col G) (K : Keyed P kT) (ht : P.underlying t = some (.map kT sT)) (hz : ∀ w, (zeroValue sT).run P w = .ok (.slice none 0 0) w) {k : κ} (hok : ok k) {key : Value} (hkey : keyOf P kT key = some (kl k)) :
    ∃ v, (∀ W : World, W.heap[b]? = w.heap[b]? → (Instr.lookup t (.map (some b)) key false).run P W = .ok v W) ∧ Own (E := E) w B eT v (G k) ∧ (G k).length ≤ n ∧ ∀ g, v.ownBlock = some g → col g = some (i + 10, kl k) := by
  obtain ⟨D, hD⟩ := h
  obtain ⟨v, e, h1, h2, h3⟩ := hD.val k hok
  refine ⟨v, fun W hW => ?_, h1, h2, h3⟩
  rcases map_cases (map_at hD.map hW) K ht (hz W) hkey false with ⟨h4, h5⟩ | ⟨u, h4, h5⟩
  · rw [h5]
    rw [h4] at e
    subst e
    rfl
  · rw [h5]
    rw [h4] at e
    subst e
    rfl
theorem own_sub {v : Value} {T : TypeId} {l : List α} (h : Own (E := E) w B T v l) {M : Nat → Prop} (hx : Ext M w w' col col') (hc : ∀ g, v.ownBlock = some g → ∀ c, col g = some c → ¬ M c.1) : Own (E := E) w' B T v l :=
  h.kept fun g hg => hx.block g (h.lt g hg).2 (hc g hg)
end
theorem so_z84 (w : World) : (zeroValue 101).run Tryz.prog w = .ok (.slice none 0 0) w := by kernel_rfl
theorem so_z85 (w : World) : (zeroValue 102).run Tryz.prog w = .ok (.slice none 0 0) w := by kernel_rfl
theorem so_z88 (w : World) : (zeroValue 105).run Tryz.prog w = .ok (.slice none 0 0) w := by kernel_rfl
section
variable {w w' : World} {B sb b0 b1 b2 b3 b4 : Nat} {vF : Value} {col col' : Col} {s : St}
theorem Sol.free (h : Sol w B sb b0 b1 b2 b3 b4 vF col s) {g : Nat} (hg : w.heap.size ≤ g) : col g = none := by
  cases hc : col g with
  | none => rfl
  | some c => have := h.dom g c hc; omega
theorem Sol.b1col (h : Sol w B sb b0 b1 b2 b3 b4 vF col s) : col b1 = some (2, .nil) := by obtain ⟨D, hD⟩ := h.inc; exact hD.cb
theorem Sol.b0col (h : Sol w B sb b0 b1 b2 b3 b4 vF col s) : col b0 = some (1, .nil) := by obtain ⟨D, hD⟩ := h.giv; exact hD.cb
theorem Sol.b2col (h : Sol w B sb b0 b1 b2 b3 b4 vF col s) : col b2 = some (3, .nil) := by obtain ⟨D, hD⟩ := h.bth; exact hD.cb
theorem Sol.b3col (h : Sol w B sb b0 b1 b2 b3 b4 vF col s) : col b3 = some (4, .nil) := by obtain ⟨D, hD⟩ := h.lnk; exact hD.cb
theorem Sol.b4col (h : Sol w B sb b0 b1 b2 b3 b4 vF col s) : col b4 = some (5, .nil) := by obtain ⟨_, _, _, _, e⟩ := h.kn; exact e
end
theorem foldl_take_succ {σ α : Type} (f : σ → α → σ) (s : σ) {l : List α} {k : Nat} {x : α} (h : l[k]? = some x) : (l.take (k + 1)).foldl f s = f ((l.take k).foldl f s) x := by
  rw [take_snoc_of h, List.foldl_append]; rfl
theorem adds_len (x : ByteArray) : ∀ (l : List Rl) (s : St), (l.foldl (fun s r => s.add (r, x)) s).kn.length ≤ s.kn.length + l.length ∧ (l.foldl (fun s r => s.add (r, x)) s).fr.length ≤ s.fr.length + l.length
  | [], s => ⟨Nat.le_refl _, Nat.le_refl _⟩
  | r :: l, s => by
    have := adds_len x l (s.add (r, x))
    have h2 : (s.add (r, x)).kn.length ≤ s.kn.length + 1 ∧ (s.add (r, x)).fr.length ≤ s.fr.length + 1 := by unfold St.add; split <;> simp
    simp only [List.foldl_cons, List.length_cons]
    omega
end Go.Proofs.YtfbapbpggicfbaaGreatDoor.Sh
