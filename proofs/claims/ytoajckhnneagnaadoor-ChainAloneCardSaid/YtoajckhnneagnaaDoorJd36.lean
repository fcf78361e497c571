/-
  The search's find, by contract.
-/
import Derived.Test.YtoajckhnneagnaaDoorJd35
import Derived.Test.YtoajckhnneagnaaDoorJd16
import Derived.Test.YtoajckhnneagnaaDoorJd17
import Derived.Test.YtoajckhnneagnaaDoorJd4
set_option linter.unusedVariables false
set_option linter.unusedSimpArgs false
namespace Go.Proofs.YtoajckhnneagnaaDoor.Sh
open Go Go.RowKit
open Go.Maps (Keyed)

set_option linter.unusedVariables false
set_option linter.unusedSimpArgs false
def Mfd (i : Nat) : Prop := i = 0 ∨ i = 7 ∨ i = 8
theorem Mfd.ofL {i : Nat} (h : Mlt i) : Mfd i := by unfold Mlt at h; unfold Mfd; omega
theorem Mfd.ofR {i : Nat} (h : Mr i) : Mfd i := by unfold Mr at h; unfold Mfd; omega
theorem find_no {L : Ly} {vF vL : Value} {col : Col} {s : Se} (hS : Sch L s) (p : Pr) (hp : okP p) (hpp : p.2 ∈ L.pe) (hrd : rd L.cs p = 0) (w : World) (re : Why) (nr : Nat) (h : Sea L w vF vL col ⟨s, re, nr, []⟩) :
    Calls Tryd.prog 28 #[.pointer (some ⟨L.sb, 0, none⟩), .agg #[.string p.1.1, .string p.1.2, .string p.2]] w fun e w' => e = .returned (.bool false) ∧ Below w.heap.size w w' := by
  obtain ⟨⟨o, n⟩, who⟩ := p
  have hrn : s.rn ((o, n), who) = 0 := (hS.rn _ hpp).trans hrd
  obtain ⟨sb, hsb⟩ : ∃ sb, L.sb = sb := ⟨_, rfl⟩
  obtain ⟨b5, hb5⟩ : ∃ b, L.b5 = b := ⟨_, rfl⟩
  obtain ⟨w1, hw1⟩ : ∃ w1, w1 = w.alloc (.cells #[.string o, .string n, .string who] 58) := ⟨_, rfl⟩
  obtain ⟨gp, hgp⟩ : ∃ g, w.heap.size = g := ⟨_, rfl⟩
  have q1 : Below w.heap.size w w1 := by rw [hw1]; exact (Below.refl _ _).alloc (Nat.le_refl _) _
  have HQ1 := hid q1
  have HP1 : Hid (PrA w1 gp o n who) := hid (by rw [hw1, ← hgp]; exact PrA.new w o n who)
  have HK := hid (fun W (hW : Below w1.heap.size w1 W) => (⟨by rw [← hsb, ← hb5]; exact ((h.below q1).below hW).cell.2.2.2.2.1, (HP1.out.kept hW).all.1, (HP1.out.kept hW).all.2.1, (HP1.out.kept hW).all.2.2, by have := ((h.below q1).below hW).rn.look hp; rw [show (⟨s, re, nr, []⟩ : Sx).s.rn ((o, n), who) = 0 from hrn, hb5] at this; exact this⟩ :
    W.cell? ⟨sb, 21, none⟩ = some (.map (some b5)) ∧ W.cell? ⟨gp, 0, none⟩ = some (.string o) ∧ W.cell? ⟨gp, 1, none⟩ = some (.string n) ∧ W.cell? ⟨gp, 2, none⟩ = some (.string who) ∧ (Instr.lookup 65 (.map (some b5)) (.agg #[.string o, .string n, .string who]) false).run Tryd.prog W = .ok (.int .i64 0) W))
  simp only [hsb]
  clear h hp hpp hrd hS hrn q1 hsb hb5
  go_enter Tryd.func28, Tryd.ntmps28
  go_wp2_with fail
  rw [← hw1]
  try rw [hgp]
  clear hw1 hgp
  obtain ⟨k1, k2, k3, k4, k5⟩ := HK.out _ (Below.refl _ _)
  go_region_held3 (fun w' => w'.cell? ⟨sb, 21, none⟩ = some (.map (some b5)) ∧ w'.cell? ⟨gp, 0, none⟩ = some (.string o) ∧ w'.cell? ⟨gp, 1, none⟩ = some (.string n) ∧ w'.cell? ⟨gp, 2, none⟩ = some (.string who) ∧ (Instr.lookup 65 (.map (some b5)) (.agg #[.string o, .string n, .string who]) false).run Tryd.prog w' = .ok (.int .i64 0) w')
    (exact HK.out _ (Below.refl _ _).drew) (fail)
  go_wp2_with fail
  go_ret
  exact ⟨rfl, HQ1.out.drew⟩
set_option maxHeartbeats 32000000 in
set_option maxRecDepth 100000 in
theorem find_yes {L : Ly} {vF vL : Value} {col : Col} {s : Se} (hS : Sch L s) (p : Pr) (hp : okP p) (hpp : p.2 ∈ L.pe) (hrd : rd L.cs p ≠ 0) (w : World) (re : Why) (nr : Nat) (h : Sea L w vF vL col ⟨s, re, nr, []⟩) (hr : ReI L.cs L.pe re nr) :
    Calls Tryd.prog 28 #[.pointer (some ⟨L.sb, 0, none⟩), .agg #[.string p.1.1, .string p.1.2, .string p.2]] w fun e w' => e = .returned (.bool true) ∧ ∃ vL' col' re' nr', Sea L w' vF vL' col' ⟨s, re', nr', []⟩ ∧ ReI L.cs L.pe re' nr' ∧ Exp L.cs (· = p) re re' ∧ re' p ≠ none ∧ Ext Mfd w w' col col' := by
  have hle := hS.le hpp
  have HXP := hid (fun vL' col' la' => explain_any (L := L) (vF := vF) (vL := vL') (col := col') (s := s) (la := la') hS p hp hpp hrd)
  have hrnp := hS.rn p hpp
  obtain ⟨⟨o, n⟩, who⟩ := p
  obtain ⟨R, hR⟩ : ∃ R, s.rn ((o, n), who) = R := ⟨_, rfl⟩
  have hR0 : R ≠ 0 := by rw [← hR, hrnp]; exact hrd
  have HLE : Hid (rd L.cs ((o, n), who) < 1000) := hid (by omega)
  obtain ⟨sb, hsb⟩ : ∃ sb, L.sb = sb := ⟨_, rfl⟩
  obtain ⟨b5, hb5⟩ : ∃ b, L.b5 = b := ⟨_, rfl⟩
  obtain ⟨w1, hw1⟩ : ∃ w1, w1 = w.alloc (.cells #[.string o, .string n, .string who] 58) := ⟨_, rfl⟩
  obtain ⟨gp, hgp⟩ : ∃ g, w.heap.size = g := ⟨_, rfl⟩
  have q1 : Below w.heap.size w w1 := by rw [hw1]; exact (Below.refl _ _).alloc (Nat.le_refl _) _
  have HQ1 := hid q1
  have HS1 := hid (h.below q1)
  have HP1 : Hid (PrA w1 gp o n who) := hid (by rw [hw1, ← hgp]; exact PrA.new w o n who)
  have HSB := hid hsb
  have HRI := hid hr
  have HOK := hid hp
  have e1 : ((R : Int) == 0) = false := beq_eq_false_iff_ne.2 (by omega)
  have e2 : ¬ (R : Int) = 0 := by omega
  have HK := hid (fun W (hW : Below w1.heap.size w1 W) => (⟨by rw [← hsb, ← hb5]; exact (HS1.out.below hW).cell.2.2.2.2.1, (HP1.out.kept hW).all.1, (HP1.out.kept hW).all.2.1, (HP1.out.kept hW).all.2.2, by have := (HS1.out.below hW).rn.look hp; rw [show (⟨s, re, nr, []⟩ : Sx).s.rn ((o, n), who) = R from hR, hb5] at this; exact this⟩ :
    W.cell? ⟨sb, 21, none⟩ = some (.map (some b5)) ∧ W.cell? ⟨gp, 0, none⟩ = some (.string o) ∧ W.cell? ⟨gp, 1, none⟩ = some (.string n) ∧ W.cell? ⟨gp, 2, none⟩ = some (.string who) ∧ (Instr.lookup 65 (.map (some b5)) (.agg #[.string o, .string n, .string who]) false).run Tryd.prog W = .ok (.int .i64 (R : Int)) W))
  simp only [hsb]
  clear h hp hpp hrd hS hrnp hR hle q1 hsb hb5 hr
  go_enter Tryd.func28, Tryd.ntmps28
  go_wp2_with fail
  rw [← hw1]
  try rw [hgp]
  clear hw1 hgp
  obtain ⟨k1, k2, k3, k4, k5⟩ := HK.out _ (Below.refl _ _)
  go_region_held3 (fun w' => w'.cell? ⟨sb, 21, none⟩ = some (.map (some b5)) ∧ w'.cell? ⟨gp, 0, none⟩ = some (.string o) ∧ w'.cell? ⟨gp, 1, none⟩ = some (.string n) ∧ w'.cell? ⟨gp, 2, none⟩ = some (.string who) ∧ (Instr.lookup 65 (.map (some b5)) (.agg #[.string o, .string n, .string who]) false).run Tryd.prog w' = .ok (.int .i64 (R : Int)) w')
    (exact HK.out _ (Below.refl _ _).drew) (fail)
  go_wp2_with fail
  obtain ⟨w3, hw3⟩ : ∃ w3, w3 = w1.drew := ⟨_, rfl⟩
  rw [← hw3]
  have HB3 : Hid (Below w1.heap.size w1 w3) := hid (by rw [hw3]; exact (Below.refl _ _).drew)
  clear hw3 k1 k2 k3 k4 k5
  have HS3 := hid (HS1.out.below HB3.out)
  have HP3 := hid (HP1.out.kept HB3.out)
  have HO3 : Hid (Own (E := encP) w3 L.B 58 vL []) := hid HS3.out.la
  have HR3 : Hid (w3.heap[sb]? = some (.cells (rowS L.P (.slice L.A L.nc L.cc) L.b2 L.b3 L.b4 L.b5 vF L.b7 vL) 69 (0, 0))) := hid (by have := HS3.out.row; rw [HSB.out] at this; exact this)
  have c5 : w3.cell? ⟨sb, 24, none⟩ = some vL := by rw [cell_of_row w3 _ 24 _ _ (0, 0) HR3.out]; rfl
  have f5 : w3.frozen? ⟨sb, 24, none⟩ = false := frozen_of_row w3 sb 24 _ _ HR3.out
  obtain ⟨k2, k3, k4⟩ := HP3.out.all
  have hBw : L.B ≤ w3.heap.size := HS3.out.base
  have hfl : ([] : List Pr).length ≤ 1000000000000 := by simp
  have n1 := World.new_ne w3 _ c5
  have HVS : Hid (vL.ownBlock ≠ some sb) := hid (fun e => by
    have a := HS3.out.cla sb e
    rw [← HSB.out, HS3.out.csb] at a
    cases a)
  have HR4 : Hid (∀ w4, (w3.alloc (.cells #[.string o, .string n, .string who] 58)).drew.grownBy w4 vL.ownBlock → w4.heap[sb]? = some (.cells (rowS L.P (.slice L.A L.nc L.cc) L.b2 L.b3 L.b4 L.b5 vF L.b7 vL) 69 (0, 0))) :=
    hid (fun w4 hg => by
      have hs3 := (Array.getElem?_eq_some_iff.1 HR3.out).1
      rw [hg.block sb (by simp; omega) (fun e => HVS.out e.symm)]
      exact ((MapKept.heap_alloc w3 _).2 sb hs3).trans HR3.out)
  have c5a : (w3.alloc (.cells #[.string o, .string n, .string who] 58)).cell? ⟨sb, 24, none⟩ = some vL := by
    have hs3 := (Array.getElem?_eq_some_iff.1 HR3.out).1
    rw [cell_of_row _ sb 24 _ _ (0, 0) (((MapKept.heap_alloc w3 _).2 sb hs3).trans HR3.out)]; rfl
  have n2 := World.new_ne w3 _ k2
  go_region_law ((first | (refine step_app1 (E := encP) (by rfl) slP (.tmp 18) (.tmp 20) (by rfl) (B := L.B) (v := vL) (l := []) ((HO3.out.alloc _).drew) (by rfl) (ad := ⟨w3.heap.size, 0, none⟩) (c := 1) ((o, n), who) (by rfl) (reads_newd w3 #[.string o, .string n, .string who] 58 (0, 0)) hfl (by omega) (by simp; omega) ?_; intro A' c' w4 ho4 hg4 hl4; have r4 := hid (HR4.out _ hg4); have c54 : w4.cell? ⟨sb, 24, none⟩ = some vL := (by rw [cell_of_row w4 _ 24 _ _ (0, 0) r4.out]; rfl); have f54 : w4.frozen? ⟨sb, 24, none⟩ = false := frozen_of_row w4 sb 24 _ _ r4.out)))
  all_goals
    go_wp2_with fail
    obtain ⟨w5, hw5⟩ : ∃ w5, w5 = w4.setCell ⟨sb, 24, none⟩ (.slice A' (([] : List Pr).length + 1) c') := ⟨_, rfl⟩
    have hN : (w3.alloc (.cells #[.string o, .string n, .string who] 58)).drew.heap.size = w3.heap.size + 1 := by simp
    have hb5 : But (fun g => g = L.sb ∨ some g = vL.ownBlock) w3 w5 := by
      rw [hw5, HSB.out]
      exact ((((But.refl (fun g => g = sb ∨ some g = vL.ownBlock) w3).alloc _).drew).then_grown hg4 fun g e => .inr (.inr e.symm)).set _ (.inr (.inl rfl))
    have hl5 : (Value.slice A' (([] : List Pr).length + 1) c').ownBlock = vL.ownBlock ∨ ∃ g, (Value.slice A' (([] : List Pr).length + 1) c').ownBlock = some g ∧ w3.heap.size ≤ g := by
      rcases hl4 with h | h
      · exact .inl h
      · exact .inr ⟨_, h, by omega⟩
    have ho5 : Own (E := encP) w5 L.B 58 (.slice A' (([] : List Pr).length + 1) c') [((o, n), who)] := by
      rw [hw5]
      exact ho4.kept fun g hg => by
        refine Below.heap_setCell w4 ⟨sb, 24, none⟩ _ g ?_
        intro e
        rcases hl5 with h | ⟨g', h, h'⟩
        · have a := HS3.out.cla g (h ▸ hg)
          rw [e, ← HSB.out, HS3.out.csb] at a
          cases a
        · rw [hg] at h
          injection h with h
          have := HS3.out.lt
          rw [HSB.out] at this
          simp only at e
          omega
    have hr5 : w5.heap[L.sb]? = some (.cells (rowS L.P (.slice L.A L.nc L.cc) L.b2 L.b3 L.b4 L.b5 vF L.b7 (.slice A' (([] : List Pr).length + 1) c')) 69 (0, 0)) := by rw [HSB.out, hw5]; exact row24 r4.out
    obtain ⟨col5, h5, x5⟩ := HS3.out.latered (la := [((o, n), who)]) (fun q hq => by rw [List.mem_singleton] at hq; rw [hq]; exact HOK.out) hr5 ho5 hb5 hl5
    have HX5 := hid x5
    have HS5 : Hid (Sea L w5 vF (.slice A' 1 c') col5 ⟨s, re, nr, [((o, n), who)]⟩) := hid h5
    have hels := ho5.els
    obtain ⟨A2, c2, e2, hcc, hcm, hEl⟩ := hels
    simp only [Value.slice.injEq] at e2
    obtain ⟨rfl, -, rfl⟩ := e2
    obtain ⟨ad, aj, rfl, hab, ea, hbj, a0, ai⟩ := hEl.get (show [((o, n), who)][0]? = some ((o, n), who) from rfl)
    have a0 := a0 _ rfl
    have a1 := ai 1 _ (by decide) rfl
    have a2 := ai 2 _ (by decide) rfl
    have ea : ad.add (0 * 3) = aj := ea
    rw [Nat.zero_mul] at ea
    have c24 : w5.cell? ⟨sb, 24, none⟩ = some (.slice (some ad) 1 c') := by have := HS5.out.cell.2.2.2.2.2.2.2; rw [HSB.out] at this; exact this
    have f24 : w5.frozen? ⟨sb, 24, none⟩ = false := by have := HS5.out.frz 24; rw [HSB.out] at this; exact this
    have hc1 : (1 : Int) ≤ (c' : Int) := by simp at hcc; omega
    have hc2 : (0 : Int) ≤ (c' : Int) := by omega
    rw [show (([] : List Pr).length + 1) = 1 from rfl] at hw5
    try rw [← hw5]
    clear hw5 hb5 hl5 ho5 hr5 h5 x5 hEl hab hbj ai ho4 hg4 hl4 r4 c54 f54 c5 f5 k2 k3 k4 c5a n1 n2 HR4 HVS hN hcc
    refine wp_loop_rounds 2 ?_
    rw [rounds_succ]
    go_upto_region 7 with fail
    obtain ⟨w6, hw6⟩ : ∃ w6, w6 = w5.alloc (.cells #[.string o, .string n, .string who] 58) := ⟨_, rfl⟩
    obtain ⟨gb, hgb⟩ : ∃ g, w5.heap.size = g := ⟨_, rfl⟩
    rw [← hw6]
    try rw [hgb]
    have HB6 : Hid (Below w5.heap.size w5 w6) := hid (by rw [hw6]; exact (Below.refl _ _).alloc (Nat.le_refl _) _)
    have HP6 : Hid (PrA w6 gb o n who) := hid (by rw [hw6, ← hgb]; exact PrA.new w5 _ _ _)
    have HS6 := hid (HS5.out.below HB6.out)
    have HNE : Hid (gb ≠ sb) := hid (by have := HS5.out.lt; rw [HSB.out] at this; omega)
    clear hw6 hgb a0 a1 a2 c24 f24
    have c24 : w6.cell? ⟨sb, 24, none⟩ = some (.slice (some ad) 1 c') := by have := HS6.out.cell.2.2.2.2.2.2.2; rw [HSB.out] at this; exact this
    have f24 : w6.frozen? ⟨sb, 24, none⟩ = false := by have := HS6.out.frz 24; rw [HSB.out] at this; exact this
    go_upto_region 8 with fail
    obtain ⟨w7, hw7⟩ : ∃ w7, w7 = w6.setCell ⟨sb, 24, none⟩ (.slice (some ad) 0 c') := ⟨_, rfl⟩
    rw [← hw7]
    have HP7 : Hid (PrA w7 gb o n who) := hid (by rw [hw7]; exact keep_set HP6.out HNE.out)
    have ho7 : Own (E := encP) w7 L.B 58 (.slice (some ad) 0 c') [] := by
      rw [hw7]
      exact (HS6.out.la.short (n := 0) (by simp)).kept fun g hg => by
        refine Below.heap_setCell w6 ⟨sb, 24, none⟩ _ g ?_
        intro e
        have a := HS6.out.cla g hg
        simp only at e
        rw [e, ← HSB.out, HS6.out.csb] at a
        cases a
    obtain ⟨col7, h7, x7⟩ := HS6.out.latered (la := []) (w' := w7) (vL' := .slice (some ad) 0 c') (by simp) (by rw [HSB.out, hw7]; have := HS6.out.row; rw [HSB.out] at this; exact row24 this) ho7 (by rw [hw7, HSB.out]; exact (But.refl _ w6).set _ (.inr (.inl rfl))) (.inl rfl)
    have HS7 := hid h7
    have HX7 := hid x7
    have HEX := hid (HXP.out _ col7 [] w7 re nr 1000 h7 HRI.out HLE.out (Nat.le_refl _))
    rw [HSB.out] at HEX
    obtain ⟨k0, k1, k2⟩ := HP7.out.all
    clear hw7 c24 f24 h7 x7 ho7
    go_wp2_with (go_at_call 46; (refine HEX.out.mono ?_); rintro er w9 ⟨rfl, re2, nr2, h9, r9, e9, d9, x9⟩; have HS9 := hid h9; have HR9 := hid r9; have HE9 := hid e9; have HD9 := hid d9; have HX9 := hid x9; have c24 : w9.cell? ⟨sb, 24, none⟩ = some (.slice (some ad) 0 c') := (by have := h9.cell.2.2.2.2.2.2.2; rw [HSB.out] at this; exact this); clear h9 r9 e9 d9 x9)
    rw [rounds_succ]
    go_wp2_with fail
    go_ret
    exact ⟨rfl, _, col7, re2, nr2, HS9.out, HR9.out, HE9.out, HD9.out, (Ext.of_below Mfd col (HQ1.out.trans (HB3.out.mono HQ1.out.size))).trans ((HX5.out.mono fun _ => Mfd.ofL).trans ((Ext.of_below Mfd col5 HB6.out).trans ((HX7.out.mono fun _ => Mfd.ofL).trans (HX9.out.mono fun _ => Mfd.ofR))))⟩
end Go.Proofs.YtoajckhnneagnaaDoor.Sh
namespace Go.Proofs.YtoajckhnneagnaaDoor.Sh
open Go Go.RowKit

set_option linter.unusedVariables false
set_option linter.unusedSimpArgs false
abbrev Sl := Nat × Nat
def leafT (p : Pr) : PT := .mk p.1.1 p.1.2 p.2 0 0 none 0 []
theorem leaf_cells (p : Pr) : (leafT p).cells = [.string p.1.1, .string p.1.2, .string p.2, .int .i64 0, .int .i64 0, .slice none 0 0] := rfl
def TrA (W : World) (s : Sl) (T : PT) : Prop := (∀ j u, T.cells[j]? = some u → W.cell? ⟨s.1, s.2 + j, none⟩ = some u) ∧ PIn W W.heap.size T
def kids (A : Option Addr) (ps : List Pr) : List (Sl × Pr) := match A with
  | some a => ps.mapIdx fun j q => ((a.block, j * 6), q)
  | none => []
structure PSt (cs : List Crd) (re : WhyM) (B R : Nat) (p0 : Pr) (g0 : Nat) (w : World) (Tr : Nat → Prop) (pend : List (Sl × Pr)) : Prop where
  tr : ∀ b, Tr b → B ≤ b ∧ b < w.heap.size
  at' : ∀ s ∈ pend, Tr s.1.1 ∧ s.1.2 % 6 = 0 ∧ ∃ cur T, w.heap[s.1.1]? = some (.cells cur T (0, 0)) ∧ s.1.2 + 6 ≤ cur.size ∧ ∀ j u, (leafT s.2).cells[j]? = some u → cur[s.1.2 + j]? = some u
  nd : (pend.map (·.1)).Nodup
  re : ∀ s ∈ pend, re s.2 ≠ none
  rk : ∀ k s, pend[k]? = some s → rd cs s.2 + k ≤ R
  fin : ∀ (W : World) (f : Sl → PT), w.heap.size ≤ W.heap.size → (∀ b off, Tr b → (∀ s ∈ pend, ¬ (s.1.1 = b ∧ s.1.2 ≤ off ∧ off < s.1.2 + 6)) → W.cell? ⟨b, off, none⟩ = w.cell? ⟨b, off, none⟩) →
    (∀ s ∈ pend, TrA W s.1 (f s.1) ∧ Can cs (f s.1) ∧ (f s.1).pr = s.2) → ∃ T, TrA W (g0, 0) T ∧ Can cs T ∧ T.pr = p0
noncomputable def wsm (cs : List Crd) (pend : List (Sl × Pr)) : Nat := (pend.map fun s => 3 ^ rd cs s.2).sum
section
variable {cs : List Crd} {re : WhyM} {B R : Nat} {p0 : Pr} {g0 : Nat} {w w' : World} {Tr : Nat → Prop} {pend rest : List (Sl × Pr)}
theorem kids_mem {A : Option Addr} {ps : List Pr} {s : Sl × Pr} (h : s ∈ kids A ps) : ∃ a j, A = some a ∧ ps[j]? = some s.2 ∧ s.1 = (a.block, j * 6) := by
  cases A with
  | none => simp [kids] at h
  | some a =>
    unfold kids at h
    simp only at h
    obtain ⟨j, hj, e⟩ := List.mem_iff_getElem.1 h
    rw [List.getElem_mapIdx] at e
    refine ⟨a, j, rfl, ?_, ?_⟩
    · rw [← e, List.getElem?_eq_getElem (by simpa using hj)]
    · rw [← e]
theorem kids_get {a : Addr} {ps : List Pr} {j : Nat} {q : Pr} (h : ps[j]? = some q) : (kids (some a) ps)[j]? = some ((a.block, j * 6), q) := by
  unfold kids
  simp only [List.getElem?_mapIdx, h]; rfl
theorem kids_len {A : Option Addr} {ps : List Pr} : (kids A ps).length ≤ ps.length := by
  cases A <;> simp [kids]
theorem kids_nodup {A : Option Addr} {ps : List Pr} : ((kids A ps).map (·.1)).Nodup := by
  cases A with
  | none => simp [kids]
  | some a =>
    unfold List.Nodup
    rw [List.pairwise_iff_getElem]
    intro i j hi hj hij e
    have hi2 : i < ps.length := by rw [List.length_map] at hi; exact Nat.lt_of_lt_of_le hi kids_len
    have hj2 : j < ps.length := by rw [List.length_map] at hj; exact Nat.lt_of_lt_of_le hj kids_len
    have h1 : ((kids (some a) ps).map (·.1))[i]? = some (a.block, i * 6) := by rw [List.getElem?_map, kids_get (List.getElem?_eq_getElem hi2)]; rfl
    have h2 : ((kids (some a) ps).map (·.1))[j]? = some (a.block, j * 6) := by rw [List.getElem?_map, kids_get (List.getElem?_eq_getElem hj2)]; rfl
    rw [List.getElem?_eq_getElem hi, e, ← List.getElem?_eq_getElem hj, h2] at h1
    simp only [Option.some.injEq, Prod.mk.injEq, true_and] at h1
    omega
theorem PSt.step {g o : Nat} {p : Pr} {c : Crd} {ps : List Pr} {A : Option Addr} {cap : Nat} {T0 : TypeId} (h : PSt cs re B R p0 g0 w Tr (rest ++ [((g, o), p)])) (hf : fs cs p = some (c, ps)) (hre : ∀ q ∈ ps, re q ≠ none) (hok : okI (c.d, c.q))
    (hs : w.heap.size ≤ w'.heap.size) (hb : ∀ b, Tr b → b ≠ g → w'.heap[b]? = w.heap[b]?) (hc1 : ps.length ≤ cap) (hc2 : cap ≤ 9223372036854775807)
    {cur cur' : Array Value} {T T' : TypeId} (hg : w.heap[g]? = some (.cells cur T (0, 0))) (hg' : w'.heap[g]? = some (.cells cur' T' (0, 0))) (hcs : cur'.size = cur.size) (h3 : cur'[o + 3]? = some (.int .i64 c.d)) (h4 : cur'[o + 4]? = some (.int .i64 c.q)) (h5 : cur'[o + 5]? = some (.slice A ps.length cap))
    (hoth : ∀ k, k ≠ o + 3 → k ≠ o + 4 → k ≠ o + 5 → cur'[k]? = cur[k]?) (hown : Own (E := encT) w' w.heap.size T0 (.slice A ps.length cap) (ps.map leafT)) :
    PSt cs re B R p0 g0 w' (fun b => Tr b ∨ ∃ a, A = some a ∧ 0 < ps.length ∧ b = a.block) (rest ++ kids A ps) := by
  have hmem : ((g, o), p) ∈ rest ++ [((g, o), p)] := by simp
  obtain ⟨hTg, ho6, cur0, Tg, e0, hsz, hleaf⟩ := h.at' _ hmem
  simp only at hTg ho6 e0 hsz hleaf
  rw [e0] at hg
  cases hg
  have hgs := h.tr g hTg
  -- the row of the parts
  have hrow : ∀ j q, ps[j]? = some q → ∃ ar curR, A = some ⟨ar, 0, none⟩ ∧ w.heap.size ≤ ar ∧ ar < w'.heap.size ∧ w'.heap[ar]? = some (.cells curR T0 (0, 0)) ∧ j * 6 + 6 ≤ curR.size ∧ ∀ i u, (leafT q).cells[i]? = some u → curR[j * 6 + i]? = some u := by
    intro j q hj
    have hjl : j < ps.length := (List.getElem?_eq_some_iff.1 hj).1
    obtain ⟨-, hr⟩ := hown
    rw [List.length_map] at hr
    rcases hr with ⟨-, h0⟩ | ⟨ar, cp, cr, e1, hB, hh, hle, -, hcsz, htk⟩
    · omega
    · simp only [Value.slice.injEq] at e1
      obtain ⟨rfl, -, rfl⟩ := e1
      have hk : encT.k = 6 := rfl
      rw [hk] at hcsz htk
      have hj6 : j * 6 + 6 ≤ ps.length * 6 := by omega
      have hps : ps.length * 6 ≤ cap * 6 := Nat.mul_le_mul_right _ hc1
      refine ⟨ar, cr, rfl, hB, (Array.getElem?_eq_some_iff.1 hh).1, hh, by omega, fun i u hu => ?_⟩
      have hi : i < 6 := by have := (List.getElem?_eq_some_iff.1 hu).1; rwa [leaf_cells] at this
      have hgl : (ps.map leafT)[j]? = some (leafT q) := by rw [List.getElem?_map, hj]; rfl
      have h1 := ev_get encT hgl (i := i) (by rw [hk]; exact hi)
      rw [hk, ← htk, List.getElem?_take, if_pos (by omega), Array.getElem?_toList] at h1
      exact h1.trans hu
  have hnewA : ∀ a, A = some a → 0 < ps.length → w.heap.size ≤ a.block ∧ a.block < w'.heap.size ∧ a = ⟨a.block, 0, none⟩ := fun a ea hp => by
    obtain ⟨q, hq⟩ : ∃ q, ps[0]? = some q := ⟨_, List.getElem?_eq_getElem hp⟩
    obtain ⟨ar, -, e1, h1, h2, -⟩ := hrow 0 q hq
    rw [ea] at e1
    cases e1
    exact ⟨h1, h2, rfl⟩
  have hpl : ps.length ≤ 2 := fs_len hf
  have hfl := fs_lt hf
  have hnd := h.nd
  rw [List.map_append, List.nodup_append] at hnd
  have hkid : ∀ s ∈ kids A ps, ∃ j, ps[j]? = some s.2 ∧ 0 < ps.length ∧ s.1.2 = j * 6 ∧ A = some ⟨s.1.1, 0, none⟩ ∧ w.heap.size ≤ s.1.1 ∧ s.1.1 < w'.heap.size := fun s hs => by
    obtain ⟨a, j, ea, hj, e1⟩ := kids_mem hs
    have hp : 0 < ps.length := by have := (List.getElem?_eq_some_iff.1 hj).1; omega
    obtain ⟨k1, k2, k3⟩ := hnewA a ea hp
    rw [e1]
    exact ⟨j, hj, hp, rfl, by rw [ea]; exact congrArg some k3, k1, k2⟩
  have hrs : ∀ s ∈ rest, s.1 ≠ (g, o) := fun s hs e => hnd.2.2 s.1 (List.mem_map_of_mem hs) (g, o) (by simp) e
  refine ⟨fun b hb' => ?_, fun s hs' => ?_, ?_, fun s hs' => ?_, fun k s hks => ?_, fun W f hW hag hfill => ?_⟩
  · rcases hb' with hb' | ⟨a, ea, hp, rfl⟩
    · have := h.tr b hb'; omega
    · have := hnewA a ea hp; omega
  · rcases List.mem_append.1 hs' with hs' | hs'
    · obtain ⟨t1, t2, cu, Tu, t3, t4, t5⟩ := h.at' s (List.mem_append_left _ hs')
      refine ⟨.inl t1, t2, ?_⟩
      by_cases eg : s.1.1 = g
      · rw [eg, e0] at t3
        cases t3
        refine ⟨cur', T', by rw [eg]; exact hg', by rw [hcs]; exact t4, fun j u hu => ?_⟩
        have hj : j < 6 := by have := (List.getElem?_eq_some_iff.1 hu).1; rwa [leaf_cells] at this
        have hne : s.1.2 ≠ o := fun e => hrs s hs' (Prod.ext eg e)
        rw [hoth _ (by omega) (by omega) (by omega)]
        exact t5 j u hu
      · exact ⟨cu, Tu, (hb _ t1 eg).trans t3, t4, t5⟩
    · obtain ⟨j, hj, hp, e2, eA, -, -⟩ := hkid s hs'
      obtain ⟨ar, cr, e1, -, -, hh, hsz2, hl2⟩ := hrow j s.2 hj
      rw [eA] at e1
      simp only [Option.some.injEq, Addr.mk.injEq, and_true] at e1
      refine ⟨.inr ⟨_, eA, hp, rfl⟩, by rw [e2]; omega, cr, T0, by rw [e1]; exact hh, by rw [e2]; exact hsz2, fun i u hu => by rw [e2]; exact hl2 i u hu⟩
  · rw [List.map_append, List.nodup_append]
    refine ⟨hnd.1, kids_nodup, fun a ha b hb' e => ?_⟩
    obtain ⟨s, hs', rfl⟩ := List.mem_map.1 ha
    obtain ⟨s2, hs2, rfl⟩ := List.mem_map.1 hb'
    have k1 := h.tr _ (h.at' s (List.mem_append_left _ hs')).1
    obtain ⟨j, -, -, -, -, k2, -⟩ := hkid s2 hs2
    rw [e] at k1; omega
  · rcases List.mem_append.1 hs' with hs' | hs'
    · exact h.re s (List.mem_append_left _ hs')
    · obtain ⟨j, hj, -⟩ := hkid s hs'
      exact hre _ (List.mem_of_getElem? hj)
  · rcases Nat.lt_or_ge k rest.length with hk | hk
    · rw [List.getElem?_append_left hk] at hks
      exact h.rk k s (by rw [List.getElem?_append_left hk]; exact hks)
    · rw [List.getElem?_append_right hk] at hks
      have hm := List.mem_of_getElem? hks
      obtain ⟨j, hj, -⟩ := hkid s hm
      have h1 := h.rk rest.length ((g, o), p) (by rw [List.getElem?_append_right (Nat.le_refl _)]; simp)
      have h2 := (hfl _ (List.mem_of_getElem? hj)).2.1
      have h3 : k - rest.length < 2 := by
        have := (List.getElem?_eq_some_iff.1 hks).1
        have := kids_len (A := A) (ps := ps)
        omega
      simp only at h1
      omega
  · obtain ⟨Ta, hTa⟩ : ∃ Ta : PT, Ta = PT.mk p.1.1 p.1.2 p.2 c.d c.q A cap ((kids A ps).map fun s => f s.1) := ⟨_, rfl⟩
    have hkl : (kids A ps).length = ps.length := by
      rcases Nat.eq_zero_or_pos ps.length with hp | hp
      · have := kids_len (A := A) (ps := ps); omega
      · obtain ⟨q, hq⟩ : ∃ q, ps[0]? = some q := ⟨_, List.getElem?_eq_getElem hp⟩
        obtain ⟨ar, -, e1, -⟩ := hrow 0 q hq
        rw [e1]; simp [kids]
    have hkp : (kids A ps).map (·.2) = ps := by
      rcases Nat.eq_zero_or_pos ps.length with hp | hp
      · have h1 : (kids A ps) = [] := List.eq_nil_of_length_eq_zero (by omega)
        rw [h1, List.eq_nil_of_length_eq_zero hp]; rfl
      · obtain ⟨q, hq⟩ : ∃ q, ps[0]? = some q := ⟨_, List.getElem?_eq_getElem hp⟩
        obtain ⟨ar, -, e1, -⟩ := hrow 0 q hq
        rw [e1]
        refine List.ext_getElem? fun i => ?_
        rw [List.getElem?_map]
        cases hi : ps[i]? with
        | none => rw [List.getElem?_eq_none (by rw [← e1, hkl]; exact List.getElem?_eq_none_iff.1 hi)]; rfl
        | some q => rw [kids_get hi]; rfl
    have hfk : ∀ s ∈ kids A ps, TrA W s.1 (f s.1) ∧ Can cs (f s.1) ∧ (f s.1).pr = s.2 := fun s hs' => hfill s (List.mem_append_right _ hs')
    have hnotg : ∀ off, o ≤ off → off < o + 6 → W.cell? ⟨g, off, none⟩ = w'.cell? ⟨g, off, none⟩ := fun off q1 q2 => hag g off (.inl hTg) fun s hs' ⟨r1, r2, r3⟩ => by
      rcases List.mem_append.1 hs' with hs' | hs'
      · obtain ⟨-, t2, -⟩ := h.at' s (List.mem_append_left _ hs')
        exact hrs s hs' (Prod.ext r1 (by simp only; omega))
      · obtain ⟨j, -, -, -, -, k1, -⟩ := hkid s hs'
        omega
    have hTA : TrA W (g, o) Ta := by
      refine ⟨fun j u hu => ?_, ?_⟩
      · have hj : j < 6 := by rw [hTa] at hu; have := (List.getElem?_eq_some_iff.1 hu).1; simpa [PT.cells] using this
        rw [hnotg _ (by omega) (by omega), cell_of_row w' g (o + j) cur' T' (0, 0) hg']
        have hk6 : j = 0 ∨ j = 1 ∨ j = 2 ∨ j = 3 ∨ j = 4 ∨ j = 5 := by omega
        rw [hTa] at hu
        rcases hk6 with rfl | rfl | rfl | rfl | rfl | rfl
        · rw [hoth _ (by omega) (by omega) (by omega)]; exact hleaf 0 _ hu
        · rw [hoth _ (by omega) (by omega) (by omega)]; exact hleaf 1 _ hu
        · rw [hoth _ (by omega) (by omega) (by omega)]; exact hleaf 2 _ hu
        · rw [h3]; exact hu
        · rw [h4]; exact hu
        · rw [h5]
          simp only [PT.cells, List.length_map, hkl] at hu
          exact hu
      · rw [hTa]
        refine .mk hok (by rw [List.length_map, hkl]; exact hc1) hc2 (fun hp => ?_) fun q hq => ?_
        · rw [List.length_map, hkl] at hp
          obtain ⟨q, hq⟩ : ∃ q, ps[0]? = some q := ⟨_, List.getElem?_eq_getElem hp⟩
          obtain ⟨ar, -, e1, k1, k2, -⟩ := hrow 0 q hq
          refine ⟨⟨ar, 0, none⟩, e1, Nat.lt_of_lt_of_le k2 hW, fun i u hu => ?_⟩
          have hi : i < (ev encT ((kids A ps).map fun s => f s.1)).length := (List.getElem?_eq_some_iff.1 hu).1
          have hk : encT.k = 6 := rfl
          rw [ev_length, List.length_map, hkl, hk] at hi
          obtain ⟨q2, hq2⟩ : ∃ q2, ps[i / 6]? = some q2 := ⟨_, List.getElem?_eq_getElem (by omega)⟩
          have hkg : (kids A ps)[i / 6]? = some ((ar, i / 6 * 6), q2) := by rw [e1]; exact kids_get hq2
          have hgl : ((kids A ps).map fun s => f s.1)[i / 6]? = some (f (ar, i / 6 * 6)) := by rw [List.getElem?_map, hkg]; rfl
          have h1 := ev_get encT hgl (i := i % 6) (by rw [hk]; omega)
          rw [hk, show i / 6 * 6 + i % 6 = i by omega, hu] at h1
          have h2 := (hfk _ (List.mem_of_getElem? hkg)).1.1 (i % 6) u h1.symm
          simp only at h2
          rw [show i / 6 * 6 + i % 6 = i by omega] at h2
          rcases Nat.eq_zero_or_pos i with e | e
          · subst e; rw [add_zero]; exact h2
          · rw [add_pos _ i e]
            show W.cell? ⟨ar, 0 + i, none⟩ = _
            rw [Nat.zero_add]; exact h2
        · obtain ⟨s, hs', rfl⟩ := List.mem_map.1 hq
          exact (hfk s hs').1.2
    have hCan : Can cs Ta := by
      rw [hTa]
      refine .mk (c := c) (ps := ps) hf rfl rfl ?_ fun q hq => ?_
      · show ((kids A ps).map fun s => f s.1).map PT.pr = ps
        rw [List.map_map]
        conv => rhs; rw [← hkp]
        exact List.map_congr_left fun s hs' => (hfk s hs').2.2
      · obtain ⟨s, hs', rfl⟩ := List.mem_map.1 (show q ∈ (kids A ps).map fun s => f s.1 from hq)
        exact (hfk s hs').2.1
    classical
    refine h.fin W (fun s => if s = (g, o) then Ta else f s) (Nat.le_trans hs hW) (fun b off hTb hno => ?_) fun s hs' => ?_
    · have hbs := h.tr b hTb
      rw [hag b off (.inl hTb) fun s hs' hin => by
        rcases List.mem_append.1 hs' with hs' | hs'
        · exact hno s (List.mem_append_left _ hs') hin
        · obtain ⟨j, -, -, -, -, k1, -⟩ := hkid s hs'
          omega]
      by_cases eb : b = g
      · subst eb
        have := hno ((b, o), p) hmem
        simp only [true_and] at this
        rw [cell_of_row w' b off cur' T' (0, 0) hg', cell_of_row w b off cur T (0, 0) e0, hoth _ (by omega) (by omega) (by omega)]
      · unfold World.cell?
        rw [hb b hTb eb]
    · rcases List.mem_append.1 hs' with hs' | hs'
      · simp only [if_neg (hrs s hs')]
        exact hfill s (List.mem_append_left _ hs')
      · rw [List.mem_singleton] at hs'
        subst hs'
        simp only [if_true]
        exact ⟨hTA, hCan, by rw [hTa]; rfl⟩
theorem wsm_step {s : Sl × Pr} {c : Crd} {ps : List Pr} {A : Option Addr} (hf : fs cs s.2 = some (c, ps)) : wsm cs (rest ++ kids A ps) < wsm cs (rest ++ [s]) := by
  unfold wsm
  rw [List.map_append, List.sum_append, List.map_append, List.sum_append, List.map_singleton, List.sum_singleton]
  have hfl := fs_lt hf
  have hpl := fs_len hf
  have h0 := fs_rd hf
  obtain ⟨r, hr⟩ : ∃ r, rd cs s.2 = r + 1 := ⟨rd cs s.2 - 1, by omega⟩
  have key : ∀ l : List (Sl × Pr), (∀ x ∈ l, rd cs x.2 ≤ r) → (l.map fun x => 3 ^ rd cs x.2).sum ≤ l.length * 3 ^ r := by
    intro l
    induction l with
    | nil => intro _; simp
    | cons x t ih =>
      intro hl
      rw [List.map_cons, List.sum_cons, List.length_cons, Nat.succ_mul]
      have h1 := ih fun y hy => hl y (List.mem_cons_of_mem _ hy)
      have h2 : 3 ^ rd cs x.2 ≤ 3 ^ r := Nat.pow_le_pow_right (by omega) (hl x (by simp))
      omega
  have h1 := key (kids A ps) fun x hx => by
    obtain ⟨a, j, -, hj, -⟩ := kids_mem hx
    have := (hfl _ (List.mem_of_getElem? hj)).2.1
    omega
  have h2 : (kids A ps).length ≤ 2 := Nat.le_trans kids_len hpl
  have h3 : (kids A ps).length * 3 ^ r ≤ 2 * 3 ^ r := Nat.mul_le_mul_right _ h2
  have h4 : 3 ^ (r + 1) = 3 * 3 ^ r := by rw [Nat.pow_succ, Nat.mul_comm]
  have h5 : 0 < 3 ^ r := Nat.pow_pos (by omega)
  rw [hr, h4]
  omega
end
end Go.Proofs.YtoajckhnneagnaaDoor.Sh
