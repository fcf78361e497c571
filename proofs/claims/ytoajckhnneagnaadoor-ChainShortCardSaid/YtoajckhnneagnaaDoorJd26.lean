/-
  The search's add, by contract.
-/
import Derived.Test.YtoajckhnneagnaaDoorJd25
import Derived.Test.YtoajckhnneagnaaDoorJd5
import Derived.Test.YtoajckhnneagnaaDoorJd18
set_option linter.unusedVariables false
set_option linter.unusedSimpArgs false
namespace Go.Proofs.YtoajckhnneagnaaDoor.Sh
open Go Go.RowKit
open Go.Maps (Keyed)

set_option linter.unusedVariables false
set_option linter.unusedSimpArgs false
theorem row22 {w : World} {sb : Nat} {P : Nat → ByteArray} {vC vF vL v : Value} {b2 b3 b4 b5 b7 : Nat} {t : TypeId} (h : w.heap[sb]? = some (.cells (rowS P vC b2 b3 b4 b5 vF b7 vL) t (0, 0))) : (w.setCell ⟨sb, 22, none⟩ v).heap[sb]? = some (.cells (rowS P vC b2 b3 b4 b5 v b7 vL) t (0, 0)) :=
  heap_setCell_same w sb 22 _ _ v h
theorem row24 {w : World} {sb : Nat} {P : Nat → ByteArray} {vC vF vL v : Value} {b2 b3 b4 b5 b7 : Nat} {t : TypeId} (h : w.heap[sb]? = some (.cells (rowS P vC b2 b3 b4 b5 vF b7 vL) t (0, 0))) : (w.setCell ⟨sb, 24, none⟩ v).heap[sb]? = some (.cells (rowS P vC b2 b3 b4 b5 vF b7 v) t (0, 0)) :=
  heap_setCell_same w sb 24 _ _ v h
set_option maxHeartbeats 4000000 in
set_option maxRecDepth 100000 in
theorem cadd_any {L : Ly} {vF vL : Value} {col : Col} {x : Sx} {w : World} (h : Sea L w vF vL col x) (p : Pr) (hp : okP p) (m : Nat) (hm : m ≠ 0) (hn : x.s.kn.length ≤ 100000000000) (hf : x.s.fr.length ≤ 100000000000) :
    Calls Tryd.prog 66 #[.pointer (some ⟨L.sb, 0, none⟩), .agg #[.string p.1.1, .string p.1.2, .string p.2], .int .i64 (m : Int)] w fun e w' => e = .returned (.tuple #[]) ∧ ∃ vF' col', Sea L w' vF' vL col' { x with s := x.s.add p m } ∧ Ext Mc w w' col col' := by
  obtain ⟨⟨o, n⟩, who⟩ := p
  obtain ⟨r, hr⟩ : ∃ r, x.s.rn ((o, n), who) = r := ⟨_, rfl⟩
  obtain ⟨sb, hsb⟩ : ∃ sb, L.sb = sb := ⟨_, rfl⟩
  obtain ⟨b5, hb5⟩ : ∃ b5, L.b5 = b5 := ⟨_, rfl⟩
  obtain ⟨w1, hw1⟩ : ∃ w1, w1 = w.alloc (.cells #[.string o, .string n, .string who] 58) := ⟨_, rfl⟩
  have q1 : Below w.heap.size w w1 := by rw [hw1]; exact (Below.refl _ _).alloc (Nat.le_refl _) _
  have s1 := h.below q1
  have p0 : w1.heap[w.heap.size]? = some (.cells #[.string o, .string n, .string who] 58 (0, 0)) := by rw [hw1]; exact heap_alloc_new w _
  have hp1 : w.heap.size < w1.heap.size := (Array.getElem?_eq_some_iff.1 p0).1
  have HK := hid (fun W (hW : Below w1.heap.size w1 W) => (⟨by rw [← hsb, ← hb5]; exact (s1.below hW).cell.2.2.2.2.1, by rw [cell_of_row W _ 0 _ _ (0, 0) ((hW.block _ hp1).trans p0)]; rfl, by rw [cell_of_row W _ 1 _ _ (0, 0) ((hW.block _ hp1).trans p0)]; rfl, by rw [cell_of_row W _ 2 _ _ (0, 0) ((hW.block _ hp1).trans p0)]; rfl,
      by have := (s1.below hW).rn.look hp; rw [hr, hb5] at this; exact this⟩ :
    W.cell? ⟨sb, 21, none⟩ = some (.map (some b5)) ∧ W.cell? ⟨w.heap.size, 0, none⟩ = some (.string o) ∧ W.cell? ⟨w.heap.size, 1, none⟩ = some (.string n) ∧ W.cell? ⟨w.heap.size, 2, none⟩ = some (.string who) ∧
      (Instr.lookup 65 (.map (some b5)) (.agg #[.string o, .string n, .string who]) false).run Tryd.prog W = .ok (.int .i64 (r : Int)) W))
  have HR := hid hr
  have HS1 := hid s1
  have HQ1 := hid q1
  have HP := hid hp
  have HH := hid h
  have HSB := hid hsb
  have HB5 := hid hb5
  have HP0 := hid p0
  have HM := hid hm
  clear h hp p0 q1 s1 hr hm hb5
  simp only
  rw [hsb]
  clear hsb
  by_cases h0 : r = 0
  · subst h0
    simp only [Int.natCast_zero, Int.ofNat_zero] at HK
    go_enter Tryd.func66, Tryd.ntmps66
    go_wp2_with fail
    rw [← hw1]
    clear hw1
    obtain ⟨k1, k2, k3, k4, k5⟩ := HK.out _ (Below.refl _ _)
    go_region_held3 (fun w' => w'.cell? ⟨sb, 21, none⟩ = some (.map (some b5)) ∧ w'.cell? ⟨w.heap.size, 0, none⟩ = some (.string o) ∧ w'.cell? ⟨w.heap.size, 1, none⟩ = some (.string n) ∧ w'.cell? ⟨w.heap.size, 2, none⟩ = some (.string who) ∧
        (Instr.lookup 65 (.map (some b5)) (.agg #[.string o, .string n, .string who]) false).run Tryd.prog w' = .ok (.int .i64 0) w')
      (exact HK.out _ (Below.refl _ _).drew) (fail)
    go_wp2_with fail
    obtain ⟨w2, hw2⟩ : ∃ w2, w2 = w1.drew := ⟨_, rfl⟩
    rw [← hw2]
    have B2 : Below w1.heap.size w1 w2 := by rw [hw2]; exact (Below.refl _ _).drew
    have s2 := HS1.out.below B2
    have p2 := (B2.block _ hp1).trans HP0.out
    clear hw2
    have hb5 : b5 < w2.heap.size ∧ sb ≠ b5 ∧ w.heap.size ≠ b5 := by
      have e5 := HH.out.c5
      rw [HB5.out] at e5
      have h1 := HH.out.dom _ _ e5
      refine ⟨by have := HQ1.out.size; have := B2.size; omega, fun e' => ?_, by omega⟩
      have h2 := HH.out.csb
      rw [HSB.out, e', e5] at h2
      cases h2
    have hn63 : x.s.kn.length < maxLen := by unfold maxLen; omega
    have hrn2 : Rnm w2.drew b5 col x.s.kn.length x.s.rn := by have := s2.rn; rw [HB5.out] at this; exact this
    obtain ⟨w3, hrun, hk3, hg3⟩ := hrn2.add HP.out hn63 HM.out
    have HB2 : Hid (But (fun _ => False) w w2) := hid (.below (HQ1.out.trans (B2.mono HQ1.out.size)))
    have hsb : sb < w2.heap.size := by have := s2.lt; rw [HSB.out] at this; exact this
    have s2r : w2.drew.heap[sb]? = some (.cells (rowS L.P (.slice L.A L.nc L.cc) L.b2 L.b3 L.b4 L.b5 vF L.b7 vL) 69 (0, 0)) := by have := s2.row; rw [HSB.out] at this; exact this
    have s3 := (hg3.block sb hsb (by simp only [ne_eq, Option.some.injEq]; exact hb5.2.1)).trans s2r
    clear s2r
    have p3 := (hg3.block w.heap.size (by have := B2.size; show _ < w2.heap.size; omega) (by simp only [ne_eq, Option.some.injEq]; exact hb5.2.2)).trans p2
    have c4 : w2.cell? ⟨sb, 21, none⟩ = some (.map (some b5)) := (HK.out _ B2).1
    have k2 : w2.cell? ⟨w.heap.size, 0, none⟩ = some (.string o) := (HK.out _ B2).2.1
    have k3 : w2.cell? ⟨w.heap.size, 1, none⟩ = some (.string n) := (HK.out _ B2).2.2.1
    have k4 : w2.cell? ⟨w.heap.size, 2, none⟩ = some (.string who) := (HK.out _ B2).2.2.2.1
    have o3 : Own (E := encP) w3 L.B 58 vF x.s.fr := s2.fr.kept fun g hg => hg3.block g (s2.fr.lt g hg).2 (by
      simp only [ne_eq, Option.some.injEq]
      intro e
      have e5 := s2.c5
      have := s2.cfr g hg
      rw [e, ← HB5.out, e5] at this
      cases this)
    have HS3 := hid s3
    have HP3 := hid p3
    have HO3 := hid o3
    have HS2 := hid s2
    have HK3 := hid hk3
    have HG3 := hid hg3
    clear s2 p2 s3 p3 o3 hk3 hg3 hsb k1 k5 hrn2
    unfold pV at hrun
    simp only at hrun
    go_region_law fail
    all_goals
      go_wp2_with fail
      clear c4 k2 k3 k4 hrun
      have c5 : w3.cell? ⟨sb, 22, none⟩ = some vF := by rw [cell_of_row w3 _ 22 _ _ (0, 0) HS3.out]; rfl
      have f5 : w3.frozen? ⟨sb, 22, none⟩ = false := frozen_of_row w3 sb 22 _ _ HS3.out
      have k2 : w3.cell? ⟨w.heap.size, 0, none⟩ = some (.string o) := by rw [cell_of_row w3 _ 0 _ _ (0, 0) HP3.out]; rfl
      have k3 : w3.cell? ⟨w.heap.size, 1, none⟩ = some (.string n) := by rw [cell_of_row w3 _ 1 _ _ (0, 0) HP3.out]; rfl
      have k4 : w3.cell? ⟨w.heap.size, 2, none⟩ = some (.string who) := by rw [cell_of_row w3 _ 2 _ _ (0, 0) HP3.out]; rfl
      have hsz : w2.heap.size ≤ w3.heap.size := HG3.out.size
      have hBw : L.B ≤ w3.heap.size := Nat.le_trans HS2.out.base hsz
      have hfl : x.s.fr.length ≤ 1000000000000 := by omega
      have n1 := World.new_ne w3 _ c5
      have HVS : Hid (vF.ownBlock ≠ some sb) := hid (fun e => by
        have a := HS2.out.cfr sb e
        rw [← HSB.out, HS2.out.csb] at a
        cases a)
      have HR4 : Hid (∀ w4, (w3.alloc (.cells #[.string o, .string n, .string who] 58)).drew.grownBy w4 vF.ownBlock → w4.heap[sb]? = some (.cells (rowS L.P (.slice L.A L.nc L.cc) L.b2 L.b3 L.b4 L.b5 vF L.b7 vL) 69 (0, 0))) :=
        hid (fun w4 hg => by
          have hs3 := (Array.getElem?_eq_some_iff.1 HS3.out).1
          rw [hg.block sb (by simp; omega) (fun e => HVS.out e.symm)]
          exact ((MapKept.heap_alloc w3 _).2 sb hs3).trans HS3.out)
      have c5a : (w3.alloc (.cells #[.string o, .string n, .string who] 58)).cell? ⟨sb, 22, none⟩ = some vF := by
        have hs3 := (Array.getElem?_eq_some_iff.1 HS3.out).1
        rw [cell_of_row _ sb 22 _ _ (0, 0) (((MapKept.heap_alloc w3 _).2 sb hs3).trans HS3.out)]; rfl
      have n2 := World.new_ne w3 _ k2
      go_region_law ((first | (refine step_app1 (E := encP) (by rfl) slP (.tmp 23) (.tmp 25) (by rfl) (B := L.B) (v := vF) (l := x.s.fr) ((HO3.out.alloc _).drew) (by rfl) (ad := ⟨w3.heap.size, 0, none⟩) (c := 1) ((o, n), who) (by rfl) (reads_newd w3 #[.string o, .string n, .string who] 58 (0, 0)) hfl (by omega) (by simp; omega) ?_; intro A' c' w4 ho4 hg4 hl4; have r4 := hid (HR4.out _ hg4); have c54 : w4.cell? ⟨sb, 22, none⟩ = some vF := (by rw [cell_of_row w4 _ 22 _ _ (0, 0) r4.out]; rfl); have f54 : w4.frozen? ⟨sb, 22, none⟩ = false := frozen_of_row w4 sb 22 _ _ r4.out)))
      all_goals
        go_wp2_with fail
        go_end0
        have hw3 : w.heap.size ≤ w3.heap.size := Nat.le_trans HB2.out.size hsz
        have hN : (w3.alloc (.cells #[.string o, .string n, .string who] 58)).drew.heap.size = w3.heap.size + 1 := by simp
        have h34 : But (fun g => g = sb ∨ some g = vF.ownBlock) w3 (w4.setCell ⟨sb, 22, none⟩ (.slice A' (x.s.fr.length + 1) c')) :=
          ((((But.refl (fun g => g = sb ∨ some g = vF.ownBlock) w3).alloc _).drew).then_grown hg4 fun g e => .inr (.inr e.symm)).set _ (.inr (.inl rfl))
        have h04 : But (fun g => g = L.sb ∨ g = L.b5 ∨ some g = vF.ownBlock) w (w4.setCell ⟨sb, 22, none⟩ (.slice A' (x.s.fr.length + 1) c')) :=
          ((HB2.out.drew.mono fun _ _ h => h.elim).then_grown HG3.out fun g e => .inr (.inr (.inl (by rw [HB5.out]; injection e with e; exact e.symm)))).trans h34 fun g _ h => by
            rcases h with h | h
            · exact .inl (by rw [HSB.out]; exact h)
            · exact .inr (.inr h)
        have hl : (Value.slice A' (x.s.fr.length + 1) c').ownBlock = vF.ownBlock ∨ ∃ g, (Value.slice A' (x.s.fr.length + 1) c').ownBlock = some g ∧ w.heap.size ≤ g := by
          rcases hl4 with h | h
          · exact .inl h
          · exact .inr ⟨_, h, by omega⟩
        have ho5 : Own (E := encP) (w4.setCell ⟨sb, 22, none⟩ (.slice A' (x.s.fr.length + 1) c')) L.B 58 (.slice A' (x.s.fr.length + 1) c') (x.s.fr ++ [((o, n), who)]) := ho4.kept fun g hg => by
          refine Below.heap_setCell w4 ⟨sb, 22, none⟩ _ g ?_
          intro e
          rcases hl with h | ⟨g', h, h'⟩
          · have a := HH.out.cfr g (h ▸ hg)
            rw [e, ← HSB.out, HH.out.csb] at a
            cases a
          · rw [hg] at h
            injection h with h
            have := HH.out.lt
            rw [HSB.out] at this
            simp only at e
            omega
        obtain ⟨col', hS, hE⟩ := HH.out.added (n := m) HP.out HR.out (by rw [HSB.out]; exact row22 r4.out)
          (by rw [HB5.out]; exact HK3.out.frame (fun g hg => h34.block g (Nat.lt_of_lt_of_le (HH.out.dom g _ hg) hw3) (by
            rintro (h | h)
            · rw [h, ← HSB.out, HH.out.csb] at hg; cases hg
            · rw [HH.out.cfr g h.symm] at hg; cases hg)) (fun _ _ => rfl)) ho5 h04 hl
        exact ⟨rfl, _, _, hS, hE⟩
  · have e1 : ((r : Int) == 0) = false := beq_eq_false_iff_ne.2 (by omega)
    have e2 : ¬ (r : Int) = 0 := by omega
    have e3 : ((r : Int) != 0) = true := by rw [bne, e1]; rfl
    have e4 : (r == 0) = false := beq_eq_false_iff_ne.2 h0
    have e5 : (r != 0) = true := by rw [bne, e4]; rfl
    go_enter Tryd.func66, Tryd.ntmps66
    go_wp2_with fail
    rw [← hw1]
    clear hw1
    obtain ⟨k1, k2, k3, k4, k5⟩ := HK.out _ (Below.refl _ _)
    go_region_held3 (fun w' => w'.cell? ⟨sb, 21, none⟩ = some (.map (some b5)) ∧ w'.cell? ⟨w.heap.size, 0, none⟩ = some (.string o) ∧ w'.cell? ⟨w.heap.size, 1, none⟩ = some (.string n) ∧ w'.cell? ⟨w.heap.size, 2, none⟩ = some (.string who) ∧
        (Instr.lookup 65 (.map (some b5)) (.agg #[.string o, .string n, .string who]) false).run Tryd.prog w' = .ok (.int .i64 (r : Int)) w')
      (exact HK.out _ (Below.refl _ _).drew) (fail)
    go_wp2_with fail
    refine bodyPost_ret (results_none rfl _ _ _) rfl ?_
    exact ⟨rfl, vF, col, by rw [add_old (by rw [HR.out]; exact h0)]; exact HS1.out.below (Below.refl _ _).drew, Ext.of_below Mc col HQ1.out.drew⟩
end Go.Proofs.YtoajckhnneagnaaDoor.Sh
namespace Go.Proofs.YtoajckhnneagnaaDoor.Sh
open Go Go.RowKit

set_option linter.unusedVariables false
set_option linter.unusedSimpArgs false
set_option maxHeartbeats 4000000 in
theorem idxS_any (A : Option Addr) (l : List ByteArray) (n c : Nat) (hn : l.length = n) (hm : n ≤ 1000) (v : ByteArray) (w : World) (h : Els encS w w.heap.size A l) :
    Calls Tryd.prog 82 #[.slice A n c, .string v] w fun e w' => ∃ i : Int, e = .returned (.int .i64 i) ∧ decide (0 ≤ i) = decide (v ∈ l) ∧ Below w.heap.size w w' := by
  have HN := hid hn
  have HY := hid (fun W (hW : Below w.heap.size w W) => h.below hW)
  clear hn h
  go_enter Tryd.func82, Tryd.ntmps82
  go_wp2_with fail
  go_loopw [8] (fun i wr => ∃ j : Nat, j ≤ n ∧ i = .int .i64 j ∧ Hid (v ∉ l.take j) ∧ Hid (Below w.heap.size w wr)) (fun i _ => n - (intOf i).toNat)
  case atStart => exact ⟨0, Nat.zero_le _, rfl, hid (by simp), hid (Below.refl _ _)⟩
  case round =>
    obtain ⟨j, hj, rfl, HNI, HB⟩ := hrel
    by_cases hlt : j < n
    · obtain ⟨y, hx⟩ : ∃ x, l[j]? = some x := ⟨_, List.getElem?_eq_getElem (by rw [HN.out]; exact hlt)⟩
      obtain ⟨ad, aj, rfl, -, ea, -, a0, -⟩ := (HY.out wr HB.out).get hx
      have a0 := a0 _ rfl
      have ea : ad.add (j * 1) = aj := ea
      rw [Nat.mul_one] at ea
      have ea1 : ad.add j = aj := ea
      have hk0 : (0 : Int) ≤ (j : Int) := Int.natCast_nonneg _
      have hk1 : (j : Int) < (n : Int) := by omega
      have HX := hid hx
      clear hx
      by_cases hv : v = y
      · have hT : Hid (decide ((0 : Int) ≤ (j : Int)) = decide (v ∈ l)) := hid (by rw [decide_eq_true hk0, decide_eq_true]; rw [hv]; exact List.mem_of_getElem? HX.out)
        subst hv
        go_wp2_with fail
        go_ret
        exact ⟨_, rfl, hT.out, HB.out⟩
      · obtain ⟨x1, x2⟩ := inne hv
        have hT : Hid (v ∉ l.take (j + 1)) := hid (by
          rw [take_snoc_of HX.out, List.mem_append, List.mem_singleton]
          rintro (h1 | h1)
          · exact HNI.out h1
          · exact hv h1)
        clear hv
        go_wp2_with fail
        go_roundw
        case rel => exact ⟨j + 1, by omega, by go_num, hT, HB⟩
        case measure => simp [intOf]; omega
    · obtain rfl : j = n := by omega
      have hT : Hid (decide ((0 : Int) ≤ (-1 : Int)) = decide (v ∈ l)) := hid (by
        have := HNI.out
        rw [List.take_of_length_le (by rw [HN.out]; exact Nat.le_refl _)] at this
        rw [decide_eq_false this]; rfl)
      go_wp2_with fail
      go_ret
      exact ⟨_, rfl, hT.out, HB.out⟩
set_option maxHeartbeats 2000000 in
theorem conS_any (A : Option Addr) (l : List ByteArray) (n c : Nat) (hn : l.length = n) (hm : n ≤ 1000) (v : ByteArray) (w : World) (h : Els encS w w.heap.size A l) :
    Calls Tryd.prog 65 #[.slice A n c, .string v] w fun e w' => e = .returned (.bool (decide (v ∈ l))) ∧ Below w.heap.size w w' := by
  have HC := hid (idxS_any A l n c hn hm v w h)
  clear hn hm h
  go_enter Tryd.func65, Tryd.ntmps65
  go_wp2_with fail
  refine HC.out.mono ?_
  rintro er w2 ⟨i, rfl, hi, hb⟩
  have HI := hid hi
  clear hi
  go_wp2_with fail
  go_ret
  exact ⟨by rw [← HI.out]; rfl, hb⟩
end Go.Proofs.YtoajckhnneagnaaDoor.Sh
namespace Go.Proofs.YtoajckhnneagnaaDoor.Sh
open Go Go.RowKit
open Go.Maps (Keyed)

set_option linter.unusedVariables false
set_option linter.unusedSimpArgs false
theorem Sea.peo {L : Ly} {w : World} {vF vL : Value} {col : Col} {x : Sx} (h : Sea L w vF vL col x) : Els encS w w.heap.size (some ⟨L.sb, 0, none⟩) L.pe := fun _ => by
  refine ⟨_, rfl, h.lt, fun i u hu => ?_⟩
  have e : ∀ l : List ByteArray, ev encS l = l.map .string := fun l => by
    induction l with
    | nil => rfl
    | cons a t ih => unfold ev; rw [ih]; rfl
  unfold Ly.pe at hu
  rw [e, List.getElem?_map, List.getElem?_map] at hu
  have hi : i < 17 := by
    rcases Nat.lt_or_ge i 17 with h1 | h1
    · exact h1
    · rw [List.getElem?_eq_none (by simpa using h1)] at hu; cases hu
  rw [List.getElem?_range hi] at hu
  cases hu
  have := h.per hi
  by_cases h0 : i = 0
  · subst h0; rw [add_zero]; exact this
  · rw [add_pos _ i (by omega)]
    show w.cell? ⟨L.sb, 0 + i, none⟩ = _
    rw [Nat.zero_add]
    exact this
set_option maxHeartbeats 16000000 in
set_option maxRecDepth 100000 in
theorem ctake1_any {L : Ly} {vF vL : Value} {col : Col} {x : Sx} {w : World} (h : Sea L w vF vL col x) (c : Crd) (hc : mayC c = true) (hkd : c.kd = 1) (hic : x.s.ic ≤ 10000000000) (hkn : x.s.kn.length ≤ 10000000000) (hfr : x.s.fr.length ≤ 10000000000) :
    Calls Tryd.prog 44 #[.pointer (some ⟨L.sb, 0, none⟩), .agg c.cells.toArray] w fun e w' => e = .returned (.tuple #[]) ∧ ∃ vF' col', Sea L w' vF' vL col' { x with s := x.s.take L.pe c } ∧ Ext (fun _ => True) w w' col col' := by
  obtain ⟨d, q, nm, kd, wh, ao, an, bo, bn⟩ := c
  obtain ⟨sb, hsb⟩ : ∃ sb, L.sb = sb := ⟨_, rfl⟩
  obtain ⟨b2, hb2⟩ : ∃ b2, L.b2 = b2 := ⟨_, rfl⟩
  simp only at hkd
  subst hkd
  have h0 := may_head hc
  have HOC := hid (okC_of hc)
  have HR0 := hid (fun W => roleC_any ⟨d, q, nm, 1, wh, ao, an, bo, bn⟩ (by have := h0.1; omega) (by have := h0; omega) W)
  simp only at HR0
  obtain ⟨D, hD⟩ : ∃ D, domB d = D := ⟨_, rfl⟩
  have HOR : Hid (okR (D, nm)) := hid ⟨by rw [← hD]; exact ok_dom d, HOC.out.1⟩
  have HRL : Hid (roleOf ⟨d, q, nm, 1, wh, ao, an, bo, bn⟩ = (D, nm)) := hid (by unfold roleOf; rw [hD])
  have HFL : Hid (firstOf ⟨d, q, nm, 1, wh, ao, an, bo, bn⟩ = (D, an)) := hid (by unfold firstOf; rw [hD])
  rw [hD] at HR0
  obtain ⟨w1, hw1⟩ : ∃ w1, w1 = w.alloc (.cells (Crd.cells ⟨d, q, nm, 1, wh, ao, an, bo, bn⟩).toArray 55) := ⟨_, rfl⟩
  have HQ1 : Hid (Below w.heap.size w w1) := hid (by rw [hw1]; exact (Below.refl _ _).alloc (Nat.le_refl _) _)
  have HR1 : Hid (CrAt w1 w.heap.size ⟨d, q, nm, 1, wh, ao, an, bo, bn⟩) := hid (by rw [hw1]; exact CrAt.new w _)
  have HH := hid h
  have HMY := hid hc
  have HSB := hid hsb
  have HB2e := hid hb2
  have HAD := hid (fun W (hW : Below w.heap.size w W) => by
    have := cadd_any (h.below hW) ((D, nm), wh) ⟨HOR.out, HOC.out.2.1⟩ 1 (by omega) (by omega) (by omega)
    rw [hsb] at this
    exact this)
  have HCN := hid (fun W (hW : Below w.heap.size w W) => conS_any (some ⟨sb, 0, none⟩) L.pe 17 17 (by unfold Ly.pe; simp) (by omega) wh W (by rw [← hsb]; exact (h.below hW).peo))
  obtain ⟨TF, hTF⟩ : ∃ b, decide (wh ∈ L.pe) = b := ⟨_, rfl⟩
  have HTF := hid hTF
  rw [hTF] at HCN
  clear hTF
  have HIC0 : Hid (x.s.ic ≤ 100000000000) := hid (by omega)
  have HG1 : Hid True := hid trivial
  have HIC1 : Hid (x.s.ic + 1 ≤ 100000000000) := hid (by omega)
  have HIC2 : Hid (x.s.ic + 2 ≤ 100000000000) := hid (by omega)
  rw [hsb]
  clear h hc hD h0 hsb hb2 hic hkn hfr
  unfold Crd.cells at hw1 HR0 ⊢
  simp only at hw1 HR0 ⊢
  cases TF with
  | false =>
    go_enter Tryd.func44, Tryd.ntmps44
    go_wp2_with fail
    rw [← hw1]
    clear hw1
    go_wp2_with (go_at_call 58; (refine (HR0.out _).mono ?_); rintro er w2 ⟨rfl, bb⟩; have HB2 := hid (HQ1.out.trans (bb.mono HQ1.out.size)); have HC2 := hid (CrAt.kept (HR1.out.kept bb) ((Below.refl w2.heap.size w2).alloc (Nat.le_refl _) (.cells #[.string D, .string nm] 24))); have HRA := hid (RoleAt.new w2 D nm); (obtain ⟨a0, a1, a2, a3, a4, a5, a6, a7, a8⟩ := HC2.out.all); have a9 := HRA.out.c0; have a10 := HRA.out.c1; have n3 : w2.heap.size ≠ w.heap.size := (by have := HB2.out.size; have := HR1.out.lt; have := bb.size; omega); clear bb)
    have HW3 : Hid (Below w.heap.size w (w2.alloc (.cells #[.string D, .string nm] 24)).drew) := hid (HB2.out.alloc HB2.out.size (.cells #[.string D, .string nm] 24)).drew
    have HC3 : Hid (CrAt (w2.alloc (.cells #[.string D, .string nm] 24)).drew w.heap.size ⟨d, q, nm, 1, wh, ao, an, bo, bn⟩) := hid HC2.out
    have HR3 : Hid (RoleAt (w2.alloc (.cells #[.string D, .string nm] 24)).drew w2.heap.size D nm) := hid HRA.out
    clear a0 a1 a2 a3 a4 a5 a6 a7 a8 a9 a10
    go_region_held3 (fun w' => w'.cell? ⟨w.heap.size, 4, none⟩ = some (.string wh))
      (first | exact HC3.out.all.2.2.2.2.1 | exact HC4.out.all.2.2.2.2.1)
      (first | (go_at_call 65; (refine (HCN.out _ HW3.out).mono ?_); rintro er w4 ⟨rfl, bb⟩; have HC4 := hid (HC3.out.kept bb); have HR4 : Hid (RoleAt w4 w2.heap.size D nm) := hid ((bb.block _ HR3.out.lt).trans HR3.out); have HW4 := hid (HW3.out.trans (bb.mono HW3.out.size)); clear bb))
    all_goals
      go_wp2_with fail
      refine bodyPost_ret (results_none rfl _ _ _) rfl ?_
      exact ⟨rfl, vF, col, by rw [show x.s.take L.pe ⟨d, q, nm, 1, wh, ao, an, bo, bn⟩ = x.s from take_1n rfl (of_decide_eq_false HTF.out)]; exact HH.out.below HW4.out, Ext.of_below _ col HW4.out⟩
  | true =>
    go_enter Tryd.func44, Tryd.ntmps44
    go_wp2_with fail
    rw [← hw1]
    clear hw1
    go_wp2_with (go_at_call 58; (refine (HR0.out _).mono ?_); rintro er w2 ⟨rfl, bb⟩; have HB2 := hid (HQ1.out.trans (bb.mono HQ1.out.size)); have HC2 := hid (CrAt.kept (HR1.out.kept bb) ((Below.refl w2.heap.size w2).alloc (Nat.le_refl _) (.cells #[.string D, .string nm] 24))); have HRA := hid (RoleAt.new w2 D nm); (obtain ⟨a0, a1, a2, a3, a4, a5, a6, a7, a8⟩ := HC2.out.all); have a9 := HRA.out.c0; have a10 := HRA.out.c1; have n3 : w2.heap.size ≠ w.heap.size := (by have := HB2.out.size; have := HR1.out.lt; have := bb.size; omega); clear bb)
    have HW3 : Hid (Below w.heap.size w (w2.alloc (.cells #[.string D, .string nm] 24)).drew) := hid (HB2.out.alloc HB2.out.size (.cells #[.string D, .string nm] 24)).drew
    have HC3 : Hid (CrAt (w2.alloc (.cells #[.string D, .string nm] 24)).drew w.heap.size ⟨d, q, nm, 1, wh, ao, an, bo, bn⟩) := hid HC2.out
    have HR3 : Hid (RoleAt (w2.alloc (.cells #[.string D, .string nm] 24)).drew w2.heap.size D nm) := hid HRA.out
    clear a0 a1 a2 a3 a4 a5 a6 a7 a8 a9 a10
    go_region_held3 (fun w' => w'.cell? ⟨w.heap.size, 4, none⟩ = some (.string wh))
      (first | exact HC3.out.all.2.2.2.2.1 | exact HC4.out.all.2.2.2.2.1)
      (first | (go_at_call 65; (refine (HCN.out _ HW3.out).mono ?_); rintro er w4 ⟨rfl, bb⟩; have HC4 := hid (HC3.out.kept bb); have HR4 : Hid (RoleAt w4 w2.heap.size D nm) := hid ((bb.block _ HR3.out.lt).trans HR3.out); have HW4 := hid (HW3.out.trans (bb.mono HW3.out.size)); clear bb))
    all_goals
      obtain ⟨a0, a1, a2, a3, a4, a5, a6, a7, a8⟩ := HC4.out.all
      have a9 := HR4.out.c0
      have a10 := HR4.out.c1
      go_wp2_with (go_at_call 66; (refine (HAD.out _ HW4.out).mono ?_); rintro er w3 ⟨rfl, vF3, col3, hs3, hx3⟩; have HS3 := hid hs3; have HX3 := hid hx3; clear hs3 hx3)
      obtain ⟨y, hy⟩ : ∃ y, y = { x with s := x.s.add ((D, nm), wh) 1 } := ⟨_, rfl⟩
      rw [← hy] at HS3
      have HB3 := HW4
      have HXX : Hid (Ext (fun _ => True) w w3 col col3) := hid ((Ext.of_below (fun _ => True) col HB3.out).trans (HX3.out.mono fun _ _ => trivial))
      have f1 : col w.heap.size = none := HH.out.free (Nat.le_refl _)
      have f2 : col w2.heap.size = none := HH.out.free HB2.out.size
      have c3 : CrAt w3 w.heap.size ⟨d, q, nm, 1, wh, ao, an, bo, bn⟩ := (HX3.out.free HC4.out.lt f1).trans HC4.out
      have r3 : RoleAt w3 w2.heap.size D nm := (HX3.out.free HR4.out.lt f2).trans HR4.out
      have HEQ : Hid (({ x with s := x.s.take L.pe ⟨d, q, nm, 1, wh, ao, an, bo, bn⟩ } : Sx) = { y with s := y.s.toGiv (D, nm) ⟨d, q, nm, 1, wh, ao, an, bo, bn⟩ }) := hid (by rw [hy, ← HRL.out]; rw [take_1y rfl (of_decide_eq_true HTF.out)])
      have HIC : Hid (y.s.ic ≤ 100000000000) := hid (by rw [hy]; show (x.s.add _ _).ic ≤ _; rw [adds_ic]; exact HIC0.out)
      have HGS : Hid (∀ g ∈ [sb, w2.heap.size, w.heap.size], g < w3.heap.size ∧ (col3 g = some (0, .nil) ∨ col3 g = none)) := hid (fun g hg => by
        simp only [List.mem_cons, List.not_mem_nil, or_false] at hg
        rcases hg with rfl | rfl | rfl
        · exact ⟨by rw [← HSB.out]; exact HS3.out.lt, .inl (by rw [← HSB.out]; exact HS3.out.csb)⟩
        · exact ⟨r3.lt, .inr ((HX3.out.col _ HR4.out.lt).trans f2)⟩
        · exact ⟨c3.lt, .inr ((HX3.out.col _ HC4.out.lt).trans f1)⟩)
      have HKS : Hid (∀ W, Kp [sb, w2.heap.size, w.heap.size] w3 W → (fun w' => w'.cell? ⟨sb, 18, none⟩ = some (.map (some b2)) ∧ w'.cell? ⟨w2.heap.size, 0, none⟩ = some (.string D) ∧ w'.cell? ⟨w2.heap.size, 1, none⟩ = some (.string nm) ∧ w'.cell? ⟨w.heap.size, 0, none⟩ = some (.int .i64 d) ∧ w'.cell? ⟨w.heap.size, 1, none⟩ = some (.int .i64 q) ∧ w'.cell? ⟨w.heap.size, 2, none⟩ = some (.string nm) ∧ w'.cell? ⟨w.heap.size, 3, none⟩ = some (.int .i64 1) ∧ w'.cell? ⟨w.heap.size, 4, none⟩ = some (.string wh) ∧ w'.cell? ⟨w.heap.size, 5, none⟩ = some (.string ao) ∧ w'.cell? ⟨w.heap.size, 6, none⟩ = some (.string an) ∧ w'.cell? ⟨w.heap.size, 7, none⟩ = some (.string bo) ∧ w'.cell? ⟨w.heap.size, 8, none⟩ = some (.string bn)) W) := hid (fun W hW => ⟨by rw [cell_of_row W sb 18 _ _ (0, 0) ((hW sb (by simp)).trans (by rw [← HSB.out]; exact HS3.out.row)), ← HB2e.out]; rfl, by rw [cell_of_row W w2.heap.size 0 _ _ (0, 0) ((hW w2.heap.size (by simp)).trans r3)]; rfl, by rw [cell_of_row W w2.heap.size 1 _ _ (0, 0) ((hW w2.heap.size (by simp)).trans r3)]; rfl, by rw [cell_of_row W (w.heap.size) 0 _ _ (0, 0) ((hW w.heap.size (by simp)).trans c3)]; rfl, by rw [cell_of_row W (w.heap.size) 1 _ _ (0, 0) ((hW w.heap.size (by simp)).trans c3)]; rfl, by rw [cell_of_row W (w.heap.size) 2 _ _ (0, 0) ((hW w.heap.size (by simp)).trans c3)]; rfl, by rw [cell_of_row W (w.heap.size) 3 _ _ (0, 0) ((hW w.heap.size (by simp)).trans c3)]; rfl, by rw [cell_of_row W (w.heap.size) 4 _ _ (0, 0) ((hW w.heap.size (by simp)).trans c3)]; rfl, by rw [cell_of_row W (w.heap.size) 5 _ _ (0, 0) ((hW w.heap.size (by simp)).trans c3)]; rfl, by rw [cell_of_row W (w.heap.size) 6 _ _ (0, 0) ((hW w.heap.size (by simp)).trans c3)]; rfl, by rw [cell_of_row W (w.heap.size) 7 _ _ (0, 0) ((hW w.heap.size (by simp)).trans c3)]; rfl, by rw [cell_of_row W (w.heap.size) 8 _ _ (0, 0) ((hW w.heap.size (by simp)).trans c3)]; rfl⟩)
      clear hy f1 f2 c3 r3
      try clear a0 a1 a2 a3 a4 a5 a6 a7 a8
      try clear a9 a10 n3
      obtain ⟨v, ho, hvl, hvc, hent⟩ := HS3.out.giv.entry kr_inj klR Tryd.underlying63 ch_z22 (by have := HIC.out; unfold maxLen; omega) (k := (D, nm)) HOR.out (keyR HOR.out)
      unfold rV at hent
      simp only at hent
      obtain ⟨A, cA, rfl, -, -, -⟩ := ho.els
      rw [HB2e.out] at hent
      have hcb : col3 b2 = some (1, .nil) := by rw [← HB2e.out]; exact HS3.out.c2
      have hbl : b2 < w3.heap.size := HS3.out.dom _ _ hcb
      have hgs : ∀ g ∈ [sb, w2.heap.size, w.heap.size], g < w3.heap.size ∧ g ≠ b2 ∧ some g ≠ (Value.slice A (y.s.giv (D, nm)).length cA).ownBlock := fun g hg => by
        obtain ⟨q1, q2⟩ := HGS.out g hg
        refine ⟨q1, fun e => ?_, fun e => ?_⟩
        · rcases q2 with q2 | q2
          · rw [e, hcb] at q2; cases q2
          · rw [e, hcb] at q2; cases q2
        · have q3 := hvc _ e.symm
          rcases q2 with q2 | q2
          · rw [q3] at q2; cases q2
          · rw [q3] at q2; cases q2
      have hvb : ∀ g, (Value.slice A (y.s.giv (D, nm)).length cA).ownBlock = some g → g < w3.heap.size ∧ g ≠ b2 := fun g hg => ⟨(ho.lt g hg).2, fun e => by have h1 := hvc g hg; rw [e, hcb] at h1; simp at h1⟩
      obtain ⟨st1, u1, run1, g1, z1, fin1⟩ := hent w3.drew rfl
      obtain ⟨st2, u2, run2, g2, z2, fin2⟩ := hent (w3.alloc (.cells #[.int .i64 d, .int .i64 q, .string nm, .int .i64 1, .string wh, .string ao, .string an, .string bo, .string bn] 55)).drew ((MapKept.heap_alloc w3 _).2 _ hbl)
      have zX : (w3.alloc (.cells #[.int .i64 d, .int .i64 q, .string nm, .int .i64 1, .string wh, .string ao, .string an, .string bo, .string bn] 55)).drew.heap.size = w3.heap.size + 1 := by simp
      have zD : w3.drew.heap.size = w3.heap.size := rfl
      have kpD := hid ((Kp.refl [sb, w2.heap.size, w.heap.size] w3).drew)
      have kpA := hid (((Kp.refl [sb, w2.heap.size, w.heap.size] w3).alloc (fun g hg => (hgs g hg).1) (.cells #[.int .i64 d, .int .i64 q, .string nm, .int .i64 1, .string wh, .string ao, .string an, .string bo, .string bn] 55)).drew)
      have kp1 := hid (kpD.out.grown g1 (fun g hg => (hgs g hg).1) (fun g hg => by simp only [ne_eq, Option.some.injEq]; exact (hgs g hg).2.1))
      have kp1a := hid (kp1.out.alloc (fun g hg => by have := (hgs g hg).1; omega) (.cells #[.int .i64 d, .int .i64 q, .string nm, .int .i64 1, .string wh, .string ao, .string an, .string bo, .string bn] 55))
      have kp2 := hid (kpA.out.grown g2 (fun g hg => by have := (hgs g hg).1; omega) (fun g hg => by simp only [ne_eq, Option.some.injEq]; exact (hgs g hg).2.1))
      have oA := hid ((Own.kept ho (w' := u1) fun g hg => g1.block g (hvb g hg).1 (by simp only [ne_eq, Option.some.injEq]; exact (hvb g hg).2)).alloc (.cells #[.int .i64 d, .int .i64 q, .string nm, .int .i64 1, .string wh, .string ao, .string an, .string bo, .string bn] 55))
      have oB := hid (Own.kept ho (w' := u2) fun g hg => (g2.block g (by have := (hvb g hg).1; omega) (by simp only [ne_eq, Option.some.injEq]; exact (hvb g hg).2)).trans ((MapKept.heap_alloc w3 _).2 g (hvb g hg).1))
      have rA := hid (reads_new u1 #[.int .i64 d, .int .i64 q, .string nm, .int .i64 1, .string wh, .string ao, .string an, .string bo, .string bn] 55 (0, 0))
      have rB := hid ((reads_newd w3 #[.int .i64 d, .int .i64 q, .string nm, .int .i64 1, .string wh, .string ao, .string an, .string bo, .string bn] 55 (0, 0)).grown g2 (fun ad e => by cases e; exact ⟨by simp, by simp only [ne_eq, Option.some.injEq]; omega⟩))
      have bA := hid ((((But.refl (fun g => g = b2 ∨ some g = (Value.slice A (y.s.giv (D, nm)).length cA).ownBlock) w3).drew).then_grown g1 (fun g e => .inr (.inl (Option.some.inj e).symm))).alloc (.cells #[.int .i64 d, .int .i64 q, .string nm, .int .i64 1, .string wh, .string ao, .string an, .string bo, .string bn] 55))
      have bB := hid ((((But.refl (fun g => g = b2 ∨ some g = (Value.slice A (y.s.giv (D, nm)).length cA).ownBlock) w3).alloc (.cells #[.int .i64 d, .int .i64 q, .string nm, .int .i64 1, .string wh, .string ao, .string an, .string bo, .string bn] 55)).drew).then_grown g2 (fun g e => .inr (.inl (Option.some.inj e).symm)))
      have FA := hid fin1
      have FB := hid fin2
      have GS := hid hgs
      have VB := hid hvb
      have Z1 : Hid (u1.heap.size = w3.heap.size ∧ u2.heap.size = w3.heap.size + 1 ∧ (u1.alloc (.cells #[.int .i64 d, .int .i64 q, .string nm, .int .i64 1, .string wh, .string ao, .string an, .string bo, .string bn] 55)).heap.size = w3.heap.size + 1 ∧ b2 < w3.heap.size) := hid ⟨by omega, by omega, by simp; omega, hbl⟩
      have FBW : Hid (u1.heap[b2]? = (u1.alloc (.cells #[.int .i64 d, .int .i64 q, .string nm, .int .i64 1, .string wh, .string ao, .string an, .string bo, .string bn] 55)).heap[b2]?) := hid ((MapKept.heap_alloc u1 _).2 _ (by omega)).symm
      have VC := hid hvc
      have hbB : L.B ≤ w3.heap.size := HS3.out.base
      have hll : (y.s.giv (D, nm)).length ≤ 1000000000000 := by have := HIC.out; omega
      clear fin1 fin2 g1 g2 ho hvc hvl hent hvb hgs zX zD hbl hcb
      go_region_held3 (fun w' => w'.cell? ⟨sb, 18, none⟩ = some (.map (some b2)) ∧ w'.cell? ⟨w2.heap.size, 0, none⟩ = some (.string D) ∧ w'.cell? ⟨w2.heap.size, 1, none⟩ = some (.string nm) ∧ w'.cell? ⟨w.heap.size, 0, none⟩ = some (.int .i64 d) ∧ w'.cell? ⟨w.heap.size, 1, none⟩ = some (.int .i64 q) ∧ w'.cell? ⟨w.heap.size, 2, none⟩ = some (.string nm) ∧ w'.cell? ⟨w.heap.size, 3, none⟩ = some (.int .i64 1) ∧ w'.cell? ⟨w.heap.size, 4, none⟩ = some (.string wh) ∧ w'.cell? ⟨w.heap.size, 5, none⟩ = some (.string ao) ∧ w'.cell? ⟨w.heap.size, 6, none⟩ = some (.string an) ∧ w'.cell? ⟨w.heap.size, 7, none⟩ = some (.string bo) ∧ w'.cell? ⟨w.heap.size, 8, none⟩ = some (.string bn))
        (first | exact HKS.out _ kpD.out | exact HKS.out _ kpA.out | exact HKS.out _ kp1.out | exact HKS.out _ kp1a.out | exact HKS.out _ kp2.out | exact HKS.out _ kp5.out | exact HKS.out _ kp6.out)
        ((first | (refine step_appW (E := encC) (by rfl) slC (.tmp 60) (.tmp 62) (by rfl) (B := L.B) (v := .slice A (y.s.giv (D, nm)).length cA) (l := y.s.giv (D, nm)) oA.out (by rfl) (ad := ⟨u1.heap.size, 0, none⟩) (c := 1) (⟨d, q, nm, 1, wh, ao, an, bo, bn⟩ : Crd) (by rfl) rA.out hll (by omega) (by have := Z1.out; omega) ?_; intro A' c' w5 ho5 hg5 hl5; obtain ⟨w6, run6, g6, z6, fin6⟩ := FA.out w5 (.slice A' ((y.s.giv (D, nm)).length + 1) c') ((hg5.block b2 (by have := Z1.out; omega) (fun e => (VB.out b2 e.symm).2 rfl)).trans FBW.out.symm); have kp5 := hid (kp1a.out.grown hg5 (fun g hg => by have := (GS.out g hg).1; have := Z1.out; omega) (fun g hg => (GS.out g hg).2.2)); have kp6 := hid (kp5.out.grown g6 (fun g hg => by have := (GS.out g hg).1; have := Z1.out; have := hg5.size; omega) (fun g hg => by simp only [ne_eq, Option.some.injEq]; exact (GS.out g hg).2.1)); have b6 := hid ((bA.out.then_grown hg5 (fun g e => .inr (.inr e.symm))).then_grown g6 (fun g e => .inr (.inl (Option.some.inj e).symm))); have l6 := hid (loc_of (a := w3.heap.size) hl5 (by have := Z1.out; omega)); have o6 := hid (own_behind ho5 g6 l6.out (fun g e => (VB.out g e).2) (by have := Z1.out; omega)); have F6 := hid fin6; clear fin6 g6 hl5 ho5 hg5) | (refine step_appW (E := encC) (by rfl) slC (.tmp 60) (.tmp 62) (by rfl) (B := L.B) (v := .slice A (y.s.giv (D, nm)).length cA) (l := y.s.giv (D, nm)) oB.out (by rfl) (ad := ⟨w3.heap.size, 0, none⟩) (c := 1) (⟨d, q, nm, 1, wh, ao, an, bo, bn⟩ : Crd) (by rfl) rB.out hll (by omega) (by have := Z1.out; omega) ?_; intro A' c' w5 ho5 hg5 hl5; obtain ⟨w6, run6, g6, z6, fin6⟩ := FB.out w5 (.slice A' ((y.s.giv (D, nm)).length + 1) c') ((hg5.block b2 (by have := Z1.out; omega) (fun e => (VB.out b2 e.symm).2 rfl))); have kp5 := hid (kp2.out.grown hg5 (fun g hg => by have := (GS.out g hg).1; have := Z1.out; omega) (fun g hg => (GS.out g hg).2.2)); have kp6 := hid (kp5.out.grown g6 (fun g hg => by have := (GS.out g hg).1; have := Z1.out; have := hg5.size; omega) (fun g hg => by simp only [ne_eq, Option.some.injEq]; exact (GS.out g hg).2.1)); have b6 := hid ((bB.out.then_grown hg5 (fun g e => .inr (.inr e.symm))).then_grown g6 (fun g e => .inr (.inl (Option.some.inj e).symm))); have l6 := hid (loc_of (a := w3.heap.size) hl5 (by have := Z1.out; omega)); have o6 := hid (own_behind ho5 g6 l6.out (fun g e => (VB.out g e).2) (by have := Z1.out; omega)); have F6 := hid fin6; clear fin6 g6 hl5 ho5 hg5)))
      all_goals
        obtain ⟨h6, x6⟩ := HS3.out.gived (v := .slice A (y.s.giv (D, nm)).length cA) (v' := .slice A' ((y.s.giv (D, nm)).length + 1) c') HMY.out VC.out (by rw [HB2e.out]; exact b6.out) l6.out (fun g hg => (o6.out.lt g hg).2) (by rw [HB2e.out]; exact F6.out (⟨d, q, nm, 1, wh, ao, an, bo, bn⟩ : Crd) o6.out (fun g hg h1 h2 => b6.out.block g hg (fun h => h.elim h1 h2)) l6.out)
        go_wp2_with fail
        go_end0
        exact ⟨rfl, vF3, _, by rw [HEQ.out]; exact h6, HXX.out.trans (x6.mono fun _ _ => trivial)⟩
end Go.Proofs.YtoajckhnneagnaaDoor.Sh
