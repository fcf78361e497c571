/-
  What a credential brings about: the document's own brings, at a Member and an Include.
-/
import Derived.Test.YtoajckhnneagnaaDoorJd18
set_option linter.unusedVariables false
set_option linter.unusedSimpArgs false
namespace Go.Proofs.YtoajckhnneagnaaDoor.Sh
open Go Go.RowKit

set_option linter.unusedVariables false
set_option linter.unusedSimpArgs false
set_option maxHeartbeats 8000000 in
set_option maxRecDepth 100000 in
theorem brings_inc (d q : Int) (nm wh ao an bo bn : ByteArray) (h0 : -9223372036854775808 ≤ d) (h1 : d < 9223372036854775808) (A : Option Addr) (l : List Pr) (n cap : Nat) (hn : l.length = n) (hm : n ≤ 1000000) (w : World) (h : Els encP w w.heap.size A l) :
    Calls Tryd.prog 47 #[.agg #[.int .i64 d, .int .i64 q, .string nm, .int .i64 2, .string wh, .string ao, .string an, .string bo, .string bn], .slice A n cap] w fun e w' => ∃ A' c' out, e = .returned (.slice A' out.length c') ∧ Own (E := encP) w' w.heap.size 47 (.slice A' out.length c') out ∧ Below w.heap.size w w' ∧ (∀ p, p ∈ out ↔ Brg ⟨d, q, nm, 2, wh, ao, an, bo, bn⟩ l p) ∧ out.length ≤ n * n := by
  have HN := hid hn
  have HY := hid h
  obtain ⟨w1, hw1⟩ : ∃ w1, w1 = w.alloc (.cells #[.int .i64 d, .int .i64 q, .string nm, .int .i64 2, .string wh, .string ao, .string an, .string bo, .string bn] 55) := ⟨_, rfl⟩
  have r1 : CrAt w1 w.heap.size ⟨d, q, nm, 2, wh, ao, an, bo, bn⟩ := by rw [hw1]; exact CrAt.new w ⟨d, q, nm, 2, wh, ao, an, bo, bn⟩
  have q1 : Below w.heap.size w w1 := by rw [hw1]; exact below_cr w ⟨d, q, nm, 2, wh, ao, an, bo, bn⟩
  have HRO := hid (fun W => refRoleC_any ⟨d, q, nm, 2, wh, ao, an, bo, bn⟩ h0 h1 W)
  obtain ⟨D, hD⟩ : ∃ D, domB d = D := ⟨_, rfl⟩
  have HD := hid hD
  unfold Crd.cells at HRO
  simp only [hD] at HRO
  have HR1 := hid r1
  have HQ1 := hid q1
  clear hn h r1 q1 hD
  go_enter Tryd.func47, Tryd.ntmps47
  go_wp2_with fail
  rw [← hw1]
  clear hw1
  obtain ⟨c0, c1, c2, c3, c4, c5, c6, c7, c8⟩ := HR1.out.all
  go_wp2_with fail
  refine (HRO.out _).mono ?_
  rintro er w2 ⟨rfl, b2⟩
  obtain ⟨w3, hw3⟩ : ∃ w3, w3 = w2.alloc (.cells #[.string D, .string nm] 24) := ⟨_, rfl⟩
  have q3 : Below w2.heap.size w2 w3 := by rw [hw3]; exact below_box w2 D nm
  have r3 : RoleAt w3 w2.heap.size D nm := by rw [hw3]; exact RoleAt.new w2 D nm
  have b3 : Below w1.heap.size w1 w3 := b2.trans (q3.mono b2.size)
  have HR3 := hid (HR1.out.kept b3)
  have HRR := hid r3
  have HQ3 := hid (HQ1.out.trans (b3.mono HQ1.out.size))
  have z3 : (w2.alloc (.cells #[.string D, .string nm] 24)).cell? ⟨w.heap.size, 3, none⟩ = some (.int .i64 2) := by rw [← hw3]; exact HR3.out.cell 3 _ rfl
  clear b2 q3 r3 b3 c0 c1 c2 c3 c4 c5 c6 c7 c8
  go_wp2_with fail
  rw [← hw3]
  clear hw3 z3
  have hg5 : w2.heap.size < w3.heap.size := HRR.out.lt
  obtain ⟨g5, hg⟩ : ∃ g5, w2.heap.size = g5 := ⟨_, rfl⟩
  rw [hg] at HRR hg5 ⊢
  clear hg
  go_loopw [6, 7] (fun v i wr => ∃ (A' : Option Addr) (c' j : Nat) (out : List Pr), v = .slice A' out.length c' ∧ i = .int .i64 (j : Int) ∧ j ≤ n ∧ Hid (Own (E := encP) wr w3.heap.size 47 (.slice A' out.length c') out) ∧ Hid (∀ p : Pr, p ∈ out ↔ p.1 = (D, nm) ∧ ((ao, an), p.2) ∈ l.take j) ∧ Hid (out.length ≤ j) ∧ Hid (Below w3.heap.size w3 wr)) (fun _ i _ => n - (intOf i).toNat)
  case atStart => exact ⟨none, 0, 0, [], rfl, rfl, Nat.zero_le _, hid (Own.nil _ _ _), hid (by simp), hid (Nat.le_refl _), hid (Below.refl _ _)⟩
  case round =>
    obtain ⟨A', c', j, out, rfl, rfl, hj, HOW, HOU, HOL, HB⟩ := hrel
    by_cases hlt : j < n
    · obtain ⟨⟨⟨o2, n2⟩, y⟩, hx⟩ : ∃ x, l[j]? = some x := ⟨_, List.getElem?_eq_getElem (by rw [HN.out]; exact hlt)⟩
      have HX := hid hx
      have hy3 := HY.out.below HQ3.out
      have hel := hy3.below (HB.out.mono HQ3.out.size)
      obtain ⟨ad, aj, rfl, hab, ea, hbj, a0, ai⟩ := hel.get hx
      have a0 := a0 _ rfl
      have a1 := ai 1 _ (by omega) rfl
      have a2 := ai 2 _ (by omega) rfl
      have ea : ad.add (j * 3) = aj := ea
      have hk0 : (0 : Int) ≤ (j : Int) := Int.natCast_nonneg _
      have hk1 : (j : Int) < (n : Int) := by omega
      obtain ⟨c0, c1, c2, c3, c4, c5, c6, c7, c8⟩ := (HR3.out.kept HB.out).all
      have g0 := (HRR.out.kept HB.out).c0
      have g1 := (HRR.out.kept HB.out).c1
      clear hx hy3 hel ai
      by_cases he : o2 = ao ∧ n2 = an
      · obtain ⟨rfl, rfl⟩ := he
        have HT : Hid (∀ p : Pr, p ∈ out ++ [((D, nm), y)] ↔ p.1 = (D, nm) ∧ ((o2, n2), p.2) ∈ l.take (j + 1)) := hid (fun p => by
          rw [List.mem_append, List.mem_singleton, HOU.out, take_snoc_of HX.out, List.mem_append, List.mem_singleton]
          constructor
          · rintro (⟨h1, h2⟩ | rfl)
            · exact ⟨h1, .inl h2⟩
            · exact ⟨rfl, .inr rfl⟩
          · rintro ⟨h1, h2 | h2⟩
            · exact .inl ⟨h1, h2⟩
            · simp only [Prod.mk.injEq] at h2
              exact .inr (Prod.ext h1 h2.2))
        have HEL := hid (fun W (hW : Below wr.heap.size wr W) => ((HY.out.below HQ3.out).below ((HB.out.trans (hW.mono HB.out.size)).mono HQ3.out.size)))
        have HIN := hid (fun W (hW : Below wr.heap.size wr W) => in_any (some ad) l n cap HN.out (by omega) bo bn y W ((HEL.out W hW).more (Nat.le_trans HQ3.out.size (Nat.le_trans HB.out.size hW.size))))
        have HJB : Hid (aj.block < w.heap.size) := hid (by rw [hbj]; exact hab)
        have HK := hid (fun W (hW : Below wr.heap.size wr W) => (⟨(hW.cell (p := aj) (Nat.lt_of_lt_of_le HJB.out (Nat.le_trans HQ3.out.size HB.out.size))).trans a0, (hW.cell (p := ⟨aj.block, aj.off + 1, none⟩) (Nat.lt_of_lt_of_le HJB.out (Nat.le_trans HQ3.out.size HB.out.size))).trans a1, (hW.cell (p := ⟨aj.block, aj.off + 2, none⟩) (Nat.lt_of_lt_of_le HJB.out (Nat.le_trans HQ3.out.size HB.out.size))).trans a2,
          (HR3.out.kept (HB.out.trans (hW.mono HB.out.size))).cell 3 _ rfl, (HR3.out.kept (HB.out.trans (hW.mono HB.out.size))).cell 7 _ rfl, (HR3.out.kept (HB.out.trans (hW.mono HB.out.size))).cell 8 _ rfl, (HRR.out.kept (HB.out.trans (hW.mono HB.out.size))).c0, (HRR.out.kept (HB.out.trans (hW.mono HB.out.size))).c1⟩ :
          W.cell? aj = some (.string o2) ∧ W.cell? ⟨aj.block, aj.off + 1, none⟩ = some (.string n2) ∧ W.cell? ⟨aj.block, aj.off + 2, none⟩ = some (.string y) ∧ W.cell? ⟨w.heap.size, 3, none⟩ = some (.int .i64 2) ∧ W.cell? ⟨w.heap.size, 7, none⟩ = some (.string bo) ∧ W.cell? ⟨w.heap.size, 8, none⟩ = some (.string bn) ∧ W.cell? ⟨g5, 0, none⟩ = some (.string D) ∧ W.cell? ⟨g5, 1, none⟩ = some (.string nm)))
        have ha2 : w3.cell? ⟨aj.block, aj.off + 2, none⟩ = some (.string y) := (HB.out.cell (p := ⟨aj.block, aj.off + 2, none⟩) (Nat.lt_of_lt_of_le HJB.out HQ3.out.size)).symm.trans a2
        have HS0 := hid (fun W (hW : Below w3.heap.size w3 W) => (⟨(hW.cell (p := ⟨aj.block, aj.off + 2, none⟩) (Nat.lt_of_lt_of_le HJB.out HQ3.out.size)).trans ha2, (HRR.out.kept hW).c0, (HRR.out.kept hW).c1⟩ : W.cell? ⟨aj.block, aj.off + 2, none⟩ = some (.string y) ∧ W.cell? ⟨g5, 0, none⟩ = some (.string D) ∧ W.cell? ⟨g5, 1, none⟩ = some (.string nm)))
        clear ha2
        have HWR := hid (Below.refl wr.heap.size wr)
        clear hab hbj
        go_wp2_with fail
        go_quiet (fail)
        go_wp2
        obtain ⟨wd, hwd⟩ : ∃ wd, wd = wr.drewN nq := ⟨_, rfl⟩
        have HBD : Hid (Below wr.heap.size wr wd) := hid (by rw [hwd]; exact below_drewN (Below.refl _ _) _)
        have HBDD : Hid (Below wr.heap.size wr wd.drew) := hid HBD.out.drew
        rw [← hwd]
        clear hwd a0 a1 a2 c0 c1 c2 c3 c4 c5 c6 c7 c8 g0 g1
        obtain ⟨a0, a1, a2, c3, c7, c8, g0, g1⟩ := HK.out wd HBD.out
        go_region_with ((go_at_call 21; (refine (HIN.out _ HBDD.out).mono ?_); rintro er w5 ⟨rfl, bb⟩; have B5 := hid (kept_trans HBDD.out HBDD.out.size bb); (obtain ⟨a0, a1, a2, c3, c7, c8, g0, g1⟩ := HK.out _ B5.out); clear bb))
        all_goals
          go_wp2
          have hlen : out.length ≤ 1000000000000 := by have := HOL.out; omega
          have hbs : w3.heap.size ≤ w5.heap.size := Nat.le_trans HB.out.size B5.out.size
          have HO2 := hid (((HOW.out.below B5.out).alloc (.cells #[.string D, .string nm, .string y] 47)).drew)
          have HRD := hid (reads_newd w5 #[.string D, .string nm, .string y] 47 (0, 0))
          have bD := hid ((HB.out.trans (B5.out.mono HB.out.size)).drew)
          have HBA := hid (((HB.out.trans (B5.out.mono HB.out.size)).alloc hbs (.cells #[.string D, .string nm, .string y] 47)).drew)
          clear a0 a1 a2 c3 c7 c8 g0 g1
          go_wp2_with fail
          go_region_held3 (fun w' => w'.cell? ⟨aj.block, aj.off + 2, none⟩ = some (.string y) ∧ w'.cell? ⟨g5, 0, none⟩ = some (.string D) ∧ w'.cell? ⟨g5, 1, none⟩ = some (.string nm))
            (first | exact HS0.out _ bD.out | exact HS0.out _ HBA.out | exact HS0.out _ B7.out)
            ((first | (refine step_app1 (E := encP) (by rfl) slQ (.tmp 61) (.tmp 69) (by rfl) (B := w3.heap.size) (v := .slice A' out.length c') (l := out) HO2.out (by rfl) (ad := ⟨w5.heap.size, 0, none⟩) (c := 1) ((D, nm), y) (by rfl) HRD.out hlen (by omega) (by simp; omega) ?_; intro A7 c7 w7 ho7 hg7 hl7; have B7 := hid (HBA.out.grown hg7 (by simp; omega) (fun g e => (World.ownsRow.lt HO2.out g e).1)))))
          all_goals
            have k3 := (HR3.out.kept B7.out).cell 3 _ rfl
            go_wp2_with fail
            go_quiet (fail)
            go_wp2
            go_roundw
            case rel => exact ⟨A7, c7, j + 1, out ++ [((D, nm), y)], by simp, by go_num, by omega, hid (by rw [List.length_append, List.length_singleton]; exact ho7), HT, hid (by have := HOL.out; rw [List.length_append, List.length_singleton]; omega), hid (below_drewN B7.out _)⟩
            case measure => simp [intOf]; omega
      · have HT : Hid (∀ p : Pr, p ∈ out ↔ p.1 = (D, nm) ∧ ((ao, an), p.2) ∈ l.take (j + 1)) := hid (fun p => by
          rw [HOU.out, take_snoc_of HX.out, List.mem_append, List.mem_singleton]
          refine and_congr_right fun _ => ⟨.inl, fun h1 => h1.elim id fun h2 => ?_⟩
          simp only [Prod.mk.injEq] at h2
          exact absurd ⟨h2.1.1.symm, h2.1.2.symm⟩ he)
        clear hab hbj
        by_cases ho : o2 = ao
        · have hn2 : n2 ≠ an := fun e => he ⟨ho, e⟩
          subst ho
          obtain ⟨x1, x2⟩ := inne hn2
          clear he hn2
          go_wp2_with fail
          go_quiet (fail)
          go_wp2
          go_quiet (fail)
          go_wp2
          go_roundw
          case rel => exact ⟨A', c', j + 1, out, rfl, by go_num, by omega, hid HOW.out, HT, hid (by have := HOL.out; omega), hid (below_drewN HB.out _)⟩
          case measure => simp [intOf]; omega
        · obtain ⟨x1, x2⟩ := inne ho
          clear he ho
          go_wp2_with fail
          go_quiet (fail)
          go_wp2
          go_quiet (fail)
          go_wp2
          go_roundw
          case rel => exact ⟨A', c', j + 1, out, rfl, by go_num, by omega, hid HOW.out, HT, hid (by have := HOL.out; omega), hid (below_drewN HB.out _)⟩
          case measure => simp [intOf]; omega
    · obtain rfl : n = j := by omega
      go_wp2
      go_ret
      refine ⟨A', c', out, rfl, own_mono' HOW.out HQ3.out.size, HQ3.out.trans (HB.out.mono HQ3.out.size), fun p => ?_, ?_⟩
      · have e1 := HOU.out p
        rw [List.take_of_length_le (by rw [HN.out]; exact Nat.le_refl _)] at e1
        rw [e1]
        unfold Brg roleOf
        simp [HD.out]
      · have := HOL.out
        have h2 : n ≤ n * n := Nat.le_mul_self n
        omega
end Go.Proofs.YtoajckhnneagnaaDoor.Sh
namespace Go.Proofs.YtoajckhnneagnaaDoor.Sh
open Go Go.RowKit

set_option linter.unusedVariables false
set_option linter.unusedSimpArgs false
set_option maxHeartbeats 8000000 in
set_option maxRecDepth 100000 in
theorem brings_bth (d q : Int) (nm wh ao an bo bn : ByteArray) (h0 : -9223372036854775808 ≤ d) (h1 : d < 9223372036854775808) (A : Option Addr) (l : List Pr) (n cap : Nat) (hn : l.length = n) (hm : n ≤ 1000000) (w : World) (h : Els encP w w.heap.size A l) :
    Calls Tryd.prog 47 #[.agg #[.int .i64 d, .int .i64 q, .string nm, .int .i64 4, .string wh, .string ao, .string an, .string bo, .string bn], .slice A n cap] w fun e w' => ∃ A' c' out, e = .returned (.slice A' out.length c') ∧ Own (E := encP) w' w.heap.size 47 (.slice A' out.length c') out ∧ Below w.heap.size w w' ∧ (∀ p, p ∈ out ↔ Brg ⟨d, q, nm, 4, wh, ao, an, bo, bn⟩ l p) ∧ out.length ≤ n * n := by
  have HN := hid hn
  have HY := hid h
  obtain ⟨w1, hw1⟩ : ∃ w1, w1 = w.alloc (.cells #[.int .i64 d, .int .i64 q, .string nm, .int .i64 4, .string wh, .string ao, .string an, .string bo, .string bn] 55) := ⟨_, rfl⟩
  have r1 : CrAt w1 w.heap.size ⟨d, q, nm, 4, wh, ao, an, bo, bn⟩ := by rw [hw1]; exact CrAt.new w ⟨d, q, nm, 4, wh, ao, an, bo, bn⟩
  have q1 : Below w.heap.size w w1 := by rw [hw1]; exact below_cr w ⟨d, q, nm, 4, wh, ao, an, bo, bn⟩
  have HRO := hid (fun W => refRoleC_any ⟨d, q, nm, 4, wh, ao, an, bo, bn⟩ h0 h1 W)
  obtain ⟨D, hD⟩ : ∃ D, domB d = D := ⟨_, rfl⟩
  have HD := hid hD
  unfold Crd.cells at HRO
  simp only [hD] at HRO
  have HR1 := hid r1
  have HQ1 := hid q1
  clear hn h r1 q1 hD
  go_enter Tryd.func47, Tryd.ntmps47
  go_wp2_with fail
  rw [← hw1]
  clear hw1
  obtain ⟨c0, c1, c2, c3, c4, c5, c6, c7, c8⟩ := HR1.out.all
  go_wp2_with fail
  refine (HRO.out _).mono ?_
  rintro er w2 ⟨rfl, b2⟩
  obtain ⟨w3, hw3⟩ : ∃ w3, w3 = w2.alloc (.cells #[.string D, .string nm] 24) := ⟨_, rfl⟩
  have q3 : Below w2.heap.size w2 w3 := by rw [hw3]; exact below_box w2 D nm
  have r3 : RoleAt w3 w2.heap.size D nm := by rw [hw3]; exact RoleAt.new w2 D nm
  have b3 : Below w1.heap.size w1 w3 := b2.trans (q3.mono b2.size)
  have HR3 := hid (HR1.out.kept b3)
  have HRR := hid r3
  have HQ3 := hid (HQ1.out.trans (b3.mono HQ1.out.size))
  have z3 : (w2.alloc (.cells #[.string D, .string nm] 24)).cell? ⟨w.heap.size, 3, none⟩ = some (.int .i64 4) := by rw [← hw3]; exact HR3.out.cell 3 _ rfl
  clear b2 q3 r3 b3 c0 c1 c2 c3 c4 c5 c6 c7 c8
  go_wp2_with fail
  rw [← hw3]
  clear hw3 z3
  have hg5 : w2.heap.size < w3.heap.size := HRR.out.lt
  obtain ⟨g5, hg⟩ : ∃ g5, w2.heap.size = g5 := ⟨_, rfl⟩
  rw [hg] at HRR hg5 ⊢
  clear hg
  go_loopw [6, 7] (fun v i wr => ∃ (A' : Option Addr) (c' j : Nat) (out : List Pr), v = .slice A' out.length c' ∧ i = .int .i64 (j : Int) ∧ j ≤ n ∧ Hid (Own (E := encP) wr w3.heap.size 47 (.slice A' out.length c') out) ∧ Hid (∀ p : Pr, p ∈ out ↔ p.1 = (D, nm) ∧ ((ao, an), p.2) ∈ l.take j ∧ ((bo, bn), p.2) ∈ l) ∧ Hid (out.length ≤ j) ∧ Hid (Below w3.heap.size w3 wr)) (fun _ i _ => n - (intOf i).toNat)
  case atStart => exact ⟨none, 0, 0, [], rfl, rfl, Nat.zero_le _, hid (Own.nil _ _ _), hid (by simp), hid (Nat.le_refl _), hid (Below.refl _ _)⟩
  case round =>
    obtain ⟨A', c', j, out, rfl, rfl, hj, HOW, HOU, HOL, HB⟩ := hrel
    by_cases hlt : j < n
    · obtain ⟨⟨⟨o2, n2⟩, y⟩, hx⟩ : ∃ x, l[j]? = some x := ⟨_, List.getElem?_eq_getElem (by rw [HN.out]; exact hlt)⟩
      have HX := hid hx
      have hy3 := HY.out.below HQ3.out
      have hel := hy3.below (HB.out.mono HQ3.out.size)
      obtain ⟨ad, aj, rfl, hab, ea, hbj, a0, ai⟩ := hel.get hx
      have a0 := a0 _ rfl
      have a1 := ai 1 _ (by omega) rfl
      have a2 := ai 2 _ (by omega) rfl
      have ea : ad.add (j * 3) = aj := ea
      have hk0 : (0 : Int) ≤ (j : Int) := Int.natCast_nonneg _
      have hk1 : (j : Int) < (n : Int) := by omega
      obtain ⟨c0, c1, c2, c3, c4, c5, c6, c7, c8⟩ := (HR3.out.kept HB.out).all
      have g0 := (HRR.out.kept HB.out).c0
      have g1 := (HRR.out.kept HB.out).c1
      clear hx hy3 hel ai
      by_cases he : o2 = ao ∧ n2 = an
      · obtain ⟨rfl, rfl⟩ := he
        by_cases hin : ((bo, bn), y) ∈ l
        · have HT : Hid (∀ p : Pr, p ∈ out ++ [((D, nm), y)] ↔ p.1 = (D, nm) ∧ ((o2, n2), p.2) ∈ l.take (j + 1) ∧ ((bo, bn), p.2) ∈ l) := hid (fun p => by
            rw [List.mem_append, List.mem_singleton, HOU.out, take_snoc_of HX.out, List.mem_append, List.mem_singleton]
            constructor
            · rintro (⟨h1, h2, h3⟩ | rfl)
              · exact ⟨h1, .inl h2, h3⟩
              · exact ⟨rfl, .inr rfl, hin⟩
            · rintro ⟨h1, h2 | h2, h3⟩
              · exact .inl ⟨h1, h2, h3⟩
              · simp only [Prod.mk.injEq] at h2
                exact .inr (Prod.ext h1 h2.2))
          have HEL := hid (fun W (hW : Below wr.heap.size wr W) => ((HY.out.below HQ3.out).below ((HB.out.trans (hW.mono HB.out.size)).mono HQ3.out.size)))
          have HIN := hid (fun W (hW : Below wr.heap.size wr W) => in_any (some ad) l n cap HN.out (by omega) bo bn y W ((HEL.out W hW).more (Nat.le_trans HQ3.out.size (Nat.le_trans HB.out.size hW.size))))
          simp only [decide_eq_true hin] at HIN
          clear hin
          have HJB : Hid (aj.block < w.heap.size) := hid (by rw [hbj]; exact hab)
          have HK := hid (fun W (hW : Below wr.heap.size wr W) => (⟨(hW.cell (p := aj) (Nat.lt_of_lt_of_le HJB.out (Nat.le_trans HQ3.out.size HB.out.size))).trans a0, (hW.cell (p := ⟨aj.block, aj.off + 1, none⟩) (Nat.lt_of_lt_of_le HJB.out (Nat.le_trans HQ3.out.size HB.out.size))).trans a1, (hW.cell (p := ⟨aj.block, aj.off + 2, none⟩) (Nat.lt_of_lt_of_le HJB.out (Nat.le_trans HQ3.out.size HB.out.size))).trans a2,
            (HR3.out.kept (HB.out.trans (hW.mono HB.out.size))).cell 3 _ rfl, (HR3.out.kept (HB.out.trans (hW.mono HB.out.size))).cell 7 _ rfl, (HR3.out.kept (HB.out.trans (hW.mono HB.out.size))).cell 8 _ rfl, (HRR.out.kept (HB.out.trans (hW.mono HB.out.size))).c0, (HRR.out.kept (HB.out.trans (hW.mono HB.out.size))).c1⟩ :
            W.cell? aj = some (.string o2) ∧ W.cell? ⟨aj.block, aj.off + 1, none⟩ = some (.string n2) ∧ W.cell? ⟨aj.block, aj.off + 2, none⟩ = some (.string y) ∧ W.cell? ⟨w.heap.size, 3, none⟩ = some (.int .i64 4) ∧ W.cell? ⟨w.heap.size, 7, none⟩ = some (.string bo) ∧ W.cell? ⟨w.heap.size, 8, none⟩ = some (.string bn) ∧ W.cell? ⟨g5, 0, none⟩ = some (.string D) ∧ W.cell? ⟨g5, 1, none⟩ = some (.string nm)))
          have ha2 : w3.cell? ⟨aj.block, aj.off + 2, none⟩ = some (.string y) := (HB.out.cell (p := ⟨aj.block, aj.off + 2, none⟩) (Nat.lt_of_lt_of_le HJB.out HQ3.out.size)).symm.trans a2
          have HS0 := hid (fun W (hW : Below w3.heap.size w3 W) => (⟨(hW.cell (p := ⟨aj.block, aj.off + 2, none⟩) (Nat.lt_of_lt_of_le HJB.out HQ3.out.size)).trans ha2, (HRR.out.kept hW).c0, (HRR.out.kept hW).c1⟩ : W.cell? ⟨aj.block, aj.off + 2, none⟩ = some (.string y) ∧ W.cell? ⟨g5, 0, none⟩ = some (.string D) ∧ W.cell? ⟨g5, 1, none⟩ = some (.string nm)))
          clear ha2
          have HWR := hid (Below.refl wr.heap.size wr)
          clear hab hbj
          go_wp2_with fail
          go_quiet (fail)
          go_wp2
          obtain ⟨wd, hwd⟩ : ∃ wd, wd = wr.drewN nq := ⟨_, rfl⟩
          have HBD : Hid (Below wr.heap.size wr wd) := hid (by rw [hwd]; exact below_drewN (Below.refl _ _) _)
          have HBDD : Hid (Below wr.heap.size wr wd.drew) := hid HBD.out.drew
          rw [← hwd]
          clear hwd a0 a1 a2 c0 c1 c2 c3 c4 c5 c6 c7 c8 g0 g1
          obtain ⟨a0, a1, a2, c3, c7, c8, g0, g1⟩ := HK.out wd HBD.out
          go_region_with ((go_at_call 21; (refine (HIN.out _ HBDD.out).mono ?_); rintro er w5 ⟨rfl, bb⟩; have B5 := hid (kept_trans HBDD.out HBDD.out.size bb); (obtain ⟨a0, a1, a2, c3, c7, c8, g0, g1⟩ := HK.out _ B5.out); clear bb))
          all_goals
            go_wp2
            have hlen : out.length ≤ 1000000000000 := by have := HOL.out; omega
            have hbs : w3.heap.size ≤ w5.heap.size := Nat.le_trans HB.out.size B5.out.size
            have HO2 := hid (((HOW.out.below B5.out).alloc (.cells #[.string D, .string nm, .string y] 47)).drew)
            have HRD := hid (reads_newd w5 #[.string D, .string nm, .string y] 47 (0, 0))
            have bD := hid ((HB.out.trans (B5.out.mono HB.out.size)).drew)
            have HBA := hid (((HB.out.trans (B5.out.mono HB.out.size)).alloc hbs (.cells #[.string D, .string nm, .string y] 47)).drew)
            clear a0 a1 a2 c3 c7 c8 g0 g1
            go_wp2_with fail
            go_region_held3 (fun w' => w'.cell? ⟨aj.block, aj.off + 2, none⟩ = some (.string y) ∧ w'.cell? ⟨g5, 0, none⟩ = some (.string D) ∧ w'.cell? ⟨g5, 1, none⟩ = some (.string nm))
              (first | exact HS0.out _ bD.out | exact HS0.out _ HBA.out | exact HS0.out _ B7.out)
              ((first | (refine step_app1 (E := encP) (by rfl) slQ (.tmp 61) (.tmp 69) (by rfl) (B := w3.heap.size) (v := .slice A' out.length c') (l := out) HO2.out (by rfl) (ad := ⟨w5.heap.size, 0, none⟩) (c := 1) ((D, nm), y) (by rfl) HRD.out hlen (by omega) (by simp; omega) ?_; intro A7 c7 w7 ho7 hg7 hl7; have B7 := hid (HBA.out.grown hg7 (by simp; omega) (fun g e => (World.ownsRow.lt HO2.out g e).1)))))
            all_goals
              have k3 := (HR3.out.kept B7.out).cell 3 _ rfl
              go_wp2_with fail
              go_quiet (fail)
              go_wp2
              go_roundw
              case rel => exact ⟨A7, c7, j + 1, out ++ [((D, nm), y)], by simp, by go_num, by omega, hid (by rw [List.length_append, List.length_singleton]; exact ho7), HT, hid (by have := HOL.out; rw [List.length_append, List.length_singleton]; omega), hid (below_drewN B7.out _)⟩
              case measure => simp [intOf]; omega
        · have HT : Hid (∀ p : Pr, p ∈ out ↔ p.1 = (D, nm) ∧ ((o2, n2), p.2) ∈ l.take (j + 1) ∧ ((bo, bn), p.2) ∈ l) := hid (fun p => by
            rw [HOU.out, take_snoc_of HX.out, List.mem_append, List.mem_singleton]
            constructor
            · rintro ⟨h1, h2, h3⟩
              exact ⟨h1, .inl h2, h3⟩
            · rintro ⟨h1, h2 | h2, h3⟩
              · exact ⟨h1, h2, h3⟩
              · simp only [Prod.mk.injEq] at h2
                rw [h2.2] at h3
                exact absurd h3 hin)
          have HEL := hid (fun W (hW : Below wr.heap.size wr W) => ((HY.out.below HQ3.out).below ((HB.out.trans (hW.mono HB.out.size)).mono HQ3.out.size)))
          have HIN := hid (fun W (hW : Below wr.heap.size wr W) => in_any (some ad) l n cap HN.out (by omega) bo bn y W ((HEL.out W hW).more (Nat.le_trans HQ3.out.size (Nat.le_trans HB.out.size hW.size))))
          simp only [decide_eq_false hin] at HIN
          clear hin
          have HJB : Hid (aj.block < w.heap.size) := hid (by rw [hbj]; exact hab)
          have HK := hid (fun W (hW : Below wr.heap.size wr W) => (⟨(hW.cell (p := aj) (Nat.lt_of_lt_of_le HJB.out (Nat.le_trans HQ3.out.size HB.out.size))).trans a0, (hW.cell (p := ⟨aj.block, aj.off + 1, none⟩) (Nat.lt_of_lt_of_le HJB.out (Nat.le_trans HQ3.out.size HB.out.size))).trans a1, (hW.cell (p := ⟨aj.block, aj.off + 2, none⟩) (Nat.lt_of_lt_of_le HJB.out (Nat.le_trans HQ3.out.size HB.out.size))).trans a2,
            (HR3.out.kept (HB.out.trans (hW.mono HB.out.size))).cell 3 _ rfl, (HR3.out.kept (HB.out.trans (hW.mono HB.out.size))).cell 7 _ rfl, (HR3.out.kept (HB.out.trans (hW.mono HB.out.size))).cell 8 _ rfl, (HRR.out.kept (HB.out.trans (hW.mono HB.out.size))).c0, (HRR.out.kept (HB.out.trans (hW.mono HB.out.size))).c1⟩ :
            W.cell? aj = some (.string o2) ∧ W.cell? ⟨aj.block, aj.off + 1, none⟩ = some (.string n2) ∧ W.cell? ⟨aj.block, aj.off + 2, none⟩ = some (.string y) ∧ W.cell? ⟨w.heap.size, 3, none⟩ = some (.int .i64 4) ∧ W.cell? ⟨w.heap.size, 7, none⟩ = some (.string bo) ∧ W.cell? ⟨w.heap.size, 8, none⟩ = some (.string bn) ∧ W.cell? ⟨g5, 0, none⟩ = some (.string D) ∧ W.cell? ⟨g5, 1, none⟩ = some (.string nm)))
          have ha2 : w3.cell? ⟨aj.block, aj.off + 2, none⟩ = some (.string y) := (HB.out.cell (p := ⟨aj.block, aj.off + 2, none⟩) (Nat.lt_of_lt_of_le HJB.out HQ3.out.size)).symm.trans a2
          have HS0 := hid (fun W (hW : Below w3.heap.size w3 W) => (⟨(hW.cell (p := ⟨aj.block, aj.off + 2, none⟩) (Nat.lt_of_lt_of_le HJB.out HQ3.out.size)).trans ha2, (HRR.out.kept hW).c0, (HRR.out.kept hW).c1⟩ : W.cell? ⟨aj.block, aj.off + 2, none⟩ = some (.string y) ∧ W.cell? ⟨g5, 0, none⟩ = some (.string D) ∧ W.cell? ⟨g5, 1, none⟩ = some (.string nm)))
          clear ha2
          have HWR := hid (Below.refl wr.heap.size wr)
          clear hab hbj
          go_wp2_with fail
          go_quiet (fail)
          go_wp2
          obtain ⟨wd, hwd⟩ : ∃ wd, wd = wr.drewN nq := ⟨_, rfl⟩
          have HBD : Hid (Below wr.heap.size wr wd) := hid (by rw [hwd]; exact below_drewN (Below.refl _ _) _)
          have HBDD : Hid (Below wr.heap.size wr wd.drew) := hid HBD.out.drew
          rw [← hwd]
          clear hwd a0 a1 a2 c0 c1 c2 c3 c4 c5 c6 c7 c8 g0 g1
          obtain ⟨a0, a1, a2, c3, c7, c8, g0, g1⟩ := HK.out wd HBD.out
          go_region_with ((go_at_call 21; (refine (HIN.out _ HBDD.out).mono ?_); rintro er w5 ⟨rfl, bb⟩; have B5 := hid (kept_trans HBDD.out HBDD.out.size bb); (obtain ⟨a0, a1, a2, c3, c7, c8, g0, g1⟩ := HK.out _ B5.out); clear bb))
          all_goals
            go_wp2
            have k3 := (HK.out _ B5.out).2.2.2.1
            have HOW5 := hid (HOW.out.below B5.out)
            have HB5 := hid (HB.out.trans (B5.out.mono HB.out.size))
            go_wp2_with fail
            go_quiet (fail)
            go_wp2
            go_roundw
            case rel => exact ⟨A', c', j + 1, out, rfl, by go_num, by omega, hid HOW5.out, HT, hid (by have := HOL.out; omega), hid (below_drewN HB5.out _)⟩
            case measure => simp [intOf]; omega
      · have HT : Hid (∀ p : Pr, p ∈ out ↔ p.1 = (D, nm) ∧ ((ao, an), p.2) ∈ l.take (j + 1) ∧ ((bo, bn), p.2) ∈ l) := hid (fun p => by
          rw [HOU.out, take_snoc_of HX.out, List.mem_append, List.mem_singleton]
          refine and_congr_right fun _ => and_congr_left fun _ => ⟨.inl, fun h1 => h1.elim id fun h2 => ?_⟩
          simp only [Prod.mk.injEq] at h2
          exact absurd ⟨h2.1.1.symm, h2.1.2.symm⟩ he)
        clear hab hbj
        by_cases ho : o2 = ao
        · have hn2 : n2 ≠ an := fun e => he ⟨ho, e⟩
          subst ho
          obtain ⟨x1, x2⟩ := inne hn2
          clear he hn2
          go_wp2_with fail
          go_quiet (fail)
          go_wp2
          go_quiet (fail)
          go_wp2
          go_roundw
          case rel => exact ⟨A', c', j + 1, out, rfl, by go_num, by omega, hid HOW.out, HT, hid (by have := HOL.out; omega), hid (below_drewN HB.out _)⟩
          case measure => simp [intOf]; omega
        · obtain ⟨x1, x2⟩ := inne ho
          clear he ho
          go_wp2_with fail
          go_quiet (fail)
          go_wp2
          go_quiet (fail)
          go_wp2
          go_roundw
          case rel => exact ⟨A', c', j + 1, out, rfl, by go_num, by omega, hid HOW.out, HT, hid (by have := HOL.out; omega), hid (below_drewN HB.out _)⟩
          case measure => simp [intOf]; omega
    · obtain rfl : n = j := by omega
      go_wp2
      go_ret
      refine ⟨A', c', out, rfl, own_mono' HOW.out HQ3.out.size, HQ3.out.trans (HB.out.mono HQ3.out.size), fun p => ?_, ?_⟩
      · have e1 := HOU.out p
        rw [List.take_of_length_le (by rw [HN.out]; exact Nat.le_refl _)] at e1
        rw [e1]
        unfold Brg roleOf
        simp [HD.out]
      · have := HOL.out
        have h2 : n ≤ n * n := Nat.le_mul_self n
        omega
end Go.Proofs.YtoajckhnneagnaaDoor.Sh
namespace Go.Proofs.YtoajckhnneagnaaDoor.Sh
open Go Go.RowKit

set_option linter.unusedVariables false
set_option linter.unusedSimpArgs false
theorem own_oneP (w : World) (B : Nat) (hB : B ≤ w.heap.size) (p : Pr) : Own (E := encP) (w.alloc (.cells #[.string p.1.1, .string p.1.2, .string p.2] 47)) B 47 (.slice (some ⟨w.heap.size, 0, none⟩) [p].length 1) [p] :=
  ⟨rfl, .inr ⟨w.heap.size, 1, _, rfl, hB, heap_alloc_new w _, Nat.le_refl _, by unfold maxLen; omega, rfl, rfl⟩⟩
set_option maxHeartbeats 8000000 in
set_option maxRecDepth 100000 in
theorem brings_mem (d q : Int) (nm wh ao an bo bn : ByteArray) (h0 : -9223372036854775808 ≤ d) (h1 : d < 9223372036854775808) (A : Option Addr) (l : List Pr) (n cap : Nat) (hn : l.length = n) (hm : n ≤ 1000000) (w : World) (h : Els encP w w.heap.size A l) :
    Calls Tryd.prog 47 #[.agg #[.int .i64 d, .int .i64 q, .string nm, .int .i64 1, .string wh, .string ao, .string an, .string bo, .string bn], .slice A n cap] w fun e w' => ∃ A' c' out, e = .returned (.slice A' out.length c') ∧ Own (E := encP) w' w.heap.size 47 (.slice A' out.length c') out ∧ Below w.heap.size w w' ∧ (∀ p, p ∈ out ↔ Brg ⟨d, q, nm, 1, wh, ao, an, bo, bn⟩ l p) ∧ out.length ≤ n * n + 1 := by
  have HN := hid hn
  have HY := hid h
  obtain ⟨w1, hw1⟩ : ∃ w1, w1 = w.alloc (.cells #[.int .i64 d, .int .i64 q, .string nm, .int .i64 1, .string wh, .string ao, .string an, .string bo, .string bn] 55) := ⟨_, rfl⟩
  have r1 : CrAt w1 w.heap.size ⟨d, q, nm, 1, wh, ao, an, bo, bn⟩ := by rw [hw1]; exact CrAt.new w ⟨d, q, nm, 1, wh, ao, an, bo, bn⟩
  have q1 : Below w.heap.size w w1 := by rw [hw1]; exact below_cr w ⟨d, q, nm, 1, wh, ao, an, bo, bn⟩
  have HRO := hid (fun W => refRoleC_any ⟨d, q, nm, 1, wh, ao, an, bo, bn⟩ h0 h1 W)
  obtain ⟨D, hD⟩ : ∃ D, domB d = D := ⟨_, rfl⟩
  have HD := hid hD
  unfold Crd.cells at HRO
  simp only [hD] at HRO
  have HR1 := hid r1
  have HQ1 := hid q1
  clear hn h r1 q1 hD
  go_enter Tryd.func47, Tryd.ntmps47
  go_wp2_with fail
  rw [← hw1]
  clear hw1
  obtain ⟨c0, c1, c2, c3, c4, c5, c6, c7, c8⟩ := HR1.out.all
  go_wp2_with fail
  refine (HRO.out _).mono ?_
  rintro er w2 ⟨rfl, b2⟩
  obtain ⟨w3, hw3⟩ : ∃ w3, w3 = w2.alloc (.cells #[.string D, .string nm] 24) := ⟨_, rfl⟩
  have q3 : Below w2.heap.size w2 w3 := by rw [hw3]; exact below_box w2 D nm
  have r3 : RoleAt w3 w2.heap.size D nm := by rw [hw3]; exact RoleAt.new w2 D nm
  have b3 : Below w1.heap.size w1 w3 := b2.trans (q3.mono b2.size)
  have HR3 := hid (HR1.out.kept b3)
  have HRR := hid r3
  have HQ3 := hid (HQ1.out.trans (b3.mono HQ1.out.size))
  have z3 : (w2.alloc (.cells #[.string D, .string nm] 24)).cell? ⟨w.heap.size, 3, none⟩ = some (.int .i64 1) := by rw [← hw3]; exact HR3.out.cell 3 _ rfl
  have z4 : (w2.alloc (.cells #[.string D, .string nm] 24)).cell? ⟨w.heap.size, 4, none⟩ = some (.string wh) := by rw [← hw3]; exact HR3.out.cell 4 _ rfl
  have z5 : (w2.alloc (.cells #[.string D, .string nm] 24)).cell? ⟨w2.heap.size, 0, none⟩ = some (.string D) := by rw [← hw3]; exact HRR.out.c0
  have z6 : (w2.alloc (.cells #[.string D, .string nm] 24)).cell? ⟨w2.heap.size, 1, none⟩ = some (.string nm) := by rw [← hw3]; exact HRR.out.c1
  clear b2 q3 r3 b3 c0 c1 c2 c3 c4 c5 c6 c7 c8
  go_wp2_with fail
  go_ret
  rw [← hw3]
  have hsz : w3.heap.size = w2.heap.size + 1 := by rw [hw3]; simp
  refine ⟨_, _, [((D, nm), wh)], rfl, ?_, HQ3.out.alloc HQ3.out.size _, fun p => ?_, ?_⟩
  · rw [← hsz]
    exact own_oneP w3 w.heap.size HQ3.out.size ((D, nm), wh)
  · unfold Brg roleOf
    rw [List.mem_singleton]
    obtain ⟨⟨o, m⟩, x⟩ := p
    simp [HD.out, Prod.ext_iff, and_assoc]
  · simp
end Go.Proofs.YtoajckhnneagnaaDoor.Sh
