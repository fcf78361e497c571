/-
  What a credential brings about: the document's own brings, at a Link.
-/
import Derived.Test.YtoajckhnneagnaaDoorJd18
import Derived.Test.YtoajckhnneagnaaDoorJd1
set_option linter.unusedVariables false
set_option linter.unusedSimpArgs false
namespace Go.Proofs.YtoajckhnneagnaaDoor.Sh
open Go Go.RowKit

set_option linter.unusedVariables false
set_option linter.unusedSimpArgs false
set_option maxHeartbeats 8000000 in
set_option maxRecDepth 100000 in
theorem brings_lnk (d q : Int) (nm wh ao an bo bn : ByteArray) (h0 : -9223372036854775808 ≤ d) (h1 : d < 9223372036854775808) (A : Option Addr) (l : List Pr) (n cap : Nat) (hn : l.length = n) (hm : n ≤ 1000000) (w : World) (h : Els encP w w.heap.size A l) :
    Calls Tryd.prog 47 #[.agg #[.int .i64 d, .int .i64 q, .string nm, .int .i64 3, .string wh, .string ao, .string an, .string bo, .string bn], .slice A n cap] w fun e w' => ∃ A' c' out, e = .returned (.slice A' out.length c') ∧ Own (E := encP) w' w.heap.size 47 (.slice A' out.length c') out ∧ Below w.heap.size w w' ∧ (∀ p, p ∈ out ↔ Brg ⟨d, q, nm, 3, wh, ao, an, bo, bn⟩ l p) ∧ out.length ≤ n * n := by
  have HN := hid hn
  have HY := hid h
  obtain ⟨w1, hw1⟩ : ∃ w1, w1 = w.alloc (.cells #[.int .i64 d, .int .i64 q, .string nm, .int .i64 3, .string wh, .string ao, .string an, .string bo, .string bn] 55) := ⟨_, rfl⟩
  have r1 : CrAt w1 w.heap.size ⟨d, q, nm, 3, wh, ao, an, bo, bn⟩ := by rw [hw1]; exact CrAt.new w ⟨d, q, nm, 3, wh, ao, an, bo, bn⟩
  have q1 : Below w.heap.size w w1 := by rw [hw1]; exact below_cr w ⟨d, q, nm, 3, wh, ao, an, bo, bn⟩
  have HRO := hid (fun W => refRoleC_any ⟨d, q, nm, 3, wh, ao, an, bo, bn⟩ h0 h1 W)
  obtain ⟨D, hD⟩ : ∃ D, domB d = D := ⟨_, rfl⟩
  have HD := hid hD
  unfold Crd.cells at HRO
  simp only [hD] at HRO
  have HR1 := hid r1
  have HQ1 := hid q1
  clear hn h r1 q1 hD
  go_enter Tryd.func47, Tryd.ntmps47
  go_wp2_with fail
  rw [← hw1]
  clear hw1
  obtain ⟨c0, c1, c2, c3, c4, c5, c6, c7, c8⟩ := HR1.out.all
  go_wp2_with fail
  refine (HRO.out _).mono ?_
  rintro er w2 ⟨rfl, b2⟩
  obtain ⟨w3, hw3⟩ : ∃ w3, w3 = w2.alloc (.cells #[.string D, .string nm] 24) := ⟨_, rfl⟩
  have q3 : Below w2.heap.size w2 w3 := by rw [hw3]; exact below_box w2 D nm
  have r3 : RoleAt w3 w2.heap.size D nm := by rw [hw3]; exact RoleAt.new w2 D nm
  have b3 : Below w1.heap.size w1 w3 := b2.trans (q3.mono b2.size)
  have HR3 := hid (HR1.out.kept b3)
  have HRR := hid r3
  have HQ3 := hid (HQ1.out.trans (b3.mono HQ1.out.size))
  have z3 : (w2.alloc (.cells #[.string D, .string nm] 24)).cell? ⟨w.heap.size, 3, none⟩ = some (.int .i64 3) := by rw [← hw3]; exact HR3.out.cell 3 _ rfl
  clear b2 q3 r3 b3 c0 c1 c2 c3 c4 c5 c6 c7 c8
  go_wp2_with fail
  rw [← hw3]
  clear hw3 z3
  have hg5 : w2.heap.size < w3.heap.size := HRR.out.lt
  obtain ⟨g5, hg⟩ : ∃ g5, w2.heap.size = g5 := ⟨_, rfl⟩
  rw [hg] at HRR hg5 ⊢
  clear hg
  go_loopw [6, 7] (fun v i wr => ∃ (A' : Option Addr) (c' j : Nat) (out : List Pr), v = .slice A' out.length c' ∧ i = .int .i64 (j : Int) ∧ j ≤ n ∧ Hid (Own (E := encP) wr w3.heap.size 47 (.slice A' out.length c') out) ∧ Hid (∀ p : Pr, p ∈ out ↔ p.1 = (D, nm) ∧ (∃ z, ((D, an), z) ∈ l.take j ∧ isD z ∧ ((z, bn), p.2) ∈ l)) ∧ Hid (out.length ≤ j * n) ∧ Hid (Below w3.heap.size w3 wr)) (fun _ i _ => n - (intOf i).toNat)
  case atStart => exact ⟨none, 0, 0, [], rfl, rfl, Nat.zero_le _, hid (Own.nil _ _ _), hid (by simp), hid (Nat.zero_le _), hid (Below.refl _ _)⟩
  case round =>
    obtain ⟨A', c', j, out, rfl, rfl, hj, HOW, HOU, HOL, HB⟩ := hrel
    by_cases hlt : j < n
    · obtain ⟨⟨⟨o2, n2⟩, y⟩, hx⟩ : ∃ x, l[j]? = some x := ⟨_, List.getElem?_eq_getElem (by rw [HN.out]; exact hlt)⟩
      have HX := hid hx
      have hy3 := HY.out.below HQ3.out
      have hel := hy3.below (HB.out.mono HQ3.out.size)
      obtain ⟨ad, aj, rfl, hab, ea, hbj, a0, ai⟩ := hel.get hx
      have a0 := a0 _ rfl
      have a1 := ai 1 _ (by omega) rfl
      have a2 := ai 2 _ (by omega) rfl
      have ea : ad.add (j * 3) = aj := ea
      have hk0 : (0 : Int) ≤ (j : Int) := Int.natCast_nonneg _
      have hk1 : (j : Int) < (n : Int) := by omega
      obtain ⟨c0, c1, c2, c3, c4, c5, c6, c7, c8⟩ := (HR3.out.kept HB.out).all
      have g0 := (HRR.out.kept HB.out).c0
      have g1 := (HRR.out.kept HB.out).c1
      clear hx hy3 hel ai
      have hbw : w.heap.size ≤ wr.heap.size := Nat.le_trans HQ3.out.size HB.out.size
      have HJB : Hid (aj.block < w.heap.size) := hid (by rw [hbj]; exact hab)
      have HK := hid (fun W (hW : Below wr.heap.size wr W) =>
        (have z := (HR3.out.kept (HB.out.trans (hW.mono HB.out.size))).all
         ⟨(hW.cell (p := aj) (Nat.lt_of_lt_of_le HJB.out hbw)).trans a0, (hW.cell (p := ⟨aj.block, aj.off + 1, none⟩) (Nat.lt_of_lt_of_le HJB.out hbw)).trans a1, (hW.cell (p := ⟨aj.block, aj.off + 2, none⟩) (Nat.lt_of_lt_of_le HJB.out hbw)).trans a2,
          z.1, z.2.1, z.2.2.1, z.2.2.2.1, z.2.2.2.2.1, z.2.2.2.2.2.1, z.2.2.2.2.2.2.1, z.2.2.2.2.2.2.2.1, z.2.2.2.2.2.2.2.2, (HRR.out.kept (HB.out.trans (hW.mono HB.out.size))).c0, (HRR.out.kept (HB.out.trans (hW.mono HB.out.size))).c1⟩ :
         W.cell? aj = some (.string o2) ∧ W.cell? ⟨aj.block, aj.off + 1, none⟩ = some (.string n2) ∧ W.cell? ⟨aj.block, aj.off + 2, none⟩ = some (.string y) ∧ W.cell? ⟨w.heap.size, 0, none⟩ = some (.int .i64 d) ∧ W.cell? ⟨w.heap.size, 1, none⟩ = some (.int .i64 q) ∧ W.cell? ⟨w.heap.size, 2, none⟩ = some (.string nm) ∧ W.cell? ⟨w.heap.size, 3, none⟩ = some (.int .i64 3) ∧ W.cell? ⟨w.heap.size, 4, none⟩ = some (.string wh) ∧ W.cell? ⟨w.heap.size, 5, none⟩ = some (.string ao) ∧ W.cell? ⟨w.heap.size, 6, none⟩ = some (.string an) ∧ W.cell? ⟨w.heap.size, 7, none⟩ = some (.string bo) ∧ W.cell? ⟨w.heap.size, 8, none⟩ = some (.string bn) ∧ W.cell? ⟨g5, 0, none⟩ = some (.string D) ∧ W.cell? ⟨g5, 1, none⟩ = some (.string nm)))
      have HFI := hid (fun W => first_any ⟨d, q, nm, 3, wh, ao, an, bo, bn⟩ h0 h1 W)
      unfold Crd.cells at HFI
      simp only [HD.out] at HFI
      have HNU : Hid (∀ W, Calls Tryd.prog 52 #[.string y] W fun e w' => e = .returned (.int .i64 (numL y.data.toList : Int)) ∧ Below W.heap.size W w') := hid (fun W => (refNnum_any y W).mono fun e w' ⟨h1, h2⟩ => ⟨h1, by rw [h2]; exact Below.refl _ _⟩)
      obtain ⟨N, hN⟩ : ∃ N, numL y.data.toList = N := ⟨_, rfl⟩
      have HNN : Hid (isD y ↔ N ≠ 0) := hid (by unfold isD; rw [hN])
      rw [hN] at HNU
      clear hab hbj hN
      by_cases he : o2 = D ∧ n2 = an ∧ N ≠ 0
      · obtain ⟨rfl, rfl, hN0⟩ := he
        have hN1 : (0 : Int) < (N : Int) := by omega
        have HDY : Hid (isD y) := hid (HNN.out.2 hN0)
        clear hN0
        go_wp2_with fail
        go_quiet (fail)
        go_wp2
        obtain ⟨wd, hwd⟩ : ∃ wd, wd = wr.drewN nq := ⟨_, rfl⟩
        have HBD : Hid (Below wr.heap.size wr wd) := hid (by rw [hwd]; exact below_drewN (Below.refl _ _) _)
        have HBDD : Hid (Below wr.heap.size wr wd.drew) := hid HBD.out.drew
        rw [← hwd]
        clear hwd a0 a1 a2 c0 c1 c2 c3 c4 c5 c6 c7 c8 g0 g1
        have a0 := fun x : Wn wr.heap.size wr => (HK.out x.1 x.2).1
        have a1 := fun x : Wn wr.heap.size wr => (HK.out x.1 x.2).2.1
        have a2 := fun x : Wn wr.heap.size wr => (HK.out x.1 x.2).2.2.1
        have c0 := fun x : Wn wr.heap.size wr => (HK.out x.1 x.2).2.2.2.1
        have c1 := fun x : Wn wr.heap.size wr => (HK.out x.1 x.2).2.2.2.2.1
        have c2 := fun x : Wn wr.heap.size wr => (HK.out x.1 x.2).2.2.2.2.2.1
        have c3 := fun x : Wn wr.heap.size wr => (HK.out x.1 x.2).2.2.2.2.2.2.1
        have c4 := fun x : Wn wr.heap.size wr => (HK.out x.1 x.2).2.2.2.2.2.2.2.1
        have c5 := fun x : Wn wr.heap.size wr => (HK.out x.1 x.2).2.2.2.2.2.2.2.2.1
        have c6 := fun x : Wn wr.heap.size wr => (HK.out x.1 x.2).2.2.2.2.2.2.2.2.2.1
        have c7 := fun x : Wn wr.heap.size wr => (HK.out x.1 x.2).2.2.2.2.2.2.2.2.2.2.1
        have c8 := fun x : Wn wr.heap.size wr => (HK.out x.1 x.2).2.2.2.2.2.2.2.2.2.2.2.1
        have g0 := fun x : Wn wr.heap.size wr => (HK.out x.1 x.2).2.2.2.2.2.2.2.2.2.2.2.2.1
        have g1 := fun x : Wn wr.heap.size wr => (HK.out x.1 x.2).2.2.2.2.2.2.2.2.2.2.2.2.2
        refine region_in wr.heap.size wr (by kernel_rfl) (by kernel_rfl) HBDD.out ?_
        repeat (go_big_quiet_step (first | (go_at_call 53; exact call_in (Nat.le_refl _) (HFI.out _)) | (go_at_call 52; exact call_in (Nat.le_refl _) (HNU.out _))))
        refine wpQuiet_nil ?_
        intro wq hwq
        have HWQ := hid hwq
        clear hwq a0 a1 a2 c0 c1 c2 c3 c4 c5 c6 c7 c8 g0 g1
        go_wp2
        have hwq : wr.heap.size ≤ wq.drew.heap.size := HWQ.out.size
        have HS0 := hid (fun W (hW : Below wr.heap.size wr W) => (⟨(HK.out W hW).2.2.1, (HK.out W hW).2.2.2.2.2.2.2.2.2.2.2.1⟩ : W.cell? ⟨aj.block, aj.off + 2, none⟩ = some (.string y) ∧ W.cell? ⟨w.heap.size, 8, none⟩ = some (.string bn)))
        go_region_held3 (fun w' => w'.cell? ⟨aj.block, aj.off + 2, none⟩ = some (.string y) ∧ w'.cell? ⟨w.heap.size, 8, none⟩ = some (.string bn))
          (first | exact HS0.out _ HWQ.out.drew | exact HS0.out _ (HWQ.out.drew.alloc hwq _) | exact HS0.out _ ((HWQ.out.drew.alloc hwq _).setCell hwq _))
          ((first | fail))
        obtain ⟨s9, hs9⟩ : ∃ s9, wq.heap.size = s9 := ⟨_, rfl⟩
        obtain ⟨wb, hwb⟩ : ∃ wb, wb = (wq.alloc (.cells #[.string y, .string bn] 24)).drew := ⟨_, rfl⟩
        have HB9 : Hid (Below wr.heap.size wr wb) := hid (by rw [hwb]; exact (HWQ.out.alloc HWQ.out.size _).drew)
        have HR9 : Hid (RoleAt wb s9 y bn) := hid (by rw [hwb, ← hs9]; exact RoleAt.new wq y bn)
        have HN9 : Hid ((Value.slice A' out.length c').ownBlock ≠ some s9) := hid (fun e => by have := (HOW.out.lt _ e).2; have := HWQ.out.size; omega)
        have HBW := hid (HB.out.trans (HB9.out.mono HB.out.size))
        have HOB := hid (HOW.out.below HB9.out)
        rw [← hwb, hs9]
        clear hwb hs9 hwq HS0 HK HFI HNU HBD HBDD HWQ HNN
        obtain ⟨wo, hwo⟩ : ∃ x, x = wr := ⟨_, rfl⟩
        subst hwo
        go_wp2
        go_loopw [6, 10] (fun v i wr2 => ∃ (A3 : Option Addr) (c3 k : Nat) (out3 : List Pr), v = .slice A3 out3.length c3 ∧ i = .int .i64 (k : Int) ∧ k ≤ n ∧ Hid (Own (E := encP) wr2 w3.heap.size 47 (.slice A3 out3.length c3) out3) ∧ Hid (∀ p : Pr, p ∈ out3 ↔ p ∈ out ∨ (p.1 = (o2, nm) ∧ ((y, bn), p.2) ∈ l.take k)) ∧ Hid (out3.length ≤ out.length + k) ∧ Hid (Below w3.heap.size w3 wr2) ∧ Hid (RoleAt wr2 s9 y bn ∧ (Value.slice A3 out3.length c3).ownBlock ≠ some s9)) (fun _ i _ => n - (intOf i).toNat)
        case atStart => exact ⟨A', c', 0, out, rfl, rfl, Nat.zero_le _, HOB, hid (by simp), hid (Nat.le_refl _), HBW, hid ⟨HR9.out, HN9.out⟩⟩
        case round =>
          obtain ⟨A3, c3, k, out3, rfl, rfl, hk, HO3, HU3, HL3, HB3, HR3b⟩ := hrel
          by_cases hlt2 : k < n
          · obtain ⟨⟨⟨o4, n4⟩, z⟩, hx⟩ : ∃ x, l[k]? = some x := ⟨_, List.getElem?_eq_getElem (by rw [HN.out]; exact hlt2)⟩
            have HX4 := hid hx
            obtain ⟨bd, bj, ebd, hbb, eb, hbk, b0, bi⟩ := ((HY.out.below HQ3.out).below (HB3.out.mono HQ3.out.size)).get hx
            obtain rfl : ad = bd := Option.some.inj ebd
            have b0 := b0 _ rfl
            have b1 := bi 1 _ (by omega) rfl
            have b2 := bi 2 _ (by omega) rfl
            have eb : ad.add (k * 3) = bj := eb
            have hq0 : (0 : Int) ≤ (k : Int) := Int.natCast_nonneg _
            have hq1 : (k : Int) < (n : Int) := by omega
            have s0 := HR3b.out.1.c0
            have s1 := HR3b.out.1.c1
            have HJ4 : Hid (bj.block < w.heap.size) := hid (by rw [hbk]; exact hbb)
            have hb2 : w3.cell? ⟨bj.block, bj.off + 2, none⟩ = some (.string z) := (HB3.out.cell (p := ⟨bj.block, bj.off + 2, none⟩) (Nat.lt_of_lt_of_le HJ4.out HQ3.out.size)).symm.trans b2
            have HS0 := hid (fun W (hW : Below w3.heap.size w3 W) => (⟨(hW.cell (p := ⟨bj.block, bj.off + 2, none⟩) (Nat.lt_of_lt_of_le HJ4.out HQ3.out.size)).trans hb2, (HRR.out.kept hW).c0, (HRR.out.kept hW).c1⟩ : W.cell? ⟨bj.block, bj.off + 2, none⟩ = some (.string z) ∧ W.cell? ⟨g5, 0, none⟩ = some (.string o2) ∧ W.cell? ⟨g5, 1, none⟩ = some (.string nm)))
            clear hx hbb hbk bi hb2 ebd
            by_cases he : o4 = y ∧ n4 = bn
            · obtain ⟨rfl, rfl⟩ := he
              have HT : Hid (∀ p : Pr, p ∈ out3 ++ [((o2, nm), z)] ↔ p ∈ out ∨ (p.1 = (o2, nm) ∧ ((o4, n4), p.2) ∈ l.take (k + 1))) := hid (fun p => by
                rw [List.mem_append, List.mem_singleton, HU3.out, take_snoc_of HX4.out, List.mem_append, List.mem_singleton]
                constructor
                · rintro ((h1 | ⟨h1, h2⟩) | rfl)
                  · exact .inl h1
                  · exact .inr ⟨h1, .inl h2⟩
                  · exact .inr ⟨rfl, .inr rfl⟩
                · rintro (h1 | ⟨h1, h2 | h2⟩)
                  · exact .inl (.inl h1)
                  · exact .inl (.inr ⟨h1, h2⟩)
                  · simp only [Prod.mk.injEq] at h2
                    exact .inr (Prod.ext h1 h2.2))
              go_wp2_with fail
              go_quiet (fail)
              go_wp2
              obtain ⟨w5, hw5⟩ : ∃ w5, w5 = wr.drewN nq := ⟨_, rfl⟩
              have B5 : Hid (Below wr.heap.size wr w5) := hid (by rw [hw5]; exact below_drewN (Below.refl _ _) _)
              rw [← hw5]
              have hlen : out3.length ≤ 1000000000000 := by
                have h1 := HL3.out
                have h2 := HOL.out
                have h3 : j * n ≤ 1000000 * 1000000 - 1000000 := by
                  have : j * n ≤ 999999 * 1000000 := Nat.mul_le_mul (by omega) (by omega)
                  omega
                omega
              have hbs : w3.heap.size ≤ w5.heap.size := Nat.le_trans HB3.out.size B5.out.size
              have HO2 := hid (((HO3.out.below B5.out).alloc (.cells #[.string o2, .string nm, .string z] 47)).drew)
              have HRD := hid (reads_newd w5 #[.string o2, .string nm, .string z] 47 (0, 0))
              have HR5 := hid (HR3b.out.1.kept B5.out)
              have HR6 := hid (HR5.out.kept (((Below.refl w5.heap.size w5).alloc (Nat.le_refl _) (.cells #[.string o2, .string nm, .string z] 47)).drew))
              have bD := hid ((HB3.out.trans (B5.out.mono HB3.out.size)).drew)
              have HBA := hid (((HB3.out.trans (B5.out.mono HB3.out.size)).alloc hbs (.cells #[.string o2, .string nm, .string z] 47)).drew)
              clear hw5 b0 b1 b2 s0 s1
              go_wp2_with fail
              go_region_held3 (fun w' => w'.cell? ⟨bj.block, bj.off + 2, none⟩ = some (.string z) ∧ w'.cell? ⟨g5, 0, none⟩ = some (.string o2) ∧ w'.cell? ⟨g5, 1, none⟩ = some (.string nm))
                (first | exact HS0.out _ bD.out | exact HS0.out _ HBA.out | exact HS0.out _ B7.out)
                ((first | (refine step_app1 (E := encP) (by rfl) slQ (.tmp 115) (.tmp 123) (by rfl) (B := w3.heap.size) (v := .slice A3 out3.length c3) (l := out3) HO2.out (by rfl) (ad := ⟨w5.heap.size, 0, none⟩) (c := 1) ((o2, nm), z) (by rfl) HRD.out hlen (by omega) (by simp; omega) ?_; intro A7 c7 w7 ho7 hg7 hl7; have B7 := hid (HBA.out.grown hg7 (by simp; omega) (fun g e => (World.ownsRow.lt HO2.out g e).1)); have R7 : Hid (RoleAt w7 s9 o4 n4 ∧ (Value.slice A7 (out3.length + 1) c7).ownBlock ≠ some s9) := (hid ⟨(hg7.block s9 HR6.out.lt (fun e => HR3b.out.2 e.symm)).trans HR6.out, by
                  rcases hl7 with e | e
                  · rw [e]; exact HR3b.out.2
                  · rw [e]; intro e2; injection e2 with e2; have h1 := HR5.out.lt; simp at e2; omega⟩))))
              all_goals
                go_wp2_with fail
                go_roundw
                case rel => exact ⟨A7, c7, k + 1, out3 ++ [((o2, nm), z)], by simp, by go_num, by omega, hid (by rw [List.length_append, List.length_singleton]; exact ho7), HT, hid (by have := HL3.out; rw [List.length_append, List.length_singleton]; omega), B7, hid (by rw [List.length_append, List.length_singleton]; exact R7.out)⟩
                case measure => simp [intOf]; omega
            · have HT : Hid (∀ p : Pr, p ∈ out3 ↔ p ∈ out ∨ (p.1 = (o2, nm) ∧ ((y, bn), p.2) ∈ l.take (k + 1))) := hid (fun p => by
                rw [HU3.out, take_snoc_of HX4.out, List.mem_append, List.mem_singleton]
                refine or_congr_right (and_congr_right fun _ => ⟨.inl, fun h1 => h1.elim id fun h2 => ?_⟩)
                simp only [Prod.mk.injEq] at h2
                exact absurd ⟨h2.1.1.symm, h2.1.2.symm⟩ he)
              by_cases ho : o4 = y
              · subst ho
                have hn4 : n4 ≠ bn := fun e => he ⟨rfl, e⟩
                obtain ⟨x1, x2⟩ := inne hn4
                clear he hn4
                go_wp2_with fail
                go_quiet (fail)
                go_wp2
                go_roundw
                case rel => exact ⟨A3, c3, k + 1, out3, rfl, by go_num, by omega, hid (HO3.out.below (below_drewN (Below.refl _ _) nq)), HT, hid (by have := HL3.out; omega), hid (below_drewN HB3.out _), hid ⟨HR3b.out.1.kept (below_drewN (Below.refl _ _) nq), HR3b.out.2⟩⟩
                case measure => simp [intOf]; omega
              · obtain ⟨x1, x2⟩ := inne ho
                clear he ho
                go_wp2_with fail
                go_quiet (fail)
                go_wp2
                go_roundw
                case rel => exact ⟨A3, c3, k + 1, out3, rfl, by go_num, by omega, hid (HO3.out.below (below_drewN (Below.refl _ _) nq)), HT, hid (by have := HL3.out; omega), hid (below_drewN HB3.out _), hid ⟨HR3b.out.1.kept (below_drewN (Below.refl _ _) nq), HR3b.out.2⟩⟩
                case measure => simp [intOf]; omega
          · obtain rfl : n = k := by omega
            have HT : Hid (∀ p : Pr, p ∈ out3 ↔ p.1 = (o2, nm) ∧ ∃ z, ((o2, n2), z) ∈ l.take (j + 1) ∧ isD z ∧ ((z, bn), p.2) ∈ l) := hid (fun p => by
              have h1 := HU3.out p
              rw [List.take_of_length_le (by rw [HN.out]; exact Nat.le_refl _), HOU.out] at h1
              rw [h1, take_snoc_of HX.out]
              constructor
              · rintro (⟨h2, z, h3, h4, h5⟩ | ⟨h2, h3⟩)
                · exact ⟨h2, z, List.mem_append_left _ h3, h4, h5⟩
                · exact ⟨h2, y, by simp, HDY.out, h3⟩
              · rintro ⟨h2, z, h3, h4, h5⟩
                rcases List.mem_append.1 h3 with h3 | h3
                · exact .inl ⟨h2, z, h3, h4, h5⟩
                · rw [List.mem_singleton] at h3
                  simp only [Prod.mk.injEq] at h3
                  obtain ⟨-, rfl⟩ := h3
                  exact .inr ⟨h2, h5⟩)
            go_wp2
            go_roundw
            case rel => exact ⟨A3, c3, j + 1, out3, rfl, by go_num, by omega, HO3, HT, hid (by have := HL3.out; have := HOL.out; rw [Nat.succ_mul]; omega), HB3⟩
            case measure => simp [intOf]; omega
      · have HT : Hid (∀ p : Pr, p ∈ out ↔ p.1 = (D, nm) ∧ ∃ z, ((D, an), z) ∈ l.take (j + 1) ∧ isD z ∧ ((z, bn), p.2) ∈ l) := hid (fun p => by
          rw [HOU.out]
          refine and_congr_right fun _ => exists_congr fun z => ?_
          rw [take_snoc_of HX.out, List.mem_append, List.mem_singleton]
          refine ⟨fun h => ⟨.inl h.1, h.2⟩, fun h => ⟨h.1.elim id fun h2 => ?_, h.2⟩⟩
          simp only [Prod.mk.injEq] at h2
          exact absurd ⟨h2.1.1.symm, h2.1.2.symm, HNN.out.1 (h2.2 ▸ h.2.1)⟩ he)
        by_cases ho : o2 = D
        · subst ho
          by_cases hn2 : n2 = an
          · subst hn2
            have hN0 : N = 0 := Classical.byContradiction fun e => he ⟨rfl, rfl, e⟩
            subst hN0
            clear he HNN
            go_wp2_with fail
            go_quiet (fail)
            go_wp2
            obtain ⟨wd, hwd⟩ : ∃ wd, wd = wr.drewN nq := ⟨_, rfl⟩
            have HBD : Hid (Below wr.heap.size wr wd) := hid (by rw [hwd]; exact below_drewN (Below.refl _ _) _)
            have HBDD : Hid (Below wr.heap.size wr wd.drew) := hid HBD.out.drew
            rw [← hwd]
            clear hwd a0 a1 a2 c0 c1 c2 c3 c4 c5 c6 c7 c8 g0 g1
            have a0 := fun x : Wn wr.heap.size wr => (HK.out x.1 x.2).1
            have a1 := fun x : Wn wr.heap.size wr => (HK.out x.1 x.2).2.1
            have a2 := fun x : Wn wr.heap.size wr => (HK.out x.1 x.2).2.2.1
            have c0 := fun x : Wn wr.heap.size wr => (HK.out x.1 x.2).2.2.2.1
            have c1 := fun x : Wn wr.heap.size wr => (HK.out x.1 x.2).2.2.2.2.1
            have c2 := fun x : Wn wr.heap.size wr => (HK.out x.1 x.2).2.2.2.2.2.1
            have c3 := fun x : Wn wr.heap.size wr => (HK.out x.1 x.2).2.2.2.2.2.2.1
            have c4 := fun x : Wn wr.heap.size wr => (HK.out x.1 x.2).2.2.2.2.2.2.2.1
            have c5 := fun x : Wn wr.heap.size wr => (HK.out x.1 x.2).2.2.2.2.2.2.2.2.1
            have c6 := fun x : Wn wr.heap.size wr => (HK.out x.1 x.2).2.2.2.2.2.2.2.2.2.1
            have c7 := fun x : Wn wr.heap.size wr => (HK.out x.1 x.2).2.2.2.2.2.2.2.2.2.2.1
            have c8 := fun x : Wn wr.heap.size wr => (HK.out x.1 x.2).2.2.2.2.2.2.2.2.2.2.2.1
            have g0 := fun x : Wn wr.heap.size wr => (HK.out x.1 x.2).2.2.2.2.2.2.2.2.2.2.2.2.1
            have g1 := fun x : Wn wr.heap.size wr => (HK.out x.1 x.2).2.2.2.2.2.2.2.2.2.2.2.2.2
            refine region_in wr.heap.size wr (by kernel_rfl) (by kernel_rfl) HBDD.out ?_
            repeat (go_big_quiet_step (first | (go_at_call 53; exact call_in (Nat.le_refl _) (HFI.out _)) | (go_at_call 52; exact call_in (Nat.le_refl _) (HNU.out _))))
            refine wpQuiet_nil ?_
            intro wq hwq
            have HWQ := hid hwq
            clear hwq a0 a1 a2 c0 c1 c2 c3 c4 c5 c6 c7 c8 g0 g1
            go_wp2
            have HOW5 := hid (HOW.out.below HWQ.out)
            have HB5 := hid (HB.out.trans (HWQ.out.mono HB.out.size))
            go_roundw
            case rel => exact ⟨A', c', j + 1, out, rfl, by go_num, by omega, hid HOW5.out, HT, hid (by have := HOL.out; have : (j + 1) * n = j * n + n := Nat.succ_mul j n; omega), hid HB5.out⟩
            case measure => simp [intOf]; omega
          · obtain ⟨x1, x2⟩ := inne hn2
            clear he hn2 HNN
            go_wp2_with fail
            go_quiet (fail)
            go_wp2
            obtain ⟨wd, hwd⟩ : ∃ wd, wd = wr.drewN nq := ⟨_, rfl⟩
            have HBD : Hid (Below wr.heap.size wr wd) := hid (by rw [hwd]; exact below_drewN (Below.refl _ _) _)
            have HBDD : Hid (Below wr.heap.size wr wd.drew) := hid HBD.out.drew
            rw [← hwd]
            clear hwd a0 a1 a2 c0 c1 c2 c3 c4 c5 c6 c7 c8 g0 g1
            have a0 := fun x : Wn wr.heap.size wr => (HK.out x.1 x.2).1
            have a1 := fun x : Wn wr.heap.size wr => (HK.out x.1 x.2).2.1
            have a2 := fun x : Wn wr.heap.size wr => (HK.out x.1 x.2).2.2.1
            have c0 := fun x : Wn wr.heap.size wr => (HK.out x.1 x.2).2.2.2.1
            have c1 := fun x : Wn wr.heap.size wr => (HK.out x.1 x.2).2.2.2.2.1
            have c2 := fun x : Wn wr.heap.size wr => (HK.out x.1 x.2).2.2.2.2.2.1
            have c3 := fun x : Wn wr.heap.size wr => (HK.out x.1 x.2).2.2.2.2.2.2.1
            have c4 := fun x : Wn wr.heap.size wr => (HK.out x.1 x.2).2.2.2.2.2.2.2.1
            have c5 := fun x : Wn wr.heap.size wr => (HK.out x.1 x.2).2.2.2.2.2.2.2.2.1
            have c6 := fun x : Wn wr.heap.size wr => (HK.out x.1 x.2).2.2.2.2.2.2.2.2.2.1
            have c7 := fun x : Wn wr.heap.size wr => (HK.out x.1 x.2).2.2.2.2.2.2.2.2.2.2.1
            have c8 := fun x : Wn wr.heap.size wr => (HK.out x.1 x.2).2.2.2.2.2.2.2.2.2.2.2.1
            have g0 := fun x : Wn wr.heap.size wr => (HK.out x.1 x.2).2.2.2.2.2.2.2.2.2.2.2.2.1
            have g1 := fun x : Wn wr.heap.size wr => (HK.out x.1 x.2).2.2.2.2.2.2.2.2.2.2.2.2.2
            refine region_in wr.heap.size wr (by kernel_rfl) (by kernel_rfl) HBDD.out ?_
            repeat (go_big_quiet_step (first | (go_at_call 53; exact call_in (Nat.le_refl _) (HFI.out _)) | (go_at_call 52; exact call_in (Nat.le_refl _) (HNU.out _))))
            refine wpQuiet_nil ?_
            intro wq hwq
            have HWQ := hid hwq
            clear hwq a0 a1 a2 c0 c1 c2 c3 c4 c5 c6 c7 c8 g0 g1
            go_wp2
            have HOW5 := hid (HOW.out.below HWQ.out)
            have HB5 := hid (HB.out.trans (HWQ.out.mono HB.out.size))
            go_roundw
            case rel => exact ⟨A', c', j + 1, out, rfl, by go_num, by omega, hid HOW5.out, HT, hid (by have := HOL.out; have : (j + 1) * n = j * n + n := Nat.succ_mul j n; omega), hid HB5.out⟩
            case measure => simp [intOf]; omega
        · obtain ⟨x1, x2⟩ := inne ho
          clear he ho HNN
          go_wp2_with fail
          go_quiet (fail)
          go_wp2
          obtain ⟨wd, hwd⟩ : ∃ wd, wd = wr.drewN nq := ⟨_, rfl⟩
          have HBD : Hid (Below wr.heap.size wr wd) := hid (by rw [hwd]; exact below_drewN (Below.refl _ _) _)
          have HBDD : Hid (Below wr.heap.size wr wd.drew) := hid HBD.out.drew
          rw [← hwd]
          clear hwd a0 a1 a2 c0 c1 c2 c3 c4 c5 c6 c7 c8 g0 g1
          have a0 := fun x : Wn wr.heap.size wr => (HK.out x.1 x.2).1
          have a1 := fun x : Wn wr.heap.size wr => (HK.out x.1 x.2).2.1
          have a2 := fun x : Wn wr.heap.size wr => (HK.out x.1 x.2).2.2.1
          have c0 := fun x : Wn wr.heap.size wr => (HK.out x.1 x.2).2.2.2.1
          have c1 := fun x : Wn wr.heap.size wr => (HK.out x.1 x.2).2.2.2.2.1
          have c2 := fun x : Wn wr.heap.size wr => (HK.out x.1 x.2).2.2.2.2.2.1
          have c3 := fun x : Wn wr.heap.size wr => (HK.out x.1 x.2).2.2.2.2.2.2.1
          have c4 := fun x : Wn wr.heap.size wr => (HK.out x.1 x.2).2.2.2.2.2.2.2.1
          have c5 := fun x : Wn wr.heap.size wr => (HK.out x.1 x.2).2.2.2.2.2.2.2.2.1
          have c6 := fun x : Wn wr.heap.size wr => (HK.out x.1 x.2).2.2.2.2.2.2.2.2.2.1
          have c7 := fun x : Wn wr.heap.size wr => (HK.out x.1 x.2).2.2.2.2.2.2.2.2.2.2.1
          have c8 := fun x : Wn wr.heap.size wr => (HK.out x.1 x.2).2.2.2.2.2.2.2.2.2.2.2.1
          have g0 := fun x : Wn wr.heap.size wr => (HK.out x.1 x.2).2.2.2.2.2.2.2.2.2.2.2.2.1
          have g1 := fun x : Wn wr.heap.size wr => (HK.out x.1 x.2).2.2.2.2.2.2.2.2.2.2.2.2.2
          refine region_in wr.heap.size wr (by kernel_rfl) (by kernel_rfl) HBDD.out ?_
          repeat (go_big_quiet_step (first | (go_at_call 53; exact call_in (Nat.le_refl _) (HFI.out _)) | (go_at_call 52; exact call_in (Nat.le_refl _) (HNU.out _))))
          refine wpQuiet_nil ?_
          intro wq hwq
          have HWQ := hid hwq
          clear hwq a0 a1 a2 c0 c1 c2 c3 c4 c5 c6 c7 c8 g0 g1
          go_wp2
          have HOW5 := hid (HOW.out.below HWQ.out)
          have HB5 := hid (HB.out.trans (HWQ.out.mono HB.out.size))
          go_roundw
          case rel => exact ⟨A', c', j + 1, out, rfl, by go_num, by omega, hid HOW5.out, HT, hid (by have := HOL.out; have : (j + 1) * n = j * n + n := Nat.succ_mul j n; omega), hid HB5.out⟩
          case measure => simp [intOf]; omega
    · obtain rfl : n = j := by omega
      go_wp2
      go_ret
      refine ⟨A', c', out, rfl, own_mono' HOW.out HQ3.out.size, HQ3.out.trans (HB.out.mono HQ3.out.size), fun p => ?_, ?_⟩
      · have e1 := HOU.out p
        rw [List.take_of_length_le (by rw [HN.out]; exact Nat.le_refl _)] at e1
        rw [e1]
        unfold Brg roleOf firstOf
        simp [HD.out]
      · exact HOL.out
end Go.Proofs.YtoajckhnneagnaaDoor.Sh
