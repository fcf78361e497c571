/-
  The document's book: Learn, by contract.
-/
import Derived.Test.YtkimhdcngagmaaaJa10
import Derived.Test.YtkimhdcngagmaaaJa11
import Derived.BigQuiet
set_option linter.unusedVariables false
set_option linter.unusedSimpArgs false
namespace Go.Proofs.Ytkimhdcngagmaaa.Sh
open Go Go.RowKit

set_option linter.unusedSimpArgs false
set_option linter.unusedVariables false
set_option maxRecDepth 20000 in
set_option maxHeartbeats 16000000 in
theorem refLearn_any {w : World} {P : Nat → Prop} {g : Nat} {r : RB} (h : BookR w P g r) (hm : r.S.length ≤ 1000000) (hmL : r.L.length ≤ 1000000) (A : Option Addr) (all : List Crd) (nn cc : Nat) (hnn : all.length = nn) (hna : nn ≤ 1000000) (hA : Crs w w.heap.size A all) (d a : Int) :
    Calls Try.prog 24 #[.pointer (some ⟨g, 0, none⟩), .int .i64 d, .slice A nn cc, .int .i64 a] w fun e w' => e = .returned (.int .i64 (r.learn d (countsC all) a).1) ∧ BookR w' (plusP P w.heap.size w'.heap.size) g (r.learn d (countsC all) a).2 ∧ Grew w w' (fun x => x = g) := by
  have HBO := hid h
  have HST := hid (fun W (hW : Below w.heap.size w W) => stamp_any (h.below hW) hm d)
  have HCT := hid (fun W (hW : Below w.heap.size w W) => refCounts_any A all nn cc hnn (by omega) W ((hA.below hW).more hW.size))
  obtain ⟨o, L, S⟩ := r
  obtain ⟨⟨LA, SA, lc, sc, p0, hr, a1, a2, a3, b1, b2, b3⟩, hd⟩ := h
  have hgl := hd g p0
  simp only at hm hmL hr a1 a3 b1 b3 HST
  have HSM := hid hm
  obtain ⟨m, hm'⟩ : ∃ n, L.length = n := ⟨_, rfl⟩
  obtain ⟨sn, hsn⟩ : ∃ n, S.length = n := ⟨_, rfl⟩
  rw [hm'] at hr hmL a1
  rw [hsn] at hr
  have HR := hid (fun W (hW : Below w.heap.size w W) => (hW.block g hgl).trans hr)
  have c0 : w.cell? ⟨g, 0, none⟩ = some (.int .i64 o) := by rw [cell_of_row w g 0 _ _ (0, 0) hr]; rfl
  have HM := hid hm'
  have HY := hid (fun W (hW : Below w.heap.size w W) => (a3.els.below hW).more hW.size)
  have HEND : Hid (∀ x, (x, (⟨o, L, S⟩ : RB)) = RB.learn ⟨o, L, S⟩ d (countsC all) a → ∀ w', Below w.heap.size w w' → BookR w' (plusP P w.heap.size w'.heap.size) g (RB.learn ⟨o, L, S⟩ d (countsC all) a).2 ∧ Grew w w' (fun x => x = g)) := hid (fun x e w' hw => by rw [← e]; exact ⟨(HBO.out.below hw).plus, Grew.of_below hw⟩)
  have HB0 := hid (Below.refl w.heap.size w)
  obtain ⟨C, hC⟩ : ∃ C, countsC all = C := ⟨_, rfl⟩
  rw [hC] at HEND ⊢
  have HCE := hid hC
  clear hC
  clear hr a3 b1 b2 b3 hsn hm' p0 hd hm hA hnn
  by_cases h1 : d = o
  · subst h1
    have HE := hid (RB.learn_no (r := ⟨d, L, S⟩) (d := d) (a := a) C (mayH_no (.inl rfl)))
    go_enter Try.func24, Try.ntmps24
    go_wp2_with fail
    go_ret
    exact ⟨by rw [HE.out]; rfl, HEND.out 1 HE.out.symm _ HB0.out⟩
  have h1' : (d == o) = false := beq_eq_false_iff_ne.2 h1
  by_cases h2 : d < 1
  · have HE := hid (RB.learn_no (r := ⟨o, L, S⟩) (d := d) (a := a) C (mayH_no (.inr (.inl h2))))
    go_enter Try.func24, Try.ntmps24
    go_wp2_with fail
    go_ret
    exact ⟨by rw [HE.out]; rfl, HEND.out 1 HE.out.symm _ HB0.out⟩
  by_cases h3 : 16 < d
  · have HE := hid (RB.learn_no (r := ⟨o, L, S⟩) (d := d) (a := a) C (mayH_no (.inr (.inr (.inl h3)))))
    go_enter Try.func24, Try.ntmps24
    go_wp2_with fail
    go_ret
    exact ⟨by rw [HE.out]; rfl, HEND.out 1 HE.out.symm _ HB0.out⟩
  by_cases h4 : a < 0
  · have HE := hid (RB.learn_no (r := ⟨o, L, S⟩) (d := d) (a := a) C (mayH_no (.inr (.inr (.inr (.inl h4))))))
    go_enter Try.func24, Try.ntmps24
    go_wp2_with fail
    go_ret
    exact ⟨by rw [HE.out]; rfl, HEND.out 1 HE.out.symm _ HB0.out⟩
  by_cases h5 : 1099511627776 < a
  · have HE := hid (RB.learn_no (r := ⟨o, L, S⟩) (d := d) (a := a) C (mayH_no (.inr (.inr (.inr (.inr h5))))))
    go_enter Try.func24, Try.ntmps24
    go_wp2_with fail
    go_ret
    exact ⟨by rw [HE.out]; rfl, HEND.out 1 HE.out.symm _ HB0.out⟩
  have hmay : mayH o d a = true := (mayH_iff _ _ _).2 ⟨⟨by omega, by omega⟩, h1, by omega, by omega⟩
  have HS0 := hid (HST.out w (Below.refl _ _))
  obtain ⟨s, hs⟩ : ∃ s, stampR S d = s := ⟨_, rfl⟩
  rw [hs] at HS0
  by_cases hle : a < s
  · have HE := hid (RB.learn_late (r := ⟨o, L, S⟩) (d := d) (a := a) C (by rw [hs]; exact hle))
    clear hmay hs
    go_enter Try.func24, Try.ntmps24
    go_wp2_with fail
    refine HS0.out.mono ?_
    rintro er w2 ⟨rfl, hw⟩
    have hw2 : w = w2 := hw
    subst hw2
    go_wp2_with fail
    go_ret
    exact ⟨by rw [HE.out]; rfl, HEND.out 1 HE.out.symm _ HB0.out⟩
  have HMY := hid hmay
  have HSS : Hid (stampR S d ≤ a) := hid (by rw [hs]; omega)
  have HC0 := hid (HCT.out w (Below.refl _ _))
  clear hmay hs
  obtain ⟨u, hu⟩ : ∃ u, addT a 56 = u := ⟨_, rfl⟩
  have HAD : Hid (∀ W, Calls Try.prog 31 #[.int .i64 a, .int .i64 56] W fun e w' => e = .returned (.int .i64 u) ∧ W = w') := hid (fun W => by have h := refAdd_any a 56 W; rw [hu] at h; exact h)
  have HU := hid hu
  clear hu HCT HST
  go_enter Try.func24, Try.ntmps24
  go_wp2_with fail
  refine HS0.out.mono ?_
  rintro er w2 ⟨rfl, hw⟩
  have hw2 : w = w2 := hw
  subst hw2
  clear hw HS0
  go_wp2_with fail
  refine HC0.out.mono ?_
  rintro er w3 ⟨A3, n3, c3, out, rfl, hn3, ho3, hco, hb3⟩
  obtain rfl : C = out := HCE.out.symm.trans (countsC_eq hco)
  have HL3 := hid ho3.len
  have HX3 := hid (fun W (hW : Below w3.heap.size w3 W) => (ho3.crs.below hW).more hW.size)
  have HB3 := hid hb3
  clear ho3 hco hb3 HC0 c0
  have HB33 := hid (Below.refl w3.heap.size w3)
  go_wp2_with fail
  go_loopw [9, 11] (fun v i wr => ∃ (A : Option Addr) (m c k : Nat), v = .slice A m c ∧ i = .int .i64 (k : Int) ∧ k ≤ n3 ∧ m ≤ k ∧ Hid ((leasedP d u (C.take k)).length = m) ∧ Hid (Own (E := encL) wr w3.heap.size 55 (.slice A m c) (leasedP d u (C.take k))) ∧ Hid (Below w3.heap.size w3 wr)) (fun _ i _ => n3 - (intOf i).toNat)
  case atStart => exact ⟨none, 0, 0, 0, rfl, rfl, Nat.zero_le _, Nat.le_refl _, hid (by simp [leasedP]), hid (Own.nil _ _ _), HB33⟩
  case round =>
    obtain ⟨wj, hwj⟩ : ∃ x, x = wr := ⟨_, rfl⟩
    subst hwj
    obtain ⟨A, m', c, k, rfl, rfl, hk, hmk, HL, HO, HB⟩ := hrel
    have hk0 : (0 : Int) ≤ (k : Int) := Int.natCast_nonneg _
    by_cases hlt : k < n3
    · obtain ⟨⟨xd, xq, nm, kd, wh, ao, an, bo, bn⟩, hx⟩ : ∃ x, C[k]? = some x := ⟨_, List.getElem?_eq_getElem (by rw [HL3.out]; exact hlt)⟩
      obtain ⟨ad, aj, hA, -, ea, -, d0, d1, d2, d3, d4, d5, d6, d7, d8⟩ := (HX3.out wj HB.out).get hx
      subst hA
      have HX := hid (take_snoc_of hx)
      have hk1 : (k : Int) < (n3 : Int) := by omega
      clear hx
      by_cases he : xd = d
      · subst he
        have HNX : Hid (leasedP xd u (C.take (k + 1)) = leasedP xd u (C.take k) ++ [⟨⟨xd, xq, nm, kd, wh, ao, an, bo, bn⟩, u⟩]) := hid (by rw [HX.out, leasedP_snoc, if_pos rfl])
        have hfl : (leasedP xd u (C.take k)).length ≤ 1000000000000 := by rw [HL.out]; omega
        have HOA := hid (HO.out.drew.alloc (.cells #[.int .i64 xd, .int .i64 xq, .string nm, .int .i64 kd, .string wh, .string ao, .string an, .string bo, .string bn, .int .i64 u] 55))
        have HRD := hid (reads_new wj.drew #[.int .i64 xd, .int .i64 xq, .string nm, .int .i64 kd, .string wh, .string ao, .string an, .string bo, .string bn, .int .i64 u] 55 (0, 0))
        have HBA := hid (HB.out.drew.alloc HB.out.drew.size (.cells #[.int .i64 xd, .int .i64 xq, .string nm, .int .i64 kd, .string wh, .string ao, .string an, .string bo, .string bn, .int .i64 u] 55))
        have hbs : w3.heap.size ≤ (wj.drew.alloc (.cells #[.int .i64 xd, .int .i64 xq, .string nm, .int .i64 kd, .string wh, .string ao, .string an, .string bo, .string bn, .int .i64 u] 55)).heap.size := HBA.out.size
        go_wp2_with fail
        go_region_law ((first
          | (refine step_callG (by rfl) (f := 31) (by rfl) _ (by simp [Act.eval, Act.put]) (HAD.out _) (enters_of Try.func31 (by kernel_rfl) rfl) ?_; rintro er w8 ⟨rfl, hw⟩; subst hw; refine ⟨_, rfl, ?_⟩)
          | (refine step_app1 (E := encL) (by rfl) slL (.tmp 60) (.tmp 68) (by rfl) (B := w3.heap.size) (v := .slice A m' c) (l := leasedP xd u (C.take k)) HOA.out (by rfl) (ad := ⟨wj.heap.size, 0, none⟩) (c := 1) ⟨⟨xd, xq, nm, kd, wh, ao, an, bo, bn⟩, u⟩ (by rfl) HRD.out hfl (by omega) hbs ?_; intro A9 c9 w9 ho9 hg9 he9; have HO9 := hid ho9; have HB9 := hid (HBA.out.grown hg9 hbs (fun g e => (World.ownsRow.lt HOA.out g e).1)); clear ho9 hg9 he9)))
        all_goals
          go_wp2_with fail
          rw [HL.out] at HO9 ⊢
          go_roundw
          case rel => exact ⟨A9, m' + 1, c9, k + 1, rfl, by go_num, by omega, by omega, hid (by rw [HNX.out, List.length_append, HL.out]; rfl), hid (by rw [HNX.out]; exact HO9.out), HB9⟩
          case measure => simp [intOf]; omega
      · have h6 : (xd == d) = false := beq_eq_false_iff_ne.2 he
        have HNX : Hid (leasedP d u (C.take (k + 1)) = leasedP d u (C.take k)) := hid (by rw [HX.out, leasedP_snoc, if_neg he])
        go_wp2_with fail
        go_roundw
        case rel => exact ⟨A, m', c, k + 1, rfl, by go_num, by omega, by omega, hid (by rw [HNX.out]; exact HL.out), hid (by rw [HNX.out]; exact HO.out), HB⟩
        case measure => simp [intOf]; omega
    · obtain rfl : k = n3 := by omega
      have HT : Hid (leasedP d u (C.take k) = leasedP d u C) := hid (by rw [List.take_of_length_le (by rw [HL3.out]; exact Nat.le_refl _)])
      rw [HT.out] at HO HL
      have HBW := hid (HB3.out.trans (HB.out.mono HB3.out.size))
      by_cases hful : 24 < m'
      · have HE := hid (RB.learn_full (r := ⟨o, L, S⟩) (d := d) (a := a) (out := C) HMY.out HSS.out (by rw [HU.out, HL.out]; exact hful))
        have hful2 : (24 : Int) < (m' : Int) := by omega
        go_wp2_with fail
        go_ret
        exact ⟨by rw [HE.out]; rfl, HEND.out 12 HE.out.symm _ HBW.out⟩
      have hful2 : ¬ (24 : Int) < (m' : Int) := by omega
      have HE := hid (RB.learn_yes (r := ⟨o, L, S⟩) (d := d) (a := a) (out := C) HMY.out HSS.out (by rw [HU.out, HL.out]; omega))
      rw [HU.out] at HE
      obtain ⟨ol, hol⟩ : ∃ ol, leasedP d u C = ol := ⟨_, rfl⟩
      rw [hol] at HE HO HL
      have HWE := hid (fun W (hW : Below wj.heap.size wj W) => (((show Own (E := encL) wj w3.heap.size 55 (.slice A ol.length c) ol from by rw [HL.out]; exact HO.out) |> own_els).below hW).more hW.size)
      have HBJ := hid (Below.refl wj.heap.size wj)
      clear HT hol HO HB HX3 HEND HAD
      obtain ⟨w4, hw4⟩ : ∃ x, x = wj := ⟨_, rfl⟩
      subst hw4
      go_wp2_with fail
      go_loopw [12, 13] (fun v i wr => ∃ (A : Option Addr) (m' c k : Nat), v = .slice A m' c ∧ i = .int .i64 (k : Int) ∧ k ≤ m ∧ m' ≤ k ∧ Hid (((L.take k).filter fun h => decide (h.c.d < d)).length = m') ∧ Hid (Own (E := encL) wr w4.heap.size 55 (.slice A m' c) ((L.take k).filter fun h => decide (h.c.d < d))) ∧ Hid (Below w4.heap.size w4 wr)) (fun _ i _ => m - (intOf i).toNat)
      case atStart => exact ⟨none, 0, 0, 0, rfl, rfl, Nat.zero_le _, Nat.le_refl _, hid (by simp), hid (Own.nil _ _ _), HBJ⟩
      case round =>
        obtain ⟨wj, hwj⟩ : ∃ x, x = wr := ⟨_, rfl⟩
        subst hwj
        obtain ⟨A6, m6, c6, k, rfl, rfl, hk, hmk, HL6, HO6, HB6⟩ := hrel
        have hk0 : (0 : Int) ≤ (k : Int) := Int.natCast_nonneg _
        have HBW6 := hid (HBW.out.trans (HB6.out.mono HBW.out.size))
        have hrw := HR.out wj HBW6.out
        have e1 : wj.cell? ⟨g, 1, none⟩ = some (.slice LA m lc) := by rw [cell_of_row wj g 1 _ _ (0, 0) hrw]; rfl
        by_cases hlt : k < m
        · obtain ⟨⟨⟨xd, xq, nm, kd, wh, ao, an, bo, bn⟩, xu⟩, hx⟩ : ∃ x, L[k]? = some x := ⟨_, List.getElem?_eq_getElem (by rw [HM.out]; exact hlt)⟩
          obtain ⟨ad, aj, hA, -, ea, -, f0, fs⟩ := (HY.out wj HBW6.out).get hx
          subst hA
          have ea : ad.add (k * 10) = aj := ea
          have d0 := f0 _ rfl
          have d1 := fs 1 _ (by omega) rfl
          have d2 := fs 2 _ (by omega) rfl
          have d3 := fs 3 _ (by omega) rfl
          have d4 := fs 4 _ (by omega) rfl
          have d5 := fs 5 _ (by omega) rfl
          have d6 := fs 6 _ (by omega) rfl
          have d7 := fs 7 _ (by omega) rfl
          have d8 := fs 8 _ (by omega) rfl
          have d9 := fs 9 _ (by omega) rfl
          simp only at d0 d1 d2 d3 d4 d5 d6 d7 d8 d9
          have HX := hid (take_snoc_of hx)
          have hk1 : (k : Int) < (m : Int) := by omega
          clear hx f0 fs hrw
          by_cases he : xd < d
          · have HNX : Hid (((L.take (k + 1)).filter fun h => decide (h.c.d < d)) = ((L.take k).filter fun h => decide (h.c.d < d)) ++ [⟨⟨xd, xq, nm, kd, wh, ao, an, bo, bn⟩, xu⟩]) := hid (by rw [HX.out, List.filter_append]; simp [he])
            obtain ⟨fl, hfll⟩ : ∃ fl, ((L.take k).filter fun h => decide (h.c.d < d)) = fl := ⟨_, rfl⟩
            rw [hfll] at HL6 HO6 HNX
            clear hfll
            have hfl : fl.length ≤ 1000000000000 := by rw [HL6.out]; omega
            have HOA := hid (HO6.out.alloc (.cells #[.int .i64 xd, .int .i64 xq, .string nm, .int .i64 kd, .string wh, .string ao, .string an, .string bo, .string bn, .int .i64 xu] 55))
            have HRD := hid (reads_new wj #[.int .i64 xd, .int .i64 xq, .string nm, .int .i64 kd, .string wh, .string ao, .string an, .string bo, .string bn, .int .i64 xu] 55 (0, 0))
            have HBA := hid (HB6.out.alloc HB6.out.size (.cells #[.int .i64 xd, .int .i64 xq, .string nm, .int .i64 kd, .string wh, .string ao, .string an, .string bo, .string bn, .int .i64 xu] 55))
            have hbs : w4.heap.size ≤ (wj.alloc (.cells #[.int .i64 xd, .int .i64 xq, .string nm, .int .i64 kd, .string wh, .string ao, .string an, .string bo, .string bn, .int .i64 xu] 55)).heap.size := HBA.out.size
            go_wp2_with (first | (at_builtin; refine wpList_app1 (E := encL) rfl slL (.tmp 94) (.tmp 102) rfl (B := w4.heap.size) (v := .slice A6 m6 c6) (l := fl) HOA.out rfl (ad := ⟨wj.heap.size, 0, none⟩) (c := 1) ⟨⟨xd, xq, nm, kd, wh, ao, an, bo, bn⟩, xu⟩ rfl HRD.out hfl (by omega) hbs ?_; intro A9 c9 w9 ho9 hg9 he9; have HO9 := hid ho9; have HB9 := hid (HBA.out.grown hg9 hbs (fun g e => (World.ownsRow.lt HOA.out g e).1)); clear ho9 hg9 he9) | go_in)
            rw [HL6.out] at HO9 ⊢
            go_roundw
            case rel => exact ⟨A9, m6 + 1, c9, k + 1, rfl, by go_num, by omega, by omega, hid (by rw [HNX.out, List.length_append, HL6.out]; rfl), hid (by rw [HNX.out]; exact HO9.out), HB9⟩
            case measure => simp [intOf]; omega
          · have HNX : Hid (((L.take (k + 1)).filter fun h => decide (h.c.d < d)) = ((L.take k).filter fun h => decide (h.c.d < d))) := hid (by rw [HX.out, List.filter_append]; simp; omega)
            go_wp2_with fail
            go_roundw
            case rel => exact ⟨A6, m6, c6, k + 1, rfl, by go_num, by omega, by omega, hid (by rw [HNX.out]; exact HL6.out), hid (by rw [HNX.out]; exact HO6.out), HB6⟩
            case measure => simp [intOf]; omega
        · obtain rfl : k = m := by omega
          have HT : Hid (L.take k = L) := hid (List.take_of_length_le (by rw [HM.out]; exact Nat.le_refl _))
          rw [HT.out] at HO6 HL6
          obtain ⟨fl, hfll⟩ : ∃ fl, (L.filter fun h => decide (h.c.d < d)) = fl := ⟨_, rfl⟩
          rw [hfll] at HL6 HO6
          have HFL := hid hfll
          have hfl : fl.length + m' ≤ 1000000000000 := by rw [HL6.out]; omega
          have HRO := hid (HWE.out wj HB6.out).reads
          have HOX : Hid (Own (E := encL) wj w4.heap.size 55 (.slice A6 m6 c6) fl) := HO6
          have hbs6 : w4.heap.size ≤ wj.heap.size := HB6.out.size
          have hln6 : ol.length = m' := HL.out
          clear hfll hrw
          go_wp2_with (first | (at_builtin; refine wpList_appL (E := encL) rfl slL (.tmp 104) (.tmp 105) rfl (B := w4.heap.size) (v := .slice A6 m6 c6) (l := fl) HOX.out rfl (A := A) (m := m') (c := c) ol rfl hln6 HRO.out hfl (by omega) hbs6 ?_; intro A9 c9 w9 ho9 hg9 he9; have HO9 := hid ho9; have HB9 := hid (HB6.out.grown hg9 hbs6 (fun g e => (World.ownsRow.lt HOX.out g e).1)); clear ho9 hg9 he9) | go_in)
          rw [HL6.out] at HO9 ⊢
          have HL9 : Hid ((fl ++ ol).length = m6 + m') := hid (by rw [List.length_append, HL6.out, HL.out])
          obtain ⟨f2, hf2⟩ : ∃ f2, fl ++ ol = f2 := ⟨_, rfl⟩
          rw [hf2] at HO9 HL9
          have HF2 := hid hf2
          obtain ⟨m7, hm7⟩ : ∃ m7, m6 + m' = m7 := ⟨_, rfl⟩
          rw [hm7] at HO9 HL9 ⊢
          have hm7b : m7 ≤ k + 24 := by omega
          clear hf2 HB6 HRO HOX HO6 hln6 hbs6 hm7 e1
          go_loopw [12, 14] (fun v i wr => ∃ (A : Option Addr) (m' c j : Nat), v = .slice A m' c ∧ i = .int .i64 (j : Int) ∧ j ≤ k ∧ m' ≤ m7 + j ∧ Hid ((f2 ++ (L.take j).filter fun h => decide (d < h.c.d)).length = m') ∧ Hid (Own (E := encL) wr w4.heap.size 55 (.slice A m' c) (f2 ++ (L.take j).filter fun h => decide (d < h.c.d))) ∧ Hid (Below w4.heap.size w4 wr)) (fun _ i _ => k - (intOf i).toNat)
          case atStart => exact ⟨A9, m7, c9, 0, rfl, rfl, Nat.zero_le _, Nat.le_refl _, hid (by simpa using HL9.out), hid (by simpa using HO9.out), HB9⟩
          case round =>
            clear HO9 HB9 HL9
            obtain ⟨wi, hwi⟩ : ∃ x, x = wr := ⟨_, rfl⟩
            subst hwi
            obtain ⟨A8, m8, c8, j, rfl, rfl, hj, hmj, HL8, HO8, HB8⟩ := hrel
            have hj0 : (0 : Int) ≤ (j : Int) := Int.natCast_nonneg _
            have HBW8 := hid (HBW.out.trans (HB8.out.mono HBW.out.size))
            have hrw := HR.out wi HBW8.out
            have e1 : wi.cell? ⟨g, 1, none⟩ = some (.slice LA k lc) := by rw [cell_of_row wi g 1 _ _ (0, 0) hrw]; rfl
            by_cases hlt2 : j < k
            · obtain ⟨⟨⟨xd, xq, nm, kd, wh, ao, an, bo, bn⟩, xu⟩, hx⟩ : ∃ x, L[j]? = some x := ⟨_, List.getElem?_eq_getElem (by rw [HM.out]; exact hlt2)⟩
              obtain ⟨ad, aj, hA, -, ea, -, f0, fs⟩ := (HY.out wi HBW8.out).get hx
              subst hA
              have ea : ad.add (j * 10) = aj := ea
              have d0 := f0 _ rfl
              have d1 := fs 1 _ (by omega) rfl
              have d2 := fs 2 _ (by omega) rfl
              have d3 := fs 3 _ (by omega) rfl
              have d4 := fs 4 _ (by omega) rfl
              have d5 := fs 5 _ (by omega) rfl
              have d6 := fs 6 _ (by omega) rfl
              have d7 := fs 7 _ (by omega) rfl
              have d8 := fs 8 _ (by omega) rfl
              have d9 := fs 9 _ (by omega) rfl
              simp only at d0 d1 d2 d3 d4 d5 d6 d7 d8 d9
              have HX := hid (take_snoc_of hx)
              have hk1 : (j : Int) < (k : Int) := by omega
              clear hx f0 fs hrw
              by_cases he : d < xd
              · have HNX : Hid ((f2 ++ (L.take (j + 1)).filter fun h => decide (d < h.c.d)) = (f2 ++ (L.take j).filter fun h => decide (d < h.c.d)) ++ [⟨⟨xd, xq, nm, kd, wh, ao, an, bo, bn⟩, xu⟩]) := hid (by rw [HX.out, List.filter_append, List.append_assoc]; simp [he])
                obtain ⟨fl, hfll⟩ : ∃ fl, (f2 ++ (L.take j).filter fun h => decide (d < h.c.d)) = fl := ⟨_, rfl⟩
                rw [hfll] at HL8 HO8 HNX
                clear hfll
                have hfl : fl.length ≤ 1000000000000 := by rw [HL8.out]; omega
                have HOA := hid (HO8.out.alloc (.cells #[.int .i64 xd, .int .i64 xq, .string nm, .int .i64 kd, .string wh, .string ao, .string an, .string bo, .string bn, .int .i64 xu] 55))
                have HRD := hid (reads_new wi #[.int .i64 xd, .int .i64 xq, .string nm, .int .i64 kd, .string wh, .string ao, .string an, .string bo, .string bn, .int .i64 xu] 55 (0, 0))
                have HBA := hid (HB8.out.alloc HB8.out.size (.cells #[.int .i64 xd, .int .i64 xq, .string nm, .int .i64 kd, .string wh, .string ao, .string an, .string bo, .string bn, .int .i64 xu] 55))
                have hbs : w4.heap.size ≤ (wi.alloc (.cells #[.int .i64 xd, .int .i64 xq, .string nm, .int .i64 kd, .string wh, .string ao, .string an, .string bo, .string bn, .int .i64 xu] 55)).heap.size := HBA.out.size
                go_wp2_with (first | (at_builtin; refine wpList_app1 (E := encL) rfl slL (.tmp 128) (.tmp 136) rfl (B := w4.heap.size) (v := .slice A8 m8 c8) (l := fl) HOA.out rfl (ad := ⟨wi.heap.size, 0, none⟩) (c := 1) ⟨⟨xd, xq, nm, kd, wh, ao, an, bo, bn⟩, xu⟩ rfl HRD.out hfl (by omega) hbs ?_; intro A9 c9 w9 ho9 hg9 he9; have HO9 := hid ho9; have HB9 := hid (HBA.out.grown hg9 hbs (fun g e => (World.ownsRow.lt HOA.out g e).1)); clear ho9 hg9 he9) | go_in)
                rw [HL8.out] at HO9 ⊢
                go_roundw
                case rel => exact ⟨A9, m8 + 1, c9, j + 1, rfl, by go_num, by omega, by omega, hid (by rw [HNX.out, List.length_append, HL8.out]; rfl), hid (by rw [HNX.out]; exact HO9.out), HB9⟩
                case measure => simp [intOf]; omega
              · have HNX : Hid ((f2 ++ (L.take (j + 1)).filter fun h => decide (d < h.c.d)) = (f2 ++ (L.take j).filter fun h => decide (d < h.c.d))) := hid (by rw [HX.out, List.filter_append]; simp; omega)
                go_wp2_with fail
                go_roundw
                case rel => exact ⟨A8, m8, c8, j + 1, rfl, by go_num, by omega, by omega, hid (by rw [HNX.out]; exact HL8.out), hid (by rw [HNX.out]; exact HO8.out), HB8⟩
                case measure => simp [intOf]; omega
            · obtain rfl : j = k := by omega
              rw [HT.out] at HO8 HL8
              have hPL : putL L d ol = f2 ++ (L.filter fun h => decide (d < h.c.d)) := by unfold putL; rw [HFL.out, HF2.out]
              rw [← hPL] at HO8 HL8
              have hfin := HBO.out.putL HBW8.out (own_mono' HO8.out (by exact HBW.out.size)) HL8.out
              have f1 := frozen_of_row wi g 1 _ _ hrw
              have HF1 := hid hfin.1
              have HF3 := hid hfin.2
              have HHE := hid (refHear_any hfin.1 HSM.out d a)
              clear hfin hPL hrw
              go_wp2_with fail
              refine HHE.out.mono ?_
              rintro er w10 ⟨rfl, hb10, hg10⟩
              go_wp2_with fail
              go_ret
              rw [HE.out]
              refine ⟨rfl, hb10.imp (fun x hx => ?_) (plusP_dom HBO.out.dom (Nat.le_trans HBW8.out.size (Nat.le_trans (by rw [size_setCell']; exact Nat.le_refl _) hg10.size))), HF3.out.trans hg10⟩
              rcases hx with (hx | hx) | hx
              · exact .inl hx
              · exact .inr ⟨hx.1, Nat.lt_of_lt_of_le hx.2 (Nat.le_trans (by rw [size_setCell']; exact Nat.le_refl _) hg10.size)⟩
              · exact .inr ⟨Nat.le_trans HBW8.out.size (by have := hx.1; rw [size_setCell'] at this; exact this), hx.2⟩
end Go.Proofs.Ytkimhdcngagmaaa.Sh
