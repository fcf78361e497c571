/-
  The document's book: Held, Fresh, Stale, by contract.
-/
import Derived.Test.YtkimhdcngagmaaaJa10
import Derived.BigQuiet
import Derived.Test.YtkimhdcngagmaaaJa9
import Derived.Test.YtkimhdcngagmaaaJa11
set_option linter.unusedVariables false
set_option linter.unusedSimpArgs false
namespace Go.Proofs.Ytkimhdcngagmaaa.Sh
open Go Go.RowKit

set_option linter.unusedSimpArgs false
set_option linter.unusedVariables false
set_option maxHeartbeats 8000000 in
theorem refHeld_any {w : World} {P : Nat → Prop} {g : Nat} {r : RB} (h : BookR w P g r) (hmL : r.L.length ≤ 1000000) (now : Int) :
    Calls Try.prog 13 #[.pointer (some ⟨g, 0, none⟩), .int .i64 now] w fun e w' => ∃ A n c, e = .returned (.slice A n c) ∧ (r.held now).length = n ∧ n ≤ c ∧ c ≤ 9223372036854775807 ∧ n ≤ r.L.length ∧ Own (E := encL) w' w.heap.size 55 (.slice A n c) (r.held now) ∧ Below w.heap.size w w' := by
  obtain ⟨o, L, S⟩ := r
  obtain ⟨⟨LA, SA, lc, sc, p0, hr, a1, a2, a3, b1, b2, b3⟩, hd⟩ := h
  have hgl := hd g p0
  simp only at hmL hr a1 a3 ⊢
  obtain ⟨m, hm'⟩ : ∃ n, L.length = n := ⟨_, rfl⟩
  obtain ⟨sn, hsn⟩ : ∃ n, S.length = n := ⟨_, rfl⟩
  rw [hm'] at hr hmL a1 ⊢
  rw [hsn] at hr
  have HR := hid (fun W (hW : Below w.heap.size w W) => (hW.block g hgl).trans hr)
  have HM := hid hm'
  have HY := hid (fun W (hW : Below w.heap.size w W) => (a3.els.below hW).more hW.size)
  have HB0 := hid (Below.refl w.heap.size w)
  have HHE : Hid (RB.held ⟨o, L, S⟩ now = liveL now L) := hid rfl
  have HOV := hid (fun u W => refOver_any now u W)
  clear hr a3 b1 b2 b3 hsn hm' p0 hd
  go_enter Try.func13, Try.ntmps13
  go_wp2_with fail
  go_loopw [5, 6] (fun v i wr => ∃ (A : Option Addr) (m' c k : Nat), v = .slice A m' c ∧ i = .int .i64 (k : Int) ∧ k ≤ m ∧ m' ≤ k ∧ Hid ((liveL now (L.take k)).length = m') ∧ Hid (Own (E := encL) wr w.heap.size 55 (.slice A m' c) (liveL now (L.take k))) ∧ Hid (Below w.heap.size w wr)) (fun _ i _ => m - (intOf i).toNat)
  case atStart => exact ⟨none, 0, 0, 0, rfl, rfl, Nat.zero_le _, Nat.le_refl _, hid (by simp [liveL]), hid (Own.nil _ _ _), HB0⟩
  case round =>
    obtain ⟨wj, hwj⟩ : ∃ x, x = wr := ⟨_, rfl⟩
    subst hwj
    obtain ⟨A6, m6, c6, k, rfl, rfl, hk, hmk, HL6, HO6, HB6⟩ := hrel
    have hk0 : (0 : Int) ≤ (k : Int) := Int.natCast_nonneg _
    have hrw := HR.out wj HB6.out
    have e1 : wj.cell? ⟨g, 1, none⟩ = some (.slice LA m lc) := by rw [cell_of_row wj g 1 _ _ (0, 0) hrw]; rfl
    by_cases hlt : k < m
    · obtain ⟨⟨⟨xd, xq, nm, kd, wh, ao, an, bo, bn⟩, xu⟩, hx⟩ : ∃ x, L[k]? = some x := ⟨_, List.getElem?_eq_getElem (by rw [HM.out]; exact hlt)⟩
      obtain ⟨ad, aj, hA, -, ea, -, f0, fs⟩ := (HY.out wj HB6.out).get hx
      subst hA
      have ea : ad.add (k * 10) = aj := ea
      have d0 := f0 _ rfl
      have d1 := fs 1 _ (by omega) rfl
      have d2 := fs 2 _ (by omega) rfl
      have d3 := fs 3 _ (by omega) rfl
      have d4 := fs 4 _ (by omega) rfl
      have d5 := fs 5 _ (by omega) rfl
      have d6 := fs 6 _ (by omega) rfl
      have d7 := fs 7 _ (by omega) rfl
      have d8 := fs 8 _ (by omega) rfl
      have d9 := fs 9 _ (by omega) rfl
      simp only at d0 d1 d2 d3 d4 d5 d6 d7 d8 d9
      have HX := hid (take_snoc_of hx)
      have hk1 : (k : Int) < (m : Int) := by omega
      have HO := hid (HOV.out xu wj)
      have HLS : Hid (liveL now (L.take (k + 1)) = if overB now xu = true then liveL now (L.take k) else liveL now (L.take k) ++ [⟨⟨xd, xq, nm, kd, wh, ao, an, bo, bn⟩, xu⟩]) := hid (by
        rw [HX.out]; unfold liveL; rw [List.filter_append]
        cases ho : overB now xu <;> simp [ho])
      have HOB : Hid (decide (tk xu ≤ tk now) = overB now xu) := hid rfl
      rw [HOB.out] at HO
      clear hx f0 fs hrw
      cases ho : overB now xu
      · rw [ho] at HO HLS
        simp only [Bool.false_eq_true, if_false] at HLS
        obtain ⟨fl, hfll⟩ : ∃ fl, liveL now (L.take k) = fl := ⟨_, rfl⟩
        rw [hfll] at HL6 HO6 HLS
        clear hfll
        have hfl : fl.length ≤ 1000000000000 := by rw [HL6.out]; omega
        have HOA := hid (HO6.out.alloc (.cells #[.int .i64 xd, .int .i64 xq, .string nm, .int .i64 kd, .string wh, .string ao, .string an, .string bo, .string bn, .int .i64 xu] 55))
        have HRD := hid (reads_new wj #[.int .i64 xd, .int .i64 xq, .string nm, .int .i64 kd, .string wh, .string ao, .string an, .string bo, .string bn, .int .i64 xu] 55 (0, 0))
        have HBA := hid (HB6.out.alloc HB6.out.size (.cells #[.int .i64 xd, .int .i64 xq, .string nm, .int .i64 kd, .string wh, .string ao, .string an, .string bo, .string bn, .int .i64 xu] 55))
        have hbs : w.heap.size ≤ (wj.alloc (.cells #[.int .i64 xd, .int .i64 xq, .string nm, .int .i64 kd, .string wh, .string ao, .string an, .string bo, .string bn, .int .i64 xu] 55)).heap.size := HBA.out.size
        clear ho HOB
        go_wp2_with fail
        refine HO.out.mono ?_
        rintro er w2 ⟨rfl, hw⟩
        have hw2 : wj = w2 := hw
        subst hw2
        go_wp2_with (first | (at_builtin; refine wpList_app1 (E := encL) rfl slL (.tmp 29) (.tmp 37) rfl (B := w.heap.size) (v := .slice A6 m6 c6) (l := fl) HOA.out rfl (ad := ⟨wj.heap.size, 0, none⟩) (c := 1) ⟨⟨xd, xq, nm, kd, wh, ao, an, bo, bn⟩, xu⟩ rfl HRD.out hfl (by omega) hbs ?_; intro A9 c9 w9 ho9 hg9 he9; have HO9 := hid ho9; have HB9 := hid (HBA.out.grown hg9 hbs (fun g e => (World.ownsRow.lt HOA.out g e).1)); clear ho9 hg9 he9) | go_in)
        rw [HL6.out] at HO9 ⊢
        go_roundw
        case rel => exact ⟨A9, m6 + 1, c9, k + 1, rfl, by go_num, by omega, by omega, hid (by rw [HLS.out, List.length_append, HL6.out]; rfl), hid (by rw [HLS.out]; exact HO9.out), HB9⟩
        case measure => simp [intOf]; omega
      · rw [ho] at HO HLS
        simp only [if_true] at HLS
        clear ho HOB
        go_wp2_with fail
        refine HO.out.mono ?_
        rintro er w2 ⟨rfl, hw⟩
        have hw2 : wj = w2 := hw
        subst hw2
        go_wp2_with fail
        go_roundw
        case rel => exact ⟨A6, m6, c6, k + 1, rfl, by go_num, by omega, by omega, hid (by rw [HLS.out]; exact HL6.out), hid (by rw [HLS.out]; exact HO6.out), HB6⟩
        case measure => simp [intOf]; omega
    · obtain rfl : k = m := by omega
      have HT : Hid (L.take k = L) := hid (List.take_of_length_le (by rw [HM.out]; exact Nat.le_refl _))
      rw [HT.out, ← HHE.out] at HO6 HL6
      go_wp2_with fail
      go_ret
      obtain ⟨A', c', e, h1, h2, -⟩ := HO6.out.els
      simp only [Value.slice.injEq] at e
      obtain ⟨rfl, h3, rfl⟩ := e
      exact ⟨_, _, _, rfl, HL6.out, by omega, h2, hmk, HO6.out, HB6.out⟩
set_option maxHeartbeats 4000000 in
theorem refFresh_any {w : World} {P : Nat → Prop} {g : Nat} {r : RB} (h : BookR w P g r) (hm : r.S.length ≤ 1000000) (d now : Int) :
    Calls Try.prog 17 #[.pointer (some ⟨g, 0, none⟩), .int .i64 d, .int .i64 now] w fun e w' => e = .returned (.bool (r.fresh d now)) ∧ w = w' := by
  have HST := hid (stamp_any h hm d)
  obtain ⟨o, L, S⟩ := r
  obtain ⟨⟨LA, SA, lc, sc, p0, hr, a1, a2, a3, b1, b2, b3⟩, hd⟩ := h
  have c0 : w.cell? ⟨g, 0, none⟩ = some (.int .i64 o) := by rw [cell_of_row w g 0 _ _ (0, 0) hr]; rfl
  simp only at HST
  have HF : Hid (RB.fresh ⟨o, L, S⟩ d now = (decide (d = o) || (decide (0 ≤ stampR S d) && !overB now (addT (stampR S d) 48)))) := hid rfl
  obtain ⟨s, hs⟩ : ∃ s, stampR S d = s := ⟨_, rfl⟩
  rw [hs] at HST HF
  clear hr a1 a2 a3 b1 b2 b3 hd hs p0 hm
  by_cases h1 : d = o
  · subst h1
    go_enter Try.func17, Try.ntmps17
    go_wp2_with fail
    go_ret
    exact ⟨by rw [HF.out]; simp, rfl⟩
  have h1' : (d == o) = false := beq_eq_false_iff_ne.2 h1
  rw [decide_eq_false h1, Bool.false_or] at HF
  by_cases h2 : 0 ≤ s
  · rw [decide_eq_true h2, Bool.true_and] at HF
    obtain ⟨u, hu⟩ : ∃ u, addT s 48 = u := ⟨_, rfl⟩
    have HA : Hid (∀ W, Calls Try.prog 31 #[.int .i64 s, .int .i64 48] W fun e w' => e = .returned (.int .i64 u) ∧ W = w') := hid (fun W => by have h := refAdd_any s 48 W; rw [hu] at h; exact h)
    have HO := hid (fun W => refOver_any now u W)
    rw [hu] at HF
    obtain ⟨v, hv⟩ : ∃ v, decide (tk u ≤ tk now) = v := ⟨_, rfl⟩
    rw [hv] at HO
    have HV : Hid (overB now u = v) := hid hv
    rw [HV.out] at HF
    clear hu hv
    go_enter Try.func17, Try.ntmps17
    go_wp2_with fail
    refine HST.out.mono ?_
    rintro er w2 ⟨rfl, hw⟩
    have hw2 : w = w2 := hw
    subst hw2
    go_wp2_with fail
    refine (HA.out _).mono ?_
    rintro er w2 ⟨rfl, hw⟩
    have hw2 : w = w2 := hw
    subst hw2
    go_wp2_with fail
    refine (HO.out _).mono ?_
    rintro er w2 ⟨rfl, hw⟩
    have hw2 : w = w2 := hw
    subst hw2
    go_wp2_with fail
    go_ret
    exact ⟨by rw [HF.out]; rfl, rfl⟩
  · rw [decide_eq_false h2, Bool.false_and] at HF
    go_enter Try.func17, Try.ntmps17
    go_wp2_with fail
    refine HST.out.mono ?_
    rintro er w2 ⟨rfl, hw⟩
    have hw2 : w = w2 := hw
    subst hw2
    go_wp2_with fail
    go_ret
    exact ⟨by rw [HF.out]; rfl, rfl⟩
theorem any_take {α : Type} {l : List α} {p : α → Bool} (h : ∀ x ∈ l, p x = false) : l.any p = false := by
  rw [Bool.eq_false_iff]
  intro ha
  obtain ⟨x, hx, hp⟩ := List.any_eq_true.1 ha
  rw [h x hx] at hp
  cases hp
set_option maxHeartbeats 4000000 in
theorem refStale_any {w : World} {P : Nat → Prop} {g : Nat} {r : RB} (h : BookR w P g r) (hm : r.S.length ≤ 1000000) (A : Option Addr) (ids : List (Int × Int)) (n c : Nat) (hn : ids.length = n) (hnm : n ≤ 1000000) (hA : Els encI w w.heap.size A ids) (now : Int) :
    Calls Try.prog 19 #[.pointer (some ⟨g, 0, none⟩), .slice A n c, .int .i64 now] w fun e w' => e = .returned (.bool (r.stale ids now)) ∧ w = w' := by
  have HF := hid (fun d => refFresh_any h hm d now)
  have HN := hid hn
  have HY := hid hA
  have HSL : Hid (r.stale ids now = ids.any fun x => !r.fresh x.1 now) := hid rfl
  clear h hm hn hA
  go_enter Try.func19, Try.ntmps19
  go_wp2_with fail
  go_loopw [7] (fun i wr => ∃ k : Nat, k ≤ n ∧ i = .int .i64 (k : Int) ∧ Hid (∀ x ∈ ids.take k, (!r.fresh x.1 now) = false) ∧ wr = w) (fun i _ => n - (intOf i).toNat)
  case atStart => exact ⟨0, Nat.zero_le _, rfl, hid (by simp), rfl⟩
  case round =>
    obtain ⟨k, hk, rfl, HP, hw⟩ := hrel
    have hw2 : w = wr := hw.symm
    subst hw2
    clear hw
    have hk0 : (0 : Int) ≤ (k : Int) := Int.natCast_nonneg _
    by_cases hlt : k < n
    · obtain ⟨x, hx⟩ : ∃ x, ids[k]? = some x := ⟨_, List.getElem?_eq_getElem (by rw [HN.out]; exact hlt)⟩
      obtain ⟨ad, aj, hA, -, ea, -, a0, a1⟩ := HY.out.get hx
      subst hA
      have ea : ad.add (k * 2) = aj := ea
      have c0 := a0 _ rfl
      have c1 := a1 1 _ (by omega) rfl
      have HX := hid hx
      obtain ⟨xd, xq⟩ := x
      simp only at c0 c1
      have hk1 : (k : Int) < (n : Int) := by omega
      have HC := hid (HF.out xd)
      obtain ⟨v, hv⟩ : ∃ v, r.fresh xd now = v := ⟨_, rfl⟩
      rw [hv] at HC
      have HV := hid hv
      clear hx a0 a1 hv
      go_wp2_with fail
      refine HC.out.mono ?_
      rintro er w2 ⟨rfl, hw⟩
      have hw2 : w = w2 := hw
      subst hw2
      clear hw
      cases v
      · have HE : Hid (r.stale ids now = true) := hid (by
          rw [HSL.out, List.any_eq_true]
          exact ⟨(xd, xq), List.mem_of_getElem? HX.out, by rw [HV.out]; rfl⟩)
        go_wp2_with fail
        go_ret
        exact ⟨by rw [HE.out]; rfl, rfl⟩
      · have HT : Hid (∀ x ∈ ids.take (k + 1), (!r.fresh x.1 now) = false) := hid (by
          rw [take_snoc_of HX.out]
          intro y hy
          rcases List.mem_append.1 hy with h | h
          · exact HP.out y h
          · rw [List.mem_singleton.1 h, HV.out]; rfl)
        go_wp2_with fail
        go_roundw
        case rel => exact ⟨k + 1, by omega, by go_num, HT, by first | rfl | trivial⟩
        case measure => simp [intOf]; omega
    · obtain rfl : k = n := by omega
      have HE : Hid (r.stale ids now = false) := hid (by
        rw [HSL.out]
        exact any_take (by have := HP.out; rwa [List.take_of_length_le (by rw [HN.out]; exact Nat.le_refl _)] at this))
      go_wp2_with fail
      go_ret
      exact ⟨by rw [HE.out]; rfl, rfl⟩
end Go.Proofs.Ytkimhdcngagmaaa.Sh
/-
  The program's book: isDomain, New, mayHear, Hear, by contract.
-/
namespace Go.Proofs.Ytkimhdcngagmaaa.Sh
open Go Go.RowKit

set_option linter.unusedSimpArgs false
set_option linter.unusedVariables false
theorem isDomain_any (z : Int) (w : World) : Calls Try.prog 22 #[.int .i64 z] w fun e w' => e = .returned (.bool (decide (1 ≤ z ∧ z ≤ 16))) ∧ w = w' := by
  by_cases h : 1 ≤ z
  · by_cases h2 : z ≤ 16
    · rw [show decide (1 ≤ z ∧ z ≤ 16) = true by simp [h, h2]]
      go_enter Try.func22, Try.ntmps22
      go_wp2_with fail
      go_ret
      exact ⟨rfl, rfl⟩
    · rw [show decide (1 ≤ z ∧ z ≤ 16) = false by simp; omega]
      go_enter Try.func22, Try.ntmps22
      go_wp2_with fail
      go_ret
      exact ⟨rfl, rfl⟩
  · rw [show decide (1 ≤ z ∧ z ≤ 16) = false by simp; omega]
    go_enter Try.func22, Try.ntmps22
    go_wp2_with fail
    go_ret
    exact ⟨rfl, rfl⟩
/-- An empty book. -/
def LB.new (o : Int) : LB := ⟨o, fun _ => none, fun _ => []⟩
theorem new_book (w : World) (o : Int) : BookP (((w.alloc (.map #[] 0)).alloc (.map #[] 0)).alloc (.cells #[.int .i64 o, .map (some w.heap.size), .map (some (w.heap.size + 1))] 62)) (plusP (fun _ => False) w.heap.size (w.heap.size + 3)) (w.heap.size + 2) 0 (LB.new o) := by
  have s1 : (w.alloc (.map #[] 0)).heap.size = w.heap.size + 1 := by simp
  have s2 : ((w.alloc (.map #[] 0)).alloc (.map #[] 0)).heap.size = w.heap.size + 2 := by simp
  have hm2 := map_made (P := Try.prog) (w.alloc (.map #[] 0)) 3
  rw [s1] at hm2
  have hm1 := map_made (P := Try.prog) w 3
  have b1 : Below (w.alloc (.map #[] 0)).heap.size (w.alloc (.map #[] 0)) (((w.alloc (.map #[] 0)).alloc (.map #[] 0)).alloc (.cells #[.int .i64 o, .map (some w.heap.size), .map (some (w.heap.size + 1))] 62)) := ((Below.refl _ _).alloc (Nat.le_refl _) _).alloc (by omega) _
  have b2 : Below ((w.alloc (.map #[] 0)).alloc (.map #[] 0)).heap.size ((w.alloc (.map #[] 0)).alloc (.map #[] 0)) (((w.alloc (.map #[] 0)).alloc (.map #[] 0)).alloc (.cells #[.int .i64 o, .map (some w.heap.size), .map (some (w.heap.size + 1))] 62)) := (Below.refl _ _).alloc (Nat.le_refl _) _
  have hg := heap_alloc_new ((w.alloc (.map #[] 0)).alloc (.map #[] 0)) (.cells #[.int .i64 o, .map (some w.heap.size), .map (some (w.heap.size + 1))] 62)
  rw [s2] at hg
  have hst : StM (w.alloc (.map #[] 0)) w.heap.size 0 (LB.new o).st := ⟨_, hm1, fun z hz => rfl⟩
  have hhl : HlM ((w.alloc (.map #[] 0)).alloc (.map #[] 0)) (w.heap.size + 1) 0 (fun x => plusP (fun _ => False) w.heap.size (w.heap.size + 3) x ∧ x ≠ w.heap.size + 2 ∧ x ≠ w.heap.size ∧ x ≠ w.heap.size + 1) (LB.new o).hl := ⟨_, hm2, fun z hz => ⟨none, 0, rfl, Nat.le_refl _, by omega, ElsQ.nil⟩⟩
  refine ⟨⟨w.heap.size, w.heap.size + 1, .inr ⟨by omega, by omega⟩, .inr ⟨by omega, by omega⟩, .inr ⟨by omega, by omega⟩, by omega, by omega, by omega, hg, hst.at' (b1.block _ (by rw [s1]; omega)), hhl.kept (b2.block _ (by rw [s2]; omega)) (fun x hx hl => b2.block _ hl) b2.size⟩, fun x hx => ?_⟩
  have s3 : (((w.alloc (.map #[] 0)).alloc (.map #[] 0)).alloc (.cells #[.int .i64 o, .map (some w.heap.size), .map (some (w.heap.size + 1))] 62)).heap.size = w.heap.size + 3 := by simp
  rw [s3]
  exact hx.elim (fun h => h.elim) (·.2)
theorem new_no (o : Int) (ho : ¬ (1 ≤ o ∧ o ≤ 16)) (w : World) : Calls Try.prog 8 #[.int .i64 o] w fun e w' => e = .returned (.pointer none) ∧ w = w' := by
  have HI := hid (isDomain_any o w)
  rw [decide_eq_false ho] at HI
  go_enter Try.func8, Try.ntmps8
  go_wp2_with fail
  refine HI.out.mono ?_
  rintro er w2 ⟨rfl, hw⟩
  have hw2 : w = w2 := hw
  subst hw2
  go_wp2_with fail
  go_ret
  exact ⟨rfl, rfl⟩
theorem new_yes (o : Int) (ho : 1 ≤ o ∧ o ≤ 16) (w : World) : Calls Try.prog 8 #[.int .i64 o] w fun e w' => ∃ g, e = .returned (.pointer (some ⟨g, 0, none⟩)) ∧ BookP w' (plusP (fun _ => False) w.heap.size w'.heap.size) g 0 (LB.new o) ∧ Below w.heap.size w w' := by
  have HI := hid (isDomain_any o w)
  rw [decide_eq_true ho] at HI
  have hmm := @run_makeMap Try.prog
  go_enter Try.func8, Try.ntmps8
  go_wp2_with fail
  refine HI.out.mono ?_
  rintro er w2 ⟨rfl, hw⟩
  have hw2 : w = w2 := hw
  subst hw2
  go_wp2_with fail
  go_ret
  have hb := new_book w o
  refine ⟨w.heap.size + 2, ?_, ?_, (((Below.refl w.heap.size w).alloc (Nat.le_refl _) _).alloc (by simp) _).alloc (by simp; omega) _⟩
  · simp
  · simpa using hb
theorem mayHear_any {w : World} {g : Nat} {o : Int} (c0 : w.cell? ⟨g, 0, none⟩ = some (.int .i64 o)) (d a : Int) :
    Calls Try.prog 34 #[.pointer (some ⟨g, 0, none⟩), .int .i64 d, .int .i64 a] w fun e w' => e = .returned (.bool (mayH o d a)) ∧ w = w' := by
  have HI := hid (isDomain_any d w)
  by_cases h1 : 1 ≤ d ∧ d ≤ 16
  · rw [decide_eq_true h1] at HI
    by_cases h2 : d = o
    · subst h2
      have HE : Hid (mayH d d a = false) := hid (by unfold mayH; simp)
      have h2' : (d != d) = false := by simp
      go_enter Try.func34, Try.ntmps34
      go_wp2_with fail
      refine HI.out.mono ?_
      rintro er w2 ⟨rfl, hw⟩
      have hw2 : w = w2 := hw
      subst hw2
      go_wp2_with fail
      go_ret
      exact ⟨by rw [HE.out]; rfl, rfl⟩
    have h2' : (d == o) = false := beq_eq_false_iff_ne.2 h2
    have h2b : (d != o) = true := by simp [h2]
    by_cases h3 : 0 ≤ a
    · by_cases h4 : a ≤ 1099511627776
      · have HE : Hid (mayH o d a = true) := hid ((mayH_iff _ _ _).2 ⟨h1, h2, h3, h4⟩)
        go_enter Try.func34, Try.ntmps34
        go_wp2_with fail
        refine HI.out.mono ?_
        rintro er w2 ⟨rfl, hw⟩
        have hw2 : w = w2 := hw
        subst hw2
        go_wp2_with fail
        go_ret
        exact ⟨by rw [HE.out]; rfl, rfl⟩
      · have HE : Hid (mayH o d a = false) := hid (by unfold mayH; exact decide_eq_false (by omega))
        go_enter Try.func34, Try.ntmps34
        go_wp2_with fail
        refine HI.out.mono ?_
        rintro er w2 ⟨rfl, hw⟩
        have hw2 : w = w2 := hw
        subst hw2
        go_wp2_with fail
        go_ret
        exact ⟨by rw [HE.out]; show Ending.returned (.bool (decide (a ≤ 1099511627776))) = _; rw [decide_eq_false (by omega)], rfl⟩
    · have HE : Hid (mayH o d a = false) := hid (by unfold mayH; exact decide_eq_false (by omega))
      go_enter Try.func34, Try.ntmps34
      go_wp2_with fail
      refine HI.out.mono ?_
      rintro er w2 ⟨rfl, hw⟩
      have hw2 : w = w2 := hw
      subst hw2
      go_wp2_with fail
      go_ret
      exact ⟨by rw [HE.out]; rfl, rfl⟩
  · rw [decide_eq_false h1] at HI
    have HE : Hid (mayH o d a = false) := hid (by unfold mayH; exact decide_eq_false (by omega))
    go_enter Try.func34, Try.ntmps34
    go_wp2_with fail
    refine HI.out.mono ?_
    rintro er w2 ⟨rfl, hw⟩
    have hw2 : w = w2 := hw
    subst hw2
    go_wp2_with fail
    go_ret
    exact ⟨by rw [HE.out]; rfl, rfl⟩
theorem in64_dom {d : Int} (h : 1 ≤ d ∧ d ≤ 16) : In64 d := by unfold In64; omega
/-- The program's book, its maps by name. -/
structure BookE (w : World) (P : Nat → Prop) (g h1 h2 k : Nat) (b : LB) : Prop where
  p0 : P g
  p1 : P h1
  p2 : P h2
  n1 : g ≠ h1
  n2 : g ≠ h2
  n3 : h1 ≠ h2
  row : w.heap[g]? = some (.cells #[.int .i64 b.own, .map (some h1), .map (some h2)] 62 (0, 0))
  st : StM w h1 k b.st
  hl : HlM w h2 k (fun x => P x ∧ x ≠ g ∧ x ≠ h1 ∧ x ≠ h2) b.hl
  dom : ∀ x, P x → x < w.heap.size
theorem BookP.e {w : World} {P : Nat → Prop} {g k : Nat} {b : LB} (h : BookP w P g k b) : ∃ h1 h2, BookE w P g h1 h2 k b := by
  obtain ⟨⟨h1, h2, p0, p1, p2, n1, n2, n3, hr, hst, hhl⟩, hd⟩ := h
  exact ⟨h1, h2, p0, p1, p2, n1, n2, n3, hr, hst, hhl, hd⟩
section
variable {w w' : World} {P Q X : Nat → Prop} {g h1 h2 k : Nat} {b : LB}
theorem BookE.p (h : BookE w P g h1 h2 k b) : BookP w P g k b := ⟨⟨h1, h2, h.p0, h.p1, h.p2, h.n1, h.n2, h.n3, h.row, h.st, h.hl⟩, h.dom⟩
theorem BookE.kept (h : BookE w P g h1 h2 k b) (hk : ∀ x, P x → x < w.heap.size → w'.heap[x]? = w.heap[x]?) (hs : w.heap.size ≤ w'.heap.size) : BookE w' P g h1 h2 k b :=
  ⟨h.p0, h.p1, h.p2, h.n1, h.n2, h.n3, (hk g h.p0 (h.dom g h.p0)).trans h.row, h.st.at' (hk h1 h.p1 (h.dom h1 h.p1)), h.hl.kept (hk h2 h.p2 (h.dom h2 h.p2)) (fun x hx hl => hk x hx.1 hl) hs, fun x hx => Nat.lt_of_lt_of_le (h.dom x hx) hs⟩
theorem BookE.below (h : BookE w P g h1 h2 k b) (hb : Below w.heap.size w w') : BookE w' P g h1 h2 k b := h.kept (fun x _ hl => hb.block x hl) hb.size
theorem BookE.imp (h : BookE w P g h1 h2 k b) (hq : ∀ x, P x → Q x) (hd : ∀ x, Q x → x < w.heap.size) : BookE w Q g h1 h2 k b :=
  ⟨hq _ h.p0, hq _ h.p1, hq _ h.p2, h.n1, h.n2, h.n3, h.row, h.st, h.hl.imp (fun x hx _ => ⟨hq x hx.1, hx.2⟩), hd⟩
theorem BookE.plus {n : Nat} (h : BookE w P g h1 h2 k b) : BookE w (plusP P n w.heap.size) g h1 h2 k b := h.imp (fun _ hx => .inl hx) (fun x hx => hx.elim (h.dom x) (·.2))
theorem BookE.c0 (h : BookE w P g h1 h2 k b) : w.cell? ⟨g, 0, none⟩ = some (.int .i64 b.own) := by rw [cell_of_row w g 0 _ _ (0, 0) h.row]; rfl
theorem BookE.c1 (h : BookE w P g h1 h2 k b) : w.cell? ⟨g, 1, none⟩ = some (.map (some h1)) := by rw [cell_of_row w g 1 _ _ (0, 0) h.row]; rfl
theorem BookE.c2 (h : BookE w P g h1 h2 k b) : w.cell? ⟨g, 2, none⟩ = some (.map (some h2)) := by rw [cell_of_row w g 2 _ _ (0, 0) h.row]; rfl
/-- A new stamp. -/
theorem BookE.putSt (h : BookE w P g h1 h2 k b) (hk : k < 1000000) {z : Int} (hz : In64 z) (y : Int) :
    ∃ w', (Instr.mapUpdate 59 (.map (some h1)) (.int .i64 z) (.int .i64 y)).run Try.prog w = .ok () w' ∧ BookE w' P g h1 h2 (k + 1) ⟨b.own, updF b.st z (some y), b.hl⟩ ∧ Grew w w' P := by
  obtain ⟨w', hrun, hst, hg⟩ := h.st.put hz y hk
  refine ⟨w', hrun, ⟨h.p0, h.p1, h.p2, h.n1, h.n2, h.n3, (hg.block g (h.dom g h.p0) (fun e => h.n1 (by injection e))).trans h.row, hst, ?_, fun x hx => Nat.lt_of_lt_of_le (h.dom x hx) hg.size⟩, Grew.of_gro hg h.p1⟩
  exact (h.hl.kept (hg.block h2 (h.dom h2 h.p2) (fun e => h.n3 (by injection e with e; exact e.symm))) (kept_gro hg (fun hx => hx.2.2.1 rfl)) hg.size).mono (by omega)
/-- A new row of what is held. -/
theorem BookE.putHl (h : BookE w P g h1 h2 k b) (hk : k < 1000000) {z : Int} (hz : In64 z) (l : List Hl) {A : Option Addr} {n c : Nat} (hn : l.length = n) (g1 : n ≤ c) (g2 : c ≤ 9223372036854775807) (he : ElsQ encL w (fun x => P x ∧ x ≠ g ∧ x ≠ h1 ∧ x ≠ h2) A l) :
    ∃ w', (Instr.mapUpdate 60 (.map (some h2)) (.int .i64 z) (.slice A n c)).run Try.prog w = .ok () w' ∧ BookE w' P g h1 h2 (k + 1) ⟨b.own, b.st, updF b.hl z l⟩ ∧ Grew w w' P := by
  obtain ⟨w', hrun, hhl, hg⟩ := h.hl.put (fun hx => hx.2.2.2 rfl) hz l hn g1 g2 he hk
  exact ⟨w', hrun, ⟨h.p0, h.p1, h.p2, h.n1, h.n2, h.n3, (hg.block g (h.dom g h.p0) (fun e => h.n2 (by injection e))).trans h.row, (h.st.at' (hg.block h1 (h.dom h1 h.p1) (fun e => h.n3 (by injection e)))).mono (by omega), hhl, fun x hx => Nat.lt_of_lt_of_le (h.dom x hx) hg.size⟩, Grew.of_gro hg h.p2⟩
end
theorem below_drew (w : World) : Below w.heap.size w w.drew := (Below.refl w.heap.size w).drew
set_option maxHeartbeats 4000000 in
theorem hear_any {w : World} {P : Nat → Prop} {g k : Nat} {b : LB} (h : BookP w P g k b) (hk : k < 1000000) (d a : Int) :
    Calls Try.prog 20 #[.pointer (some ⟨g, 0, none⟩), .int .i64 d, .int .i64 a] w fun e w' => e = .returned (.int .i64 (b.hear d a).1) ∧ BookP w' P g (k + 1) (b.hear d a).2 ∧ Grew w w' P := by
  obtain ⟨h1, h2, hb⟩ := h.e
  have HM := hid (mayHear_any hb.c0 d a)
  have HBO := hid hb
  cases hm : mayH b.own d a
  · rw [hm] at HM
    have HE : Hid (b.hear d a = (1, b)) := hid (by unfold LB.hear; rw [if_neg (by rw [hm]; simp)])
    clear h hb hm
    go_enter Try.func20, Try.ntmps20
    go_wp2_with fail
    refine HM.out.mono ?_
    rintro er w2 ⟨rfl, hw⟩
    have hw2 : w = w2 := hw
    subst hw2
    go_wp2_with fail
    go_ret
    exact ⟨by rw [HE.out]; rfl, by rw [HE.out]; exact HBO.out.p.mono (by omega), Grew.refl _ _⟩
  · rw [hm] at HM
    have hz := in64_dom ((mayH_iff _ _ _).1 hm).1
    have HE : Hid (b.hear d a = (0, ⟨b.own, updF b.st d (some (max ((b.st d).getD 0) a)), b.hl⟩)) := hid (by unfold LB.hear; rw [if_pos hm])
    have hbd := hb.below (below_drew w)
    have c1 := hbd.c1
    have hlk := hbd.st.look hz
    have hmx : max ((b.st d).getD 0) a = if (b.st d).getD 0 < a then a else (b.st d).getD 0 := by split <;> omega
    rw [hmx] at HE
    obtain ⟨w3, hrun, hb3, hg3⟩ := hbd.putSt hk hz (if (b.st d).getD 0 < a then a else (b.st d).getD 0)
    obtain ⟨s, hs⟩ : ∃ s, (b.st d).getD 0 = s := ⟨_, rfl⟩
    rw [hs] at hlk hrun hb3 HE
    have HB3 := hid hb3
    have HG3 := hid ((Grew.of_below (X := P) (below_drew w)).trans hg3)
    clear h hb hm hbd hb3 hg3 hs hmx
    go_enter Try.func20, Try.ntmps20
    go_wp2_with fail
    refine HM.out.mono ?_
    rintro er w2 ⟨rfl, hw⟩
    have hw2 : w = w2 := hw
    subst hw2
    clear hw
    go_wp2_with fail
    go_region_law fail
    all_goals
      go_wp2_with fail
      all_goals
        go_ret
        exact ⟨by rw [HE.out]; rfl, by rw [HE.out]; exact HB3.out.p, HG3.out⟩
end Go.Proofs.Ytkimhdcngagmaaa.Sh
