/-
  The document's book: Hear, by contract.
-/
import Derived.Test.YtkimhdcngagmaaaJa9
import Derived.Test.YtkimhdcngagmaaaJa8
set_option linter.unusedVariables false
set_option linter.unusedSimpArgs false
namespace Go.Proofs.Ytkimhdcngagmaaa.Sh
open Go Go.RowKit

set_option linter.unusedSimpArgs false
set_option linter.unusedVariables false
theorem mayH_no {o d a : Int} (h : d = o ∨ d < 1 ∨ 16 < d ∨ a < 0 ∨ 1099511627776 < a) : mayH o d a = false := by
  unfold mayH
  exact decide_eq_false (by omega)
theorem RB.hear_no {r : RB} {d a : Int} (h : mayH r.own d a = false) : r.hear d a = (1, r) := by unfold RB.hear; rw [if_neg (by rw [h]; simp)]
def restS (d : Int) (l : List (Int × Int)) : List (Int × Int) := l.filter fun x => !decide (x.1 = d)
set_option maxHeartbeats 8000000 in
theorem refHear_any {w : World} {P : Nat → Prop} {g : Nat} {r : RB} (h : BookR w P g r) (hm : r.S.length ≤ 1000000) (d a : Int) :
    Calls Try.prog 23 #[.pointer (some ⟨g, 0, none⟩), .int .i64 d, .int .i64 a] w fun e w' => e = .returned (.int .i64 (r.hear d a).1) ∧ BookR w' (plusP P w.heap.size w'.heap.size) g (r.hear d a).2 ∧ Grew w w' (fun x => x = g) := by
  have HBO := hid h
  have HST := hid (fun W (hW : Below w.heap.size w W) => stamp_any (h.below hW) hm d)
  obtain ⟨o, L, S⟩ := r
  obtain ⟨⟨LA, SA, lc, sc, p0, hr, a1, a2, a3, b1, b2, b3⟩, hd⟩ := h
  have hgl := hd g p0
  simp only at hm hr b1 b3 HST
  obtain ⟨n, hn⟩ : ∃ n, S.length = n := ⟨_, rfl⟩
  obtain ⟨m, hm'⟩ : ∃ n, L.length = n := ⟨_, rfl⟩
  rw [hn] at hm b1 hr
  rw [hm'] at hr
  have HR := hid (fun W (hW : Below w.heap.size w W) => (hW.block g hgl).trans hr)
  have c0 : w.cell? ⟨g, 0, none⟩ = some (.int .i64 o) := by rw [cell_of_row w g 0 _ _ (0, 0) hr]; rfl
  have HN := hid hn
  have HY := hid (fun W (hW : Below w.heap.size w W) => (b3.els.below hW).more hW.size)
  have HEND : Hid ((1, (⟨o, L, S⟩ : RB)) = RB.hear ⟨o, L, S⟩ d a → BookR w (plusP P w.heap.size w.heap.size) g (RB.hear ⟨o, L, S⟩ d a).2 ∧ Grew w w (fun x => x = g)) := hid (fun e => by rw [← e]; exact ⟨HBO.out.plus, Grew.refl _ _⟩)
  clear hr a1 a2 a3 b3 hn hm' p0 hd
  by_cases h1 : d = o
  · subst h1
    have HE := hid (RB.hear_no (r := ⟨d, L, S⟩) (d := d) (a := a) (mayH_no (.inl rfl)))
    go_enter Try.func23, Try.ntmps23
    go_wp2_with fail
    go_ret
    exact ⟨by rw [HE.out]; rfl, HEND.out HE.out.symm⟩
  have h1' : (d == o) = false := beq_eq_false_iff_ne.2 h1
  by_cases h2 : d < 1
  · have HE := hid (RB.hear_no (r := ⟨o, L, S⟩) (d := d) (a := a) (mayH_no (.inr (.inl h2))))
    go_enter Try.func23, Try.ntmps23
    go_wp2_with fail
    go_ret
    exact ⟨by rw [HE.out]; rfl, HEND.out HE.out.symm⟩
  by_cases h3 : 16 < d
  · have HE := hid (RB.hear_no (r := ⟨o, L, S⟩) (d := d) (a := a) (mayH_no (.inr (.inr (.inl h3)))))
    go_enter Try.func23, Try.ntmps23
    go_wp2_with fail
    go_ret
    exact ⟨by rw [HE.out]; rfl, HEND.out HE.out.symm⟩
  by_cases h4 : a < 0
  · have HE := hid (RB.hear_no (r := ⟨o, L, S⟩) (d := d) (a := a) (mayH_no (.inr (.inr (.inr (.inl h4))))))
    go_enter Try.func23, Try.ntmps23
    go_wp2_with fail
    go_ret
    exact ⟨by rw [HE.out]; rfl, HEND.out HE.out.symm⟩
  by_cases h5 : 1099511627776 < a
  · have HE := hid (RB.hear_no (r := ⟨o, L, S⟩) (d := d) (a := a) (mayH_no (.inr (.inr (.inr (.inr h5))))))
    go_enter Try.func23, Try.ntmps23
    go_wp2_with fail
    go_ret
    exact ⟨by rw [HE.out]; rfl, HEND.out HE.out.symm⟩
  clear HEND
  have hmay : mayH o d a = true := (mayH_iff _ _ _).2 ⟨⟨by omega, by omega⟩, h1, by omega, by omega⟩
  have HS0 := hid (HST.out w (Below.refl _ _))
  obtain ⟨s, hs⟩ : ∃ s, stampR S d = s := ⟨_, rfl⟩
  rw [hs] at HS0
  by_cases hle : a ≤ s
  · have HE : Hid (RB.hear ⟨o, L, S⟩ d a = (0, ⟨o, L, S⟩)) := hid (by unfold RB.hear; rw [if_pos hmay]; simp only; rw [hs, if_pos hle])
    clear hmay hs
    go_enter Try.func23, Try.ntmps23
    go_wp2_with fail
    refine HS0.out.mono ?_
    rintro er w2 ⟨rfl, hw⟩
    have hw2 : w = w2 := hw
    subst hw2
    go_wp2_with fail
    go_ret
    exact ⟨by rw [HE.out]; rfl, by rw [HE.out]; exact HBO.out.plus, Grew.refl _ _⟩
  · have HE : Hid (RB.hear ⟨o, L, S⟩ d a = (0, ⟨o, L, putS S d a⟩)) := hid (by unfold RB.hear; rw [if_pos hmay]; simp only; rw [hs, if_neg hle])
    have HB0 := hid (Below.refl w.heap.size w)
    clear hmay hs
    go_enter Try.func23, Try.ntmps23
    go_wp2_with fail
    refine HS0.out.mono ?_
    rintro er w2 ⟨rfl, hw⟩
    have hw2 : w = w2 := hw
    subst hw2
    clear hw HS0
    go_wp2_with fail
    clear c0
    go_loopw [8, 9] (fun v i wr => ∃ (A : Option Addr) (m c k : Nat), v = .slice A m c ∧ i = .int .i64 (k : Int) ∧ k ≤ n ∧ m ≤ k ∧ Hid ((restS d (S.take k)).length = m) ∧ Hid (Own (E := encI) wr w.heap.size 73 (.slice A m c) (restS d (S.take k))) ∧ Hid (Below w.heap.size w wr)) (fun _ i _ => n - (intOf i).toNat)
    case atStart => exact ⟨none, 0, 0, 0, rfl, rfl, Nat.zero_le _, Nat.le_refl _, hid (by simp [restS]), hid (Own.nil _ _ _), HB0⟩
    case round =>
      obtain ⟨wj, hwj⟩ : ∃ x, x = wr := ⟨_, rfl⟩
      subst hwj
      obtain ⟨A, m', c, k, rfl, rfl, hk, hmk, HL, HO, HB⟩ := hrel
      have hk0 : (0 : Int) ≤ (k : Int) := Int.natCast_nonneg _
      have hrw := HR.out wj HB.out
      have c2 : wj.cell? ⟨g, 2, none⟩ = some (.slice SA n sc) := by rw [cell_of_row wj g 2 _ _ (0, 0) hrw]; rfl
      by_cases hlt : k < n
      · obtain ⟨x, hx⟩ : ∃ x, S[k]? = some x := ⟨_, List.getElem?_eq_getElem (by rw [HN.out]; exact hlt)⟩
        obtain ⟨ad, aj, hA, -, ea, -, a0, a1⟩ := (HY.out wj HB.out).get hx
        subst hA
        have ea : ad.add (k * 2) = aj := ea
        have d0 := a0 _ rfl
        have d1 := a1 1 _ (by omega) rfl
        have HX := hid (take_snoc_of hx)
        obtain ⟨xd, xa⟩ := x
        simp only at d0 d1 HX
        have hk1 : (k : Int) < (n : Int) := by omega
        clear hx a0 a1 hrw
        by_cases he : xd = d
        · subst he
          have HNX : Hid (restS xd (S.take (k + 1)) = restS xd (S.take k)) := hid (by rw [HX.out]; unfold restS; rw [List.filter_append]; simp)
          go_wp2_with fail
          go_roundw
          case rel => exact ⟨A, m', c, k + 1, rfl, by go_num, by omega, by omega, hid (by rw [HNX.out]; exact HL.out), hid (by rw [HNX.out]; exact HO.out), HB⟩
          case measure => simp [intOf]; omega
        · have h6 : (xd == d) = false := beq_eq_false_iff_ne.2 he
          have HNX : Hid (restS d (S.take (k + 1)) = restS d (S.take k) ++ [(xd, xa)]) := hid (by rw [HX.out]; unfold restS; rw [List.filter_append]; simp [he])
          have HOA := hid (HO.out.alloc (.cells #[.int .i64 xd, .int .i64 xa] 73))
          have HRD := hid (reads_new wj #[.int .i64 xd, .int .i64 xa] 73 (0, 0))
          have HBA := hid (HB.out.alloc HB.out.size (.cells #[.int .i64 xd, .int .i64 xa] 73))
          have hbs : w.heap.size ≤ (wj.alloc (.cells #[.int .i64 xd, .int .i64 xa] 73)).heap.size := HBA.out.size
          have hfl : (restS d (S.take k)).length ≤ 1000000000000 := by rw [HL.out]; omega
          go_wp2_with (first | (at_builtin; refine wpList_app1 (E := encI) rfl slS (.tmp 57) (.tmp 65) rfl (B := w.heap.size) (v := .slice A m' c) (l := restS d (S.take k)) HOA.out rfl (ad := ⟨wj.heap.size, 0, none⟩) (c := 1) (xd, xa) rfl HRD.out hfl (by omega) hbs ?_; intro A9 c9 w9 ho9 hg9 he9; have HO9 := hid ho9; have HB9 := hid (HBA.out.grown hg9 hbs (fun g e => (World.ownsRow.lt HOA.out g e).1)); clear ho9 hg9 he9) | go_in)
          rw [HL.out] at HO9 ⊢
          go_roundw
          case rel => exact ⟨A9, m' + 1, c9, k + 1, rfl, by go_num, by omega, by omega, hid (by rw [HNX.out, List.length_append, HL.out]; rfl), hid (by rw [HNX.out]; exact HO9.out), HB9⟩
          case measure => simp [intOf]; omega
      · obtain rfl : k = n := by omega
        have HT : Hid (restS d (S.take k) = restS d S) := hid (by rw [List.take_of_length_le (by rw [HN.out]; exact Nat.le_refl _)])
        rw [HT.out] at HO HL
        have HOA := hid (HO.out.alloc (.cells #[.int .i64 d, .int .i64 a] 73))
        have HRD := hid (reads_new wj #[.int .i64 d, .int .i64 a] 73 (0, 0))
        have HBA := hid (HB.out.alloc HB.out.size (.cells #[.int .i64 d, .int .i64 a] 73))
        have hbs : w.heap.size ≤ (wj.alloc (.cells #[.int .i64 d, .int .i64 a] 73)).heap.size := HBA.out.size
        have hfl : (restS d S).length ≤ 1000000000000 := by rw [HL.out]; omega
        clear hrw
        go_wp2_with (first | (at_builtin; refine wpList_app1 (E := encI) rfl slS (.tmp 68) (.tmp 72) rfl (B := w.heap.size) (v := .slice A m' c) (l := restS d S) HOA.out rfl (ad := ⟨wj.heap.size, 0, none⟩) (c := 1) (d, a) rfl HRD.out hfl (by omega) hbs ?_; intro A9 c9 w9 ho9 hg9 he9; have HO9 := hid ho9; have HB9 := hid (HBA.out.grown hg9 hbs (fun g e => (World.ownsRow.lt HOA.out g e).1)); have hr9 := HR.out w9 HB9.out; have f9 := frozen_of_row w9 g 2 _ _ hr9; have c9' : w9.cell? ⟨g, 2, none⟩ = some (.slice SA k sc) := (by rw [cell_of_row _ _ 2 _ _ (0, 0) hr9]; rfl); clear ho9 hg9 he9 hr9) | go_in)
        go_wp2_with fail
        go_ret
        have hfin := HBO.out.putS HB9.out HO9.out (by rw [List.length_append]; rfl)
        rw [HE.out]
        refine ⟨rfl, ?_, hfin.2⟩
        rw [size_setCell']
        exact hfin.1
end Go.Proofs.Ytkimhdcngagmaaa.Sh
/-
  The document's own Same of credentials, at equal lists; Before over IDs in IdAt.
-/
namespace Go.Proofs.Ytkimhdcngagmaaa.Sh
open Go Go.RowKit

end Go.Proofs.Ytkimhdcngagmaaa.Sh
/-
  IDs in blocks of their own; their order; the document's own Before.
-/
namespace Go.Proofs.Ytkimhdcngagmaaa.Sh
open Go Go.RowKit

/-- An ID in a block of its own. -/
def IdAt (w : World) (g : Nat) (d q : Int) : Prop := w.heap[g]? = some (.cells #[.int .i64 d, .int .i64 q] 49 (0, 0))
theorem IdAt.new (w : World) (d q : Int) : IdAt (w.alloc (.cells #[.int .i64 d, .int .i64 q] 49)) w.heap.size d q := heap_alloc_new w _
theorem IdAt.c0 {w : World} {g : Nat} {d q : Int} (h : IdAt w g d q) : w.cell? ⟨g, 0, none⟩ = some (.int .i64 d) := by rw [cell_of_row w g 0 _ _ (0, 0) h]; rfl
theorem IdAt.c1 {w : World} {g : Nat} {d q : Int} (h : IdAt w g d q) : w.cell? ⟨g, 1, none⟩ = some (.int .i64 q) := by rw [cell_of_row w g 1 _ _ (0, 0) h]; rfl
theorem IdAt.lt {w : World} {g : Nat} {d q : Int} (h : IdAt w g d q) : g < w.heap.size := (Array.getElem?_eq_some_iff.1 h).1
theorem IdAt.kept {w w' : World} {g : Nat} {d q : Int} (h : IdAt w g d q) (hb : Below w.heap.size w w') : IdAt w' g d q := (hb.block g h.lt).trans h
theorem below_id (w : World) (d q : Int) : Below w.heap.size w (w.alloc (.cells #[.int .i64 d, .int .i64 q] 49)) := (Below.refl _ _).alloc (Nat.le_refl _) _
theorem below_id2 (w : World) (d q d' q' : Int) : Below w.heap.size w ((w.alloc (.cells #[.int .i64 d, .int .i64 q] 49)).alloc (.cells #[.int .i64 d', .int .i64 q'] 49)) :=
  (below_id w d q).trans ((below_id _ d' q').mono (by rw [World.size_alloc]; exact Nat.le_succ _))
/-- The order of IDs. -/
def beforeI (d q d' q' : Int) : Bool := decide (d < d' ∨ (d = d' ∧ q < q'))
theorem beforeI_trans {d q d' q' d'' q'' : Int} (h1 : beforeI d q d' q' = true) (h2 : beforeI d' q' d'' q'' = true) : beforeI d q d'' q'' = true := by
  unfold beforeI at *
  simp only [decide_eq_true_eq] at *
  omega
theorem refBefore_any (d q d' q' : Int) (w : World) : Calls Try.prog 51 #[.agg #[.int .i64 d, .int .i64 q], .agg #[.int .i64 d', .int .i64 q']] w fun er w' => er = .returned (.bool (beforeI d q d' q')) ∧ Below w.heap.size w w' := by
  by_cases h : d = d'
  · subst h
    have hb : (d == d) = true := by simp
    by_cases hq : q < q'
    · have HE : Hid (beforeI d q d q' = true) := hid (by unfold beforeI; simp; omega)
      go_enter Try.func51, Try.ntmps51
      go_wp2
      go_ret
      exact ⟨by rw [HE.out]; rfl, below_id2 _ _ _ _ _⟩
    · have HE : Hid (beforeI d q d q' = false) := hid (by unfold beforeI; simp; omega)
      go_enter Try.func51, Try.ntmps51
      go_wp2
      go_ret
      exact ⟨by rw [HE.out]; rfl, below_id2 _ _ _ _ _⟩
  · have hb : (d == d') = false := beq_eq_false_iff_ne.2 h
    by_cases hq : d < d'
    · have HE : Hid (beforeI d q d' q' = true) := hid (by unfold beforeI; simp; omega)
      go_enter Try.func51, Try.ntmps51
      go_wp2
      go_ret
      exact ⟨by rw [HE.out]; rfl, below_id2 _ _ _ _ _⟩
    · have HE : Hid (beforeI d q d' q' = false) := hid (by unfold beforeI; simp; omega)
      go_enter Try.func51, Try.ntmps51
      go_wp2
      go_ret
      exact ⟨by rw [HE.out]; rfl, below_id2 _ _ _ _ _⟩

end Go.Proofs.Ytkimhdcngagmaaa.Sh
