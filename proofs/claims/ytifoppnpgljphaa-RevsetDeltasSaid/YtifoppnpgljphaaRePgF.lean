/-
  The program's own longer: a row, with a list merged that begins at k, by contract.
-/
import Derived.Test.YtifoppnpgljphaaRePgE
namespace Go.Proofs.Ytifoppnpgljphaa.Sh
open Go Go.RowKit

set_option linter.unusedSimpArgs false
set_option linter.unusedVariables false
/-- What longer tells: the row itself, or a new one. -/
structure LongerAt (w w' : World) (x y : Hd) (row l : List Int) : Prop where
  len : l.length = y.n
  is : y = x ∧ l = row ∨ Own (E := encN) w' w.heap.size 3 y.val l
theorem takes_iff {row l : List Int} {K : Nat} (hK : K ≤ row.length) (hl : K + l.length ≤ 32) : Takes row K l ↔ row.length < (row.take K ++ l).length ∧ (row.take K ++ l).take row.length = row ∧ DiffL (row.take K ++ l) := by
  have hcl : (row.take K ++ l).length = K + l.length := by rw [List.length_append, List.length_take]; omega
  constructor
  · rintro ⟨_, h2, h3, h4⟩
    rw [List.prefix_iff_eq_take] at h3
    exact ⟨h4, h3.symm, h2.rng, h2.nod⟩
  · rintro ⟨h1, h2, h3⟩
    exact ⟨hK, ⟨by omega, h3.1, h3.2⟩, by rw [List.prefix_iff_eq_take]; exact h2.symm, h1⟩
theorem lls_two (w : World) (x y : Hd) (l m : List Int) (hl : l.length = x.n) (hx : x.n ≤ x.c) (hx2 : x.c ≤ 9223372036854775807) (hm : m.length = y.n) (hy : y.n ≤ y.c) (hy2 : y.c ≤ 9223372036854775807) (e1 : Els encN w w.heap.size x.A l) (e2 : Els encN w w.heap.size y.A m) :
    Lls (w.alloc (.cells #[x.val, y.val] 30)) (w.alloc (.cells #[x.val, y.val] 30)).heap.size (some ⟨w.heap.size, 0, none⟩) [l, m] := by
  have hb : Below w.heap.size w (w.alloc (.cells #[x.val, y.val] 30)) := (Below.refl _ _).alloc (Nat.le_refl _) _
  have hh := heap_alloc_new w (.cells #[x.val, y.val] 30)
  refine ⟨[x, y], rfl, fun _ => ⟨_, rfl, by simp, fun i u hu => ?_⟩, fun i z k hz hk => ?_⟩
  · rw [addr_rowN, cell_of_row _ _ i _ _ (0, 0) hh]
    rw [ev_hd] at hu
    simpa using hu
  · match i, hz, hk with
    | 0, hz, hk =>
      simp at hz hk; subst hz; subst hk
      exact ⟨hl, hx, hx2, (e1.below hb).more hb.size⟩
    | 1, hz, hk =>
      simp at hz hk; subst hz; subst hk
      exact ⟨hm, hy, hy2, (e2.below hb).more hb.size⟩
open Classical in
set_option maxHeartbeats 8000000 in
theorem longer_any (A : Option Addr) (row : List Int) (n c : Nat) (hn : row.length = n) (hok : OkR row) (hnc : n ≤ c) (hcm : c ≤ 9223372036854775807) (K : Nat) (hK : K ≤ 1099511627776) (AL : Option Addr) (l : List Int) (m cl : Nat) (hl : l.length = m) (hm : m ≤ 1099511627776) (hlc : m ≤ cl) (hlm : cl ≤ 9223372036854775807) (h64 : ∀ z ∈ l, In64 z)
    (w : World) (he : Els encN w w.heap.size A row) (hel : Els encN w w.heap.size AL l) :
    Calls Try.prog 37 #[.slice A n c, .int .i64 (K : Int), .slice AL m cl] w fun e w' => ∃ (A' : Option Addr) (n' c' : Nat), e = .returned (.slice A' n' c') ∧ LongerAt w w' ⟨A, n, c⟩ ⟨A', n', c'⟩ row (mrow row K l) ∧ Below w.heap.size w w' := by
  have hn32 : n ≤ 32 := by have := hok.len; omega
  have hK0 : (0 : Int) ≤ (K : Int) := Int.natCast_nonneg _
  have hm0 : (0 : Int) ≤ (m : Int) := Int.natCast_nonneg _
  by_cases hkn : n < K
  · have hk1 : (n : Int) < (K : Int) := by omega
    have HZ : Hid (mrow row K l = row) := hid (mrow_no (fun h => by have := h.1; omega))
    have HN := hid hn
    clear he hel hn hok h64 hl
    go_enter Try.func37, Try.ntmps37
    go_wp2_with fail
    go_ret
    exact ⟨A, n, c, rfl, ⟨by rw [HZ.out]; exact HN.out, .inl ⟨rfl, HZ.out⟩⟩, Below.refl _ _⟩
  have hk1 : ¬ (n : Int) < (K : Int) := by omega
  have hk32 : K ≤ 32 := by omega
  by_cases h32 : 32 < K + m
  · have h33 : (32 : Int) < (K : Int) + (m : Int) := by omega
    have HZ : Hid (mrow row K l = row) := hid (mrow_no (fun h => by have h1 := h.2.1.len; rw [List.length_append, List.length_take] at h1; omega))
    have HN := hid hn
    clear he hel hn hok h64 hl
    go_enter Try.func37, Try.ntmps37
    go_wp2_with fail
    go_ret
    exact ⟨A, n, c, rfl, ⟨by rw [HZ.out]; exact HN.out, .inl ⟨rfl, HZ.out⟩⟩, Below.refl _ _⟩
  have h33 : ¬ (32 : Int) < (K : Int) + (m : Int) := by omega
  have hKc : (K : Int) ≤ (c : Int) := by omega
  have hcl : (row.take K ++ l).length = K + m := by rw [List.length_append, List.length_take]; omega
  have HIF := hid (takes_iff (row := row) (l := l) (K := K) (by omega) (by omega))
  obtain ⟨w1, hw1⟩ : ∃ y, y = w.alloc (.cells #[.slice A K c, .slice AL m cl] 30) := ⟨_, rfl⟩
  have HB1 : Hid (Below w.heap.size w w1) := hid (by rw [hw1]; exact (Below.refl w.heap.size w).alloc (Nat.le_refl _) _)
  have HLS : Hid (Lls w1 w1.heap.size (some ⟨w.heap.size, 0, none⟩) [row.take K, l]) := hid (by rw [hw1]; exact lls_two w ⟨A, K, c⟩ ⟨AL, m, cl⟩ (row.take K) l (by rw [List.length_take]; show min K row.length = K; omega) (by show K ≤ c; omega) hcm hl hlc hlm he.head hel)
  have hflat : [row.take K, l].flatten = row.take K ++ l := by simp
  have HCC := hid (concatN_any (some ⟨w.heap.size, 0, none⟩) [row.take K, l] 2 2 rfl (by omega) (by rw [← sumI_flat, hflat, hcl]; omega) w1 HLS.out)
  rw [hflat, hcl] at HCC
  have H64 : Hid (∀ z ∈ row.take K ++ l, In64 z) := hid (fun z hz => by
    rcases List.mem_append.1 hz with h | h
    · have := hok.rng z (List.mem_of_mem_take h); unfold In64; omega
    · exact h64 z h)
  obtain ⟨cand, hcand⟩ : ∃ y, row.take K ++ l = y := ⟨_, rfl⟩
  rw [hcand] at HIF HCC H64 hcl
  have HYES : Hid (Takes row K l → mrow row K l = cand) := hid (fun h => by rw [mrow_yes h, hcand])
  have HNO : Hid (¬ Takes row K l → mrow row K l = row) := hid mrow_no
  have HN := hid hn
  have HCL := hid hcl
  have HE := hid (fun W (hW : Below w.heap.size w W) => (he.below hW).more hW.size)
  have HW1 := hid hw1
  have hKm : (K : Int) + (m : Int) = ((K + m : Nat) : Int) := by omega
  obtain ⟨M, hM⟩ : ∃ M, K + m = M := ⟨_, rfl⟩
  rw [hM] at HCC HCL h32 hKm
  clear he hel hn hok h64 hl hcand hcl hflat hw1 HLS hM
  have hM32 : M ≤ 32 := by omega
  by_cases hle : M ≤ n
  · have hle1 : (M : Int) ≤ (n : Int) := by omega
    have HZ : Hid (mrow row K l = row) := hid (HNO.out (fun h => by have := (HIF.out.1 h).1; have := HCL.out; have := HN.out; omega))
    go_enter Try.func37, Try.ntmps37
    go_upto_region 3 with fail
    go_wp2_with fail
    rw [← HW1.out]
    refine HCC.out.mono ?_
    rintro er w2 ⟨A2, c2, rfl, o2, b2⟩
    have HB2 := hid (HB1.out.trans (b2.mono HB1.out.size))
    clear o2 b2
    go_wp2_with fail
    go_ret
    exact ⟨A, n, c, rfl, ⟨by rw [HZ.out]; exact HN.out, .inl ⟨rfl, HZ.out⟩⟩, HB2.out⟩
  · have hle1 : ¬ (M : Int) ≤ (n : Int) := by omega
    have hnM : (n : Int) ≤ (M : Int) := by omega
    have HEQ : Hid (∀ (A2 : Option Addr) (c2 : Nat) (w2 : World), Below w.heap.size w w2 → Own (E := encN) w2 w1.heap.size 3 (.slice A2 M c2) cand → (M : Int) ≤ (c2 : Int) ∧ (n : Int) ≤ (c2 : Int) ∧ (c2 : Int) ≤ 9223372036854775807 ∧ Calls Try.prog 46 #[.slice A2 n c2, .slice A n c] w2 (fun e w' => e = .returned (.bool (decide (cand.take n = row))) ∧ Below w2.heap.size w2 w') ∧
        (∀ W, Below w2.heap.size w2 W → Calls Try.prog 47 #[.slice A2 M c2] W fun e w' => e = .returned (.bool (decide (DiffL cand))) ∧ Below W.heap.size W w')) := hid (fun A2 c2 w2 hb o2 => by
      obtain ⟨q1, q2, _⟩ := o2.asFrs HCL.out
      refine ⟨by omega, by omega, by omega, (equalN_any A2 A (cand.take n) row n n c2 c (by rw [List.length_take, HCL.out]; omega) HN.out (by omega) (by omega) w2 (own_els o2).head (HE.out w2 hb)).mono fun e w' ⟨h1, k, h2⟩ => ⟨h1, by rw [h2]; exact below_drewN (Below.refl _ _) k⟩, fun W hW => different_any A2 cand M c2 HCL.out hM32 H64.out W (own_els (o2.below hW))⟩)
    by_cases heq : cand.take n = row
    · by_cases hdf : DiffL cand
      · have HZ : Hid (mrow row K l = cand) := hid (HYES.out (HIF.out.2 ⟨by rw [HN.out, HCL.out]; omega, by rw [HN.out]; exact heq, hdf⟩))
        simp only [decide_eq_true heq, decide_eq_true hdf] at HEQ
        clear heq hdf
        go_enter Try.func37, Try.ntmps37
        go_upto_region 3 with fail
        go_wp2_with fail
        rw [← HW1.out]
        refine HCC.out.mono ?_
        rintro er w2 ⟨A2, c2, rfl, o2, b2⟩
        have HB2 := hid (HB1.out.trans (b2.mono HB1.out.size))
        obtain ⟨q1, q2, q3, ce, cd⟩ := HEQ.out A2 c2 w2 HB2.out o2
        have HCE := hid ce
        have HCD := hid cd
        have HO2 := hid (o2.lower HB1.out.size)
        clear o2 b2 ce cd
        go_wp2_with fail
        refine HCE.out.mono ?_
        rintro er w3 ⟨rfl, b3⟩
        have HB3 := hid b3
        clear b3
        go_wp2_with fail
        refine (HCD.out w3 HB3.out).mono ?_
        rintro er w4 ⟨rfl, b4⟩
        have HB4 := hid (HB3.out.trans (b4.mono HB3.out.size))
        clear b4
        go_wp2_with fail
        go_ret
        exact ⟨A2, M, c2, rfl, ⟨by rw [HZ.out]; exact HCL.out, .inr (by rw [HZ.out]; exact HO2.out.below HB4.out)⟩, HB2.out.trans (HB4.out.mono HB2.out.size)⟩
      · have HZ : Hid (mrow row K l = row) := hid (HNO.out (fun h => hdf (HIF.out.1 h).2.2))
        simp only [decide_eq_true heq, decide_eq_false hdf] at HEQ
        clear heq hdf
        go_enter Try.func37, Try.ntmps37
        go_upto_region 3 with fail
        go_wp2_with fail
        rw [← HW1.out]
        refine HCC.out.mono ?_
        rintro er w2 ⟨A2, c2, rfl, o2, b2⟩
        have HB2 := hid (HB1.out.trans (b2.mono HB1.out.size))
        obtain ⟨q1, q2, q3, ce, cd⟩ := HEQ.out A2 c2 w2 HB2.out o2
        have HCE := hid ce
        have HCD := hid cd
        clear o2 b2 ce cd
        go_wp2_with fail
        refine HCE.out.mono ?_
        rintro er w3 ⟨rfl, b3⟩
        have HB3 := hid b3
        clear b3
        go_wp2_with fail
        refine (HCD.out w3 HB3.out).mono ?_
        rintro er w4 ⟨rfl, b4⟩
        have HB4 := hid (HB3.out.trans (b4.mono HB3.out.size))
        clear b4
        go_wp2_with fail
        go_ret
        exact ⟨A, n, c, rfl, ⟨by rw [HZ.out]; exact HN.out, .inl ⟨rfl, HZ.out⟩⟩, HB2.out.trans (HB4.out.mono HB2.out.size)⟩
    · have HZ : Hid (mrow row K l = row) := hid (HNO.out (fun h => heq (by have := (HIF.out.1 h).2.1; rwa [HN.out] at this)))
      simp only [decide_eq_false heq] at HEQ
      clear heq
      go_enter Try.func37, Try.ntmps37
      go_upto_region 3 with fail
      go_wp2_with fail
      rw [← HW1.out]
      refine HCC.out.mono ?_
      rintro er w2 ⟨A2, c2, rfl, o2, b2⟩
      have HB2 := hid (HB1.out.trans (b2.mono HB1.out.size))
      obtain ⟨q1, q2, q3, ce, cd⟩ := HEQ.out A2 c2 w2 HB2.out o2
      have HCE := hid ce
      clear o2 b2 ce cd
      go_wp2_with fail
      refine HCE.out.mono ?_
      rintro er w3 ⟨rfl, b3⟩
      have HB3 := hid b3
      clear b3
      go_wp2_with fail
      go_ret
      exact ⟨A, n, c, rfl, ⟨by rw [HZ.out]; exact HN.out, .inl ⟨rfl, HZ.out⟩⟩, HB2.out.trans (HB3.out.mono HB2.out.size)⟩
end Go.Proofs.Ytifoppnpgljphaa.Sh
