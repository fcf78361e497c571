/-
  The document's own vectors, by contract: Same, May, With, Join, Covers.
-/
import Derived.Test.YtifoppnpgljphaaVeRef
namespace Go.Proofs.Ytifoppnpgljphaa.Sh
open Go Go.RowKit

set_option linter.unusedSimpArgs false
set_option linter.unusedVariables false
theorem els_newN (w : World) (z : Int) : Els encN (w.alloc (.cells #[.int .i64 z] 3)) (w.alloc (.cells #[.int .i64 z] 3)).heap.size (some ⟨w.heap.size, 0, none⟩) [z] := fun _ => by
  obtain ⟨ad, e, hc⟩ := reads_new w #[.int .i64 z] 3 (0, 0) (by simp)
  injection e with e
  subst e
  exact ⟨_, rfl, by rw [World.size_alloc]; exact Nat.lt_succ_self _, fun j x hx => hc j x (by simpa [ev, encN] using hx)⟩
set_option maxHeartbeats 2000000 in
theorem sameN_any (A B : Option Addr) (xs ys : List Int) (n m c d : Nat) (hn : xs.length = n) (hm : ys.length = m) (hs : n ≤ 1099511627776) (hs2 : m ≤ 1099511627776) (w : World) (h : Els encN w w.heap.size A xs) (h' : Els encN w w.heap.size B ys) :
    Calls Try.prog 27 #[.slice A n c, .slice B m d] w fun e w' => e = .returned (.bool (decide (xs = ys))) ∧ ∃ k, w' = w.drewN k := by
  have HN := hid hn
  have HM := hid hm
  have HX := hid (fun W (hW : Below w.heap.size w W) => h.below hW)
  have HY := hid (fun W (hW : Below w.heap.size w W) => h'.below hW)
  by_cases hlen : n = m
  · subst hlen
    clear h h' hn hm
    go_enter Try.func27, Try.ntmps27
    go_wp2_with fail
    go_loopw [5] (fun i wr => ∃ k : Nat, k ≤ n ∧ i = .int .i64 k ∧ Hid (xs.take k = ys.take k) ∧ Hid (∃ q, wr = w.drewN q)) (fun i _ => n - (intOf i).toNat)
    case atStart => exact ⟨0, Nat.zero_le _, rfl, hid rfl, hid ⟨0, rfl⟩⟩
    case round =>
      obtain ⟨k, hk, rfl, hpre, hw⟩ := hrel
      have hwr : Below w.heap.size w wr := by obtain ⟨q, rfl⟩ := hw.out; exact below_drewN (Below.refl _ _) q
      have hk0 : (0 : Int) ≤ (k : Int) := Int.natCast_nonneg _
      by_cases hlt : k < n
      · obtain ⟨x, hx⟩ : ∃ x, xs[k]? = some x := ⟨_, List.getElem?_eq_getElem (by rw [HN.out]; exact hlt)⟩
        obtain ⟨y, hy⟩ : ∃ y, ys[k]? = some y := ⟨_, List.getElem?_eq_getElem (by rw [HM.out]; exact hlt)⟩
        obtain ⟨ad, rfl, hab, ha⟩ := (HX.out _ hwr).num hx
        obtain ⟨bd, rfl, hbb, hb⟩ := (HY.out _ hwr).num hy
        have HXX := hid hx
        have HYY := hid hy
        have hk1 : (k : Int) < (n : Int) := by omega
        clear hx hy hab hbb hwr
        by_cases he : x = y
        · subst he
          have HT : Hid (xs.take (k + 1) = ys.take (k + 1)) := hid (by rw [take_snoc_of HXX.out, take_snoc_of HYY.out, hpre.out])
          go_wp2_with fail
          go_quiet (fail)
          go_wp2_with fail
          go_roundw
          case rel => exact ⟨k + 1, by omega, by go_num, HT, by obtain ⟨q, rfl⟩ := hw.out; exact hid ⟨_, World.drewN_drewN _ _ _⟩⟩
          case measure => simp [intOf]; omega
        · have h1 : (x == y) = false := beq_eq_false_iff_ne.2 he
          have h2 : (x != y) = true := by simp [he]
          have HE : Hid (decide (xs = ys) = false) := hid (by
            rw [decide_eq_false_iff_not]
            rintro rfl
            have h3 := HXX.out
            rw [HYY.out] at h3
            injection h3 with h3
            exact he h3.symm)
          go_wp2_with fail
          go_quiet (fail)
          go_wp2_with fail
          go_ret
          exact ⟨by rw [HE.out]; rfl, by obtain ⟨q, rfl⟩ := hw.out; exact ⟨_, World.drewN_drewN _ _ _⟩⟩
      · obtain rfl : k = n := by omega
        have HE : Hid (decide (xs = ys) = true) := hid (by
          have := hpre.out
          rw [List.take_of_length_le (by rw [HN.out]; omega), List.take_of_length_le (by rw [HM.out]; omega)] at this
          simpa using this)
        go_wp2_with fail
        go_ret
        exact ⟨by rw [HE.out]; rfl, hw.out⟩
  · have HE : Hid (decide (xs = ys) = false) := hid (by
      rw [decide_eq_false_iff_not]
      rintro rfl
      exact hlen (by rw [← HN.out, ← HM.out]))
    have h1 : ¬ (n : Int) = (m : Int) := by omega
    have h2 : ((n : Int) == (m : Int)) = false := beq_eq_false_iff_ne.2 h1
    clear h h' hn hm
    go_enter Try.func27, Try.ntmps27
    go_wp2_with fail
    go_ret
    exact ⟨by rw [HE.out]; rfl, 0, rfl⟩
open Classical in
set_option maxHeartbeats 4000000 in
theorem refJoin_any (A A' : Option Addr) (l l' : List Int) (n n' c c' : Nat) (hn : l.length = n) (hn' : l'.length = n') (hm : n ≤ 9223372036854775807) (hm' : n' ≤ 9223372036854775807) (w : World) (h : Els encN w w.heap.size A l) (h' : Els encN w w.heap.size A' l') :
    Calls Try.prog 24 #[.slice A n c, .slice A' n' c'] w fun e w' => ∃ (A2 : Option Addr) (c2 : Nat), e = .returned (.slice A2 (joinV l l').length c2) ∧ Own (E := encN) w' w.heap.size 3 (.slice A2 (joinV l l').length c2) (joinV l l') ∧ Below w.heap.size w w' := by
  have HG := hid (fun (j : Nat) (hj : j < 16) W (hW : Below w.heap.size w W) => (refGet_any A l n c hn hm ((j : Int) + 1) (by omega) W ((h.below hW).more hW.size)).mono (R' := fun e w' => e = .returned (.int .i64 (vat l j)) ∧ W = w') fun e w' ⟨g1, g2⟩ => ⟨by rw [g1, vget_at l hj], g2⟩)
  have HG' := hid (fun (j : Nat) (hj : j < 16) W (hW : Below w.heap.size w W) => (refGet_any A' l' n' c' hn' hm' ((j : Int) + 1) (by omega) W ((h'.below hW).more hW.size)).mono (R' := fun e w' => e = .returned (.int .i64 (vat l' j)) ∧ W = w') fun e w' ⟨g1, g2⟩ => ⟨by rw [g1, vget_at l' hj], g2⟩)
  obtain ⟨F, hF⟩ : ∃ F : Nat → Int, F = fun i => max (vat l i) (vat l' i) := ⟨_, rfl⟩
  have HFE : Hid (joinV l l' = trim (upto F 16)) := hid (by rw [hF]; rfl)
  have HF : Hid (∀ i, F i = max (vat l i) (vat l' i)) := hid (fun i => by rw [hF])
  clear h h' hn hn' hF
  go_enter Try.func24, Try.ntmps24
  go_wp2_with fail
  go_loopw [5, 6] (fun v i wr => ∃ (A1 : Option Addr) (c1 j : Nat), v = .slice A1 j c1 ∧ i = .int .i64 ((j : Int) + 1) ∧ j ≤ 16 ∧ Hid (Own (E := encN) wr w.heap.size 3 (.slice A1 j c1) (upto F j)) ∧ Hid (Below w.heap.size w wr)) (fun _ i _ => 17 - (intOf i).toNat)
  case atStart => exact ⟨none, 0, 0, rfl, rfl, Nat.zero_le _, hid (Own.nil _ _ _), hid (Below.refl _ _)⟩
  case round =>
    obtain ⟨wj, hwj⟩ : ∃ x, x = wr := ⟨_, rfl⟩
    subst hwj
    obtain ⟨A1, c1, j, rfl, rfl, hj, HO, HB⟩ := hrel
    have hj0 : (0 : Int) ≤ (j : Int) := Int.natCast_nonneg _
    by_cases hlt : j < 16
    · have hj1 : (j : Int) + 1 ≤ 16 := by omega
      have HX := hid (HG.out j hlt wj HB.out)
      have HY := hid (HG'.out j hlt wj HB.out)
      obtain ⟨x, hx⟩ : ∃ x, vat l j = x := ⟨_, rfl⟩
      obtain ⟨y, hy⟩ : ∃ x, vat l' j = x := ⟨_, rfl⟩
      rw [hx] at HX
      rw [hy] at HY
      have HFJ : Hid (F j = max x y) := hid (by rw [HF.out, hx, hy])
      have hfl : (upto F j).length ≤ 1000000000000 := by rw [upto_len]; omega
      have HUL : Hid ((upto F j).length = j) := hid (upto_len _ _)
      clear hx hy
      by_cases hgt : x < y
      · have HNX : Hid (upto F (j + 1) = upto F j ++ [y]) := hid (by rw [upto_succ, HFJ.out, Int.max_eq_right (by omega)])
        have HOA7 := hid ((HO.out).alloc (.cells #[.int .i64 y] 3))
        have HRD7 := hid (reads_new wj #[.int .i64 y] 3 (0, 0))
        have HBA7 := hid ((HB.out).alloc (HB.out).size (.cells #[.int .i64 y] 3))
        have hbs7 : w.heap.size ≤ (wj.alloc (.cells #[.int .i64 y] 3)).heap.size := HBA7.out.size
        go_wp2_with fail
        refine HX.out.mono ?_
        rintro er w1 ⟨rfl, rfl⟩
        go_wp2_with fail
        refine HY.out.mono ?_
        rintro er w1 ⟨rfl, rfl⟩
        go_wp2_with fail
        refine HY.out.mono ?_
        rintro er w1 ⟨rfl, rfl⟩
        go_wp2_with (first | (at_builtin; refine wpList_app1 (E := encN) rfl slN (.tmp 23) (.tmp 25) rfl (B := w.heap.size) (v := .slice A1 j c1) (l := upto F j) HOA7.out rfl (ad := ⟨wj.heap.size, 0, none⟩) (c := 1) y rfl HRD7.out hfl (by omega) hbs7 ?_; intro A9 c9 w9 ho9 hg9 he9; have HO9 := hid ho9; have HB9 := hid (HBA7.out.grown hg9 hbs7 (fun g e => (World.ownsRow.lt HOA7.out g e).1)); clear ho9 hg9 he9) | go_in)
        rw [HUL.out] at HO9 ⊢
        go_roundw
        case rel => exact ⟨A9, c9, j + 1, rfl, by go_num, by omega, hid (by rw [HNX.out]; exact HO9.out), HB9⟩
        case measure => simp [intOf]; omega
      · have HNX : Hid (upto F (j + 1) = upto F j ++ [x]) := hid (by rw [upto_succ, HFJ.out, Int.max_eq_left (by omega)])
        have HOA7 := hid ((HO.out).alloc (.cells #[.int .i64 x] 3))
        have HRD7 := hid (reads_new wj #[.int .i64 x] 3 (0, 0))
        have HBA7 := hid ((HB.out).alloc (HB.out).size (.cells #[.int .i64 x] 3))
        have hbs7 : w.heap.size ≤ (wj.alloc (.cells #[.int .i64 x] 3)).heap.size := HBA7.out.size
        go_wp2_with fail
        refine HX.out.mono ?_
        rintro er w1 ⟨rfl, rfl⟩
        go_wp2_with fail
        refine HY.out.mono ?_
        rintro er w1 ⟨rfl, rfl⟩
        go_wp2_with (first | (at_builtin; refine wpList_app1 (E := encN) rfl slN (.tmp 23) (.tmp 25) rfl (B := w.heap.size) (v := .slice A1 j c1) (l := upto F j) HOA7.out rfl (ad := ⟨wj.heap.size, 0, none⟩) (c := 1) x rfl HRD7.out hfl (by omega) hbs7 ?_; intro A9 c9 w9 ho9 hg9 he9; have HO9 := hid ho9; have HB9 := hid (HBA7.out.grown hg9 hbs7 (fun g e => (World.ownsRow.lt HOA7.out g e).1)); clear ho9 hg9 he9) | go_in)
        rw [HUL.out] at HO9 ⊢
        go_roundw
        case rel => exact ⟨A9, c9, j + 1, rfl, by go_num, by omega, hid (by rw [HNX.out]; exact HO9.out), HB9⟩
        case measure => simp [intOf]; omega
    · obtain rfl : j = 16 := by omega
      obtain ⟨A1', c1', e1, hcc, hcm, -⟩ := HO.out.els
      simp only [upto_len, Value.slice.injEq] at e1 hcc
      obtain ⟨rfl, -, rfl⟩ := e1
      have HBA := hid (refbare_any A1 (upto F 16) 16 c1 (upto_len _ _) hcc hcm wj (own_els HO.out))
      go_wp2_with fail
      refine HBA.out.mono ?_
      rintro er w1 ⟨k, rfl, hk, ht, rfl⟩
      have HOT := hid (trim_own HO.out hk ht (upto_len _ _))
      have HKE : Hid ((trim (upto F 16)).length = k) := hid (by rw [← ht, List.length_take, upto_len]; omega)
      clear ht
      go_wp2_with fail
      go_ret
      exact ⟨A1, c1, by rw [HFE.out, HKE.out]; rfl, by rw [HFE.out]; exact HOT.out, HB.out⟩
end Go.Proofs.Ytifoppnpgljphaa.Sh
