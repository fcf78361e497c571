/-
  The document's own vectors, by contract: Get, bare, Bare, Same, May, With, Join, Covers.
-/
import Derived.Test.YtifoppnpgljphaaVeMath
import Derived.Test.YtifoppnpgljphaaBaEnc
namespace Go.Proofs.Ytifoppnpgljphaa.Sh
open Go Go.RowKit

set_option linter.unusedSimpArgs false
set_option linter.unusedVariables false
def encN : Enc Int := ⟨1, fun n => [.int .i64 n], by omega, fun _ => rfl, fun x u hu => by simp at hu; rcases hu with rfl; rfl⟩
theorem slN : SlN Try.prog 30 3 1 8 := by
  obtain ⟨i0, hi0, hz0, hz1, hz2⟩ := info_parts (P := Try.prog) (e := 3) (z := .int .i64 0) (size := 1) (bytes := 8) (by kernel_rfl)
  exact ⟨Try.underlying30, ⟨i0, _, hi0, hz0, hz1, hz2, rfl⟩, by omega⟩
theorem Els.num {w : World} {B : Nat} {A : Option Addr} {l : List Int} {j : Nat} {n : Int} (h : Els encN w B A l) (hj : l[j]? = some n) : ∃ ad, A = some ad ∧ ad.block < B ∧ w.cell? (ad.add j) = some (.int .i64 n) := by
  obtain ⟨ad, aj, e, hb, ea, _, h0, _⟩ := h.get hj
  refine ⟨ad, e, hb, ?_⟩
  have := h0 _ rfl
  rw [← ea, show encN.k = 1 from rfl, Nat.mul_one] at this
  exact this
theorem refGet_any (A : Option Addr) (l : List Int) (n c : Nat) (hn : l.length = n) (hm : n ≤ 9223372036854775807) (d : Int) (hd : -9223372036854775808 ≤ d) (w : World) (h : Els encN w w.heap.size A l) :
    Calls Try.prog 23 #[.slice A n c, .int .i64 d] w fun e w' => e = .returned (.int .i64 (vget l d)) ∧ w = w' := by
  have HN := hid hn
  by_cases h1 : d < 1
  · have HE : Hid (vget l d = 0) := hid (vget_far l (.inl h1))
    clear h hn
    go_enter Try.func23, Try.ntmps23
    go_wp2
    go_ret
    exact ⟨ret_int HE.out.symm, rfl⟩
  by_cases h2 : 16 < d
  · have HE : Hid (vget l d = 0) := hid (vget_far l (.inr h2))
    clear h hn
    go_enter Try.func23, Try.ntmps23
    go_wp2
    go_ret
    exact ⟨ret_int HE.out.symm, rfl⟩
  obtain ⟨k, hk⟩ : ∃ k : Nat, d = (k : Int) + 1 := ⟨(d - 1).toNat, by omega⟩
  subst hk
  have hk16 : k < 16 := by omega
  have HV : Hid (vget l ((k : Int) + 1) = vat l k) := hid (vget_at l hk16)
  by_cases h3 : (n : Int) < (k : Int) + 1
  · have HE : Hid (vget l ((k : Int) + 1) = 0) := hid (by rw [HV.out]; exact vat_far (by rw [HN.out]; omega))
    clear h hn
    go_enter Try.func23, Try.ntmps23
    go_wp2
    go_ret
    exact ⟨ret_int HE.out.symm, rfl⟩
  obtain ⟨x, hx⟩ : ∃ x, l[k]? = some x := ⟨_, List.getElem?_eq_getElem (by omega)⟩
  obtain ⟨ad, rfl, hb, ha⟩ := h.num hx
  have HC : Hid (vget l ((k : Int) + 1) = clv x) := hid (by rw [HV.out]; unfold vat; rw [hx])
  have hk0 : (0 : Int) ≤ (k : Int) := Int.natCast_nonneg _
  have hkn : (k : Int) < (n : Int) := by omega
  have e1 : (k : Int) + 1 - 1 = (k : Int) := by omega
  clear hx hb h hn
  by_cases c0 : x < 0
  · have HE : Hid (clv x = 0) := hid (if_pos c0)
    go_enter Try.func23, Try.ntmps23
    go_wp2
    go_ret
    exact ⟨ret_int (by rw [HC.out, HE.out]), rfl⟩
  · by_cases c1 : 1099511627776 < x
    · have HE : Hid (clv x = 1099511627776) := hid (by unfold clv; rw [if_neg c0, if_pos c1])
      go_enter Try.func23, Try.ntmps23
      go_wp2
      go_ret
      exact ⟨ret_int (by rw [HC.out, HE.out]), rfl⟩
    · have HE : Hid (clv x = x) := hid (by unfold clv; rw [if_neg c0, if_neg c1])
      go_enter Try.func23, Try.ntmps23
      go_wp2
      go_ret
      exact ⟨ret_int (by rw [HC.out, HE.out]), rfl⟩
set_option maxHeartbeats 1000000 in
theorem refbare_any (A : Option Addr) (l : List Int) (n c : Nat) (hn : l.length = n) (hc : n ≤ c) (hm : c ≤ 9223372036854775807) (w : World) (h : Els encN w w.heap.size A l) :
    Calls Try.prog 39 #[.slice A n c] w fun e w' => ∃ k : Nat, e = .returned (.slice A k c) ∧ k ≤ n ∧ l.take k = trim l ∧ w = w' := by
  have HN := hid hn
  have HA := hid h
  clear hn h
  go_enter Try.func39, Try.ntmps39
  go_wp2_with fail
  go_loopw [3] (fun v wr => ∃ j : Nat, v = .int .i64 (j : Int) ∧ j ≤ n ∧ Hid (∀ i, j ≤ i → i < l.length → l[i]? = some 0) ∧ w = wr) (fun v _ => (intOf v).toNat)
  case atStart => exact ⟨n, rfl, Nat.le_refl _, hid (fun i h1 h2 => by have := HN.out; omega), rfl⟩
  case round =>
    obtain ⟨j, rfl, hj, HZ, rfl⟩ := hrel
    have hj0 : (0 : Int) ≤ (j : Int) := Int.natCast_nonneg _
    rcases Nat.eq_zero_or_pos j with rfl | hp
    · have HT : Hid (l.take 0 = trim l) := hid ((trim_take l 0 (Nat.zero_le _) HZ.out (fun i hi => by omega)).symm)
      go_wp2_with fail
      go_ret
      exact ⟨0, rfl, Nat.zero_le _, HT.out, rfl⟩
    · obtain ⟨k, rfl⟩ : ∃ k, j = k + 1 := ⟨j - 1, by omega⟩
      obtain ⟨x, hx⟩ : ∃ x, l[k]? = some x := ⟨_, List.getElem?_eq_getElem (by have := HN.out; omega)⟩
      obtain ⟨ad, rfl, hb, ha⟩ := HA.out.num hx
      have e1 : (((k + 1 : Nat) : Int)) - 1 = (k : Int) := by omega
      have hk1 : (k : Int) < (n : Int) := by omega
      have hk0 : (0 : Int) ≤ (k : Int) := Int.natCast_nonneg _
      have hp1 : (0 : Int) < ((k + 1 : Nat) : Int) := by omega
      have HX := hid hx
      clear hx hb
      by_cases h0 : x = 0
      · subst h0
        go_wp2_with fail
        go_roundw
        case rel => exact ⟨k, by go_num, by omega, hid (fun i h1 h2 => by
          rcases Nat.eq_or_lt_of_le h1 with e | e
          · rw [← e]; exact HX.out
          · exact HZ.out i e h2), by first | rfl | trivial⟩
        case measure => simp [intOf]
      · have h1 : (x == 0) = false := beq_eq_false_iff_ne.2 h0
        have HT : Hid (l.take (k + 1) = trim l) := hid ((trim_take l (k + 1) (by have := HN.out; omega) HZ.out (fun i hi => by
          obtain rfl : i = k := by omega
          rw [HX.out]; simpa using h0)).symm)
        go_wp2_with fail
        go_ret
        exact ⟨k + 1, rfl, by omega, HT.out, rfl⟩
/-- The first numbers of a function. -/
def upto (f : Nat → Int) (j : Nat) : List Int := (List.range j).map f
theorem upto_len (f : Nat → Int) (j : Nat) : (upto f j).length = j := by simp [upto]
theorem upto_succ (f : Nat → Int) (j : Nat) : upto f (j + 1) = upto f j ++ [f j] := by unfold upto; rw [List.range_succ, List.map_append]; rfl
theorem trim_own {w : World} {B : Nat} {A : Option Addr} {n c : Nat} {l : List Int} (h : Own (E := encN) w B 3 (.slice A n c) l) {k : Nat} (hk : k ≤ n) (ht : l.take k = trim l) (hl : l.length = n) : Own (E := encN) w B 3 (.slice A (trim l).length c) (trim l) := by
  have h1 : Own (E := encN) w B 3 (.slice A l.length c) l := by rw [hl]; exact h
  have h2 := h1.short (n := k) (by omega)
  have e : (trim l).length = k := by rw [← ht, List.length_take]; omega
  rw [e, ← ht]; exact h2
set_option maxHeartbeats 2000000 in
theorem refBare_any (A : Option Addr) (l : List Int) (n c : Nat) (hn : l.length = n) (hm : n ≤ 9223372036854775807) (w : World) (h : Els encN w w.heap.size A l) :
    Calls Try.prog 42 #[.slice A n c] w fun e w' => ∃ (A' : Option Addr) (c' : Nat), e = .returned (.slice A' (bareV l).length c') ∧ Own (E := encN) w' w.heap.size 3 (.slice A' (bareV l).length c') (bareV l) ∧ Below w.heap.size w w' := by
  have HG := hid (fun (j : Nat) (hj : j < 16) W (hW : Below w.heap.size w W) => (refGet_any A l n c hn hm ((j : Int) + 1) (by omega) W ((h.below hW).more hW.size)).mono (R' := fun e w' => e = .returned (.int .i64 (vat l j)) ∧ W = w') fun e w' ⟨g1, g2⟩ => ⟨by rw [g1, vget_at l hj], g2⟩)
  clear h hn
  go_enter Try.func42, Try.ntmps42
  go_wp2_with fail
  go_loopw [3, 4] (fun v i wr => ∃ (A1 : Option Addr) (c1 j : Nat), v = .slice A1 j c1 ∧ i = .int .i64 ((j : Int) + 1) ∧ j ≤ 16 ∧ Hid (Own (E := encN) wr w.heap.size 3 (.slice A1 j c1) (upto (vat l) j)) ∧ Hid (Below w.heap.size w wr)) (fun _ i _ => 17 - (intOf i).toNat)
  case atStart => exact ⟨none, 0, 0, rfl, rfl, Nat.zero_le _, hid (Own.nil _ _ _), hid (Below.refl _ _)⟩
  case round =>
    obtain ⟨wj, hwj⟩ : ∃ x, x = wr := ⟨_, rfl⟩
    subst hwj
    obtain ⟨A1, c1, j, rfl, rfl, hj, HO, HB⟩ := hrel
    have hj0 : (0 : Int) ≤ (j : Int) := Int.natCast_nonneg _
    by_cases hlt : j < 16
    · have hj1 : (j : Int) + 1 ≤ 16 := by omega
      have HGJ := hid (HG.out j hlt wj HB.out)
      obtain ⟨x, hx⟩ : ∃ x, vat l j = x := ⟨_, rfl⟩
      have HNX : Hid (upto (vat l) (j + 1) = upto (vat l) j ++ [x]) := hid (by rw [upto_succ, hx])
      rw [hx] at HGJ
      have hfl : (upto (vat l) j).length ≤ 1000000000000 := by rw [upto_len]; omega
      have HUL : Hid ((upto (vat l) j).length = j) := hid (upto_len _ _)
      clear hx
      have HOA7 := hid ((HO.out).alloc (.cells #[.int .i64 x] 3))
      have HRD7 := hid (reads_new wj #[.int .i64 x] 3 (0, 0))
      have HBA7 := hid ((HB.out).alloc (HB.out).size (.cells #[.int .i64 x] 3))
      have hbs7 : w.heap.size ≤ (wj.alloc (.cells #[.int .i64 x] 3)).heap.size := HBA7.out.size
      go_wp2_with fail
      refine HGJ.out.mono ?_
      rintro er w1 ⟨rfl, rfl⟩
      go_wp2_with (first | (at_builtin; refine wpList_app1 (E := encN) rfl slN (.tmp 9) (.tmp 13) rfl (B := w.heap.size) (v := .slice A1 j c1) (l := upto (vat l) j) HOA7.out rfl (ad := ⟨wj.heap.size, 0, none⟩) (c := 1) x rfl HRD7.out hfl (by omega) hbs7 ?_; intro A9 c9 w9 ho9 hg9 he9; have HO9 := hid ho9; have HB9 := hid (HBA7.out.grown hg9 hbs7 (fun g e => (World.ownsRow.lt HOA7.out g e).1)); clear ho9 hg9 he9) | go_in)
      rw [HUL.out] at HO9 ⊢
      go_roundw
      case rel => exact ⟨A9, c9, j + 1, rfl, by go_num, by omega, hid (by rw [HNX.out]; exact HO9.out), HB9⟩
      case measure => simp [intOf]; omega
    · obtain rfl : j = 16 := by omega
      obtain ⟨A1', c1', e1, hcc, hcm, -⟩ := HO.out.els
      simp only [upto_len, Value.slice.injEq] at e1 hcc
      obtain ⟨rfl, -, rfl⟩ := e1
      have HBA := hid (refbare_any A1 (upto (vat l) 16) 16 c1 (upto_len _ _) hcc hcm wj (own_els HO.out))
      go_wp2_with fail
      refine HBA.out.mono ?_
      rintro er w1 ⟨k, rfl, hk, ht, rfl⟩
      have HOT := hid (trim_own HO.out hk ht (upto_len _ _))
      have HKE : Hid ((trim (upto (vat l) 16)).length = k) := hid (by rw [← ht, List.length_take, upto_len]; omega)
      clear ht
      go_wp2_with fail
      go_ret
      exact ⟨A1, c1, by rw [show bareV l = trim (upto (vat l) 16) from rfl, HKE.out]; rfl, HOT.out, HB.out⟩
end Go.Proofs.Ytifoppnpgljphaa.Sh
