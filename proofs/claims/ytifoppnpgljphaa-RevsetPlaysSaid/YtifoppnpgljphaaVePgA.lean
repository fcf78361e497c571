/-
  The program's own numbers of a vector: counted, Get, Covers, and the three closures that tell a domain's number.
-/
import Derived.Test.YtifoppnpgljphaaVeRef2
namespace Go.Proofs.Ytifoppnpgljphaa.Sh
open Go Go.RowKit

set_option linter.unusedSimpArgs false
set_option linter.unusedVariables false
theorem counted_any (n : Int) (w : World) :
    Calls Try.prog 44 #[.int .i64 n] w fun e w' => e = .returned (.int .i64 (clv n)) ∧ w = w' := by
  by_cases c0 : n < 0
  · have HE : Hid (clv n = 0) := hid (if_pos c0)
    go_enter Try.func44, Try.ntmps44
    go_wp2
    go_ret
    exact ⟨ret_int HE.out.symm, rfl⟩
  · by_cases c1 : 1099511627776 < n
    · have HE : Hid (clv n = 1099511627776) := hid (by unfold clv; rw [if_neg c0, if_pos c1])
      go_enter Try.func44, Try.ntmps44
      go_wp2
      go_ret
      exact ⟨ret_int HE.out.symm, rfl⟩
    · have HE : Hid (clv n = n) := hid (by unfold clv; rw [if_neg c0, if_neg c1])
      go_enter Try.func44, Try.ntmps44
      go_wp2
      go_ret
      exact ⟨ret_int HE.out.symm, rfl⟩
theorem getE_any (A : Option Addr) (l : List Int) (n c : Nat) (hn : l.length = n) (hm : n ≤ 9223372036854775807) (d : Int) (hd : -9223372036854775808 ≤ d) (w : World) (h : Els encN w w.heap.size A l) :
    Calls Try.prog 35 #[.slice A n c, .int .i64 d] w fun e w' => e = .returned (.int .i64 (vget l d)) ∧ w = w' := by
  have HN := hid hn
  by_cases h1 : d < 1
  · have HE : Hid (vget l d = 0) := hid (vget_far l (.inl h1))
    clear h hn
    go_enter Try.func35, Try.ntmps35
    go_wp2_with fail
    go_ret
    exact ⟨ret_int HE.out.symm, rfl⟩
  by_cases h2 : 16 < d
  · have HE : Hid (vget l d = 0) := hid (vget_far l (.inr h2))
    clear h hn
    go_enter Try.func35, Try.ntmps35
    go_wp2_with fail
    all_goals go_ret
    all_goals exact ⟨ret_int HE.out.symm, rfl⟩
  obtain ⟨k, hk⟩ : ∃ k : Nat, d = (k : Int) + 1 := ⟨(d - 1).toNat, by omega⟩
  subst hk
  have hk16 : k < 16 := by omega
  have HV : Hid (vget l ((k : Int) + 1) = vat l k) := hid (vget_at l hk16)
  by_cases h3 : (n : Int) < (k : Int) + 1
  · have HE : Hid (vget l ((k : Int) + 1) = 0) := hid (by rw [HV.out]; exact vat_far (by rw [HN.out]; omega))
    clear h hn
    go_enter Try.func35, Try.ntmps35
    go_wp2_with fail
    all_goals go_ret
    all_goals exact ⟨ret_int HE.out.symm, rfl⟩
  obtain ⟨x, hx⟩ : ∃ x, l[k]? = some x := ⟨_, List.getElem?_eq_getElem (by omega)⟩
  obtain ⟨ad, rfl, hb, ha⟩ := h.num hx
  have HC : Hid (vget l ((k : Int) + 1) = clv x) := hid (by rw [HV.out]; unfold vat; rw [hx])
  have hk0 : (0 : Int) ≤ (k : Int) := Int.natCast_nonneg _
  have hkn : (k : Int) < (n : Int) := by omega
  have e1 : (k : Int) + 1 - 1 = (k : Int) := by omega
  have HCT := hid (counted_any x)
  clear hx hb h hn
  go_enter Try.func35, Try.ntmps35
  go_wp2_with fail
  all_goals (refine (HCT.out _).mono ?_; rintro er w2 ⟨rfl, rfl⟩; go_wp2_with fail; go_ret; exact ⟨ret_int HC.out.symm, rfl⟩)
theorem get_any (A : Option Addr) (l : List Int) (n c : Nat) (hn : l.length = n) (hm : n ≤ 9223372036854775807) (d : Int) (hd : -9223372036854775808 ≤ d) (w : World) (h : Els encN w w.heap.size A l) :
    Calls Try.prog 35 #[.slice A n c, .int .i64 d] w fun e w' => e = .returned (.int .i64 (vget l d)) ∧ Below w.heap.size w w' :=
  (getE_any A l n c hn hm d hd w h).mono fun _ _ ⟨a, b⟩ => ⟨a, by subst b; exact Below.refl _ _⟩
theorem getJ_any (A : Option Addr) (l : List Int) (n c : Nat) (hn : l.length = n) (hm : n ≤ 9223372036854775807) (j : Nat) (hj : j < 16) (w : World) (h : Els encN w w.heap.size A l) :
    Calls Try.prog 35 #[.slice A n c, .int .i64 ((j : Int) + 1)] w fun e w' => e = .returned (.int .i64 (vat l j)) ∧ w = w' :=
  (getE_any A l n c hn hm _ (by omega) w h).mono fun _ _ ⟨a, b⟩ => ⟨by rw [a, vget_at l hj], b⟩
end Go.Proofs.Ytifoppnpgljphaa.Sh
