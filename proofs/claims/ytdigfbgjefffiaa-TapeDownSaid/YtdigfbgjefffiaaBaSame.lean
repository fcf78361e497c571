/-
  Same of the document's own answers, by contract.
-/
import Derived.Test.YtdigfbgjefffiaaBaApp
namespace Go.Proofs.Ytdigfbgjefffiaa.Sh
open Go Go.RowKit
/-- Same: a loop that only reads. -/
theorem take_eq_succ {xs ys : List UInt8} {k : Nat} {x y : UInt8} (hx : xs[k]? = some x) (hy : ys[k]? = some y) (h : xs.take k = ys.take k) (e : x = y) : xs.take (k + 1) = ys.take (k + 1) := by
  rw [take_succ_of hx, take_succ_of hy, h, e]
theorem ne_of_get {xs ys : List UInt8} {k : Nat} {x y : UInt8} (hx : xs[k]? = some x) (hy : ys[k]? = some y) (e : x.toNat ≠ y.toNat) : decide (xs = ys) = false := by
  rw [decide_eq_false_iff_not]
  rintro rfl
  rw [hx] at hy
  injection hy with hy
  exact e (by rw [hy])

set_option maxHeartbeats 1000000 in
theorem same_any (A B : Option Addr) (xs ys : List UInt8) (c d : Nat) (hm : xs.length ≤ 1099511627776) (hm2 : ys.length ≤ 1099511627776) (w : World) (h : Byt w w.heap.size A xs) (h' : Byt w w.heap.size B ys) :
    Calls Try.prog 21 #[.slice A xs.length c, .slice B ys.length d] w fun e w' => e = .returned (.bool (decide (xs = ys))) ∧ ∃ k, w' = w.drewN k := by
  by_cases hlen : xs.length = ys.length
  · obtain ⟨n, hn⟩ : ∃ n, xs.length = n := ⟨_, rfl⟩
    have hn' : ys.length = n := by omega
    rw [hn, hn']
    have HN := hid hn
    have HN' := hid hn'
    have hmn : n ≤ 1099511627776 := by omega
    clear hlen hn hn' hm hm2
    go_enter Try.func21, Try.ntmps21
    go_wp2
    go_loopw [5] (fun i wr => ∃ k : Nat, k ≤ n ∧ i = .int .i64 k ∧ Hid (xs.take k = ys.take k) ∧ Hid (∃ q, wr = w.drewN q)) (fun i _ => n - (intOf i).toNat)
    case atStart => exact ⟨0, Nat.zero_le _, rfl, hid rfl, hid ⟨0, rfl⟩⟩
    case round =>
      obtain ⟨k, hk, rfl, hpre, hw⟩ := hrel
      have hwr : Below w.heap.size w wr := by obtain ⟨q, rfl⟩ := hw.out; exact below_drewN (Below.refl _ _) q
      by_cases hlt : k < n
      · obtain ⟨ad, x, rfl, had, hx, hcell⟩ := (h.below hwr).get (k := k) (by rw [HN.out]; exact hlt)
        obtain ⟨bd, y, rfl, hbd, hy, hcell'⟩ := (h'.below hwr).get (k := k) (by rw [HN'.out]; exact hlt)
        have hx8 := lt8 x
        have hy8 := lt8 y
        have HX := hid hx
        have HY := hid hy
        have hk0 : (0 : Int) ≤ (k : Int) := Int.natCast_nonneg _
        have hk1 : (k : Int) < (n : Int) := by omega
        clear hx hy h h' hwr
        go_wp2_with fail
        go_quiet (fail)
        go_wp2
        · have hne : ((x.toNat : Int) != (y.toNat : Int)) = true := by assumption
          have he : decide (xs = ys) = false := ne_of_get HX.out HY.out (by rw [bne_iff_ne] at hne; omega)
          have HE := hid he
          have HW : Hid (∃ q, wr.drewN nq = w.drewN q) := by
            obtain ⟨q, rfl⟩ := hw.out
            exact ⟨q + nq, World.drewN_drewN _ _ _⟩
          clear he hne
          go_ret
          exact ⟨by rw [HE.out]; rfl, HW.out⟩
        · have heq : ((x.toNat : Int) != (y.toNat : Int)) = false := by assumption
          have HT : Hid (xs.take (k + 1) = ys.take (k + 1)) := take_eq_succ HX.out HY.out hpre.out (UInt8.toNat_inj.1 (by simp at heq; omega))
          have HW : Hid (∃ q, wr.drewN nq = w.drewN q) := by
            obtain ⟨q, rfl⟩ := hw.out
            exact ⟨q + nq, World.drewN_drewN _ _ _⟩
          clear heq
          go_roundw
          case rel => exact ⟨k + 1, by omega, by go_num, HT, HW⟩
          case measure => simp [intOf]; omega
      · obtain rfl : k = n := by omega
        have he : decide (xs = ys) = true := by
          have := hpre.out
          rw [List.take_of_length_le (by rw [HN.out]; omega), List.take_of_length_le (by rw [HN'.out]; omega)] at this
          simpa using this
        have HE := hid he
        clear he
        go_wp2
        go_ret
        exact ⟨by rw [HE.out]; rfl, hw.out⟩
  · have he : decide (xs = ys) = false := by
      rw [decide_eq_false_iff_not]
      rintro rfl
      exact hlen rfl
    have HE := hid he
    clear he
    have hne : ((xs.length : Int) != (ys.length : Int)) = true := by rw [bne_iff_ne]; omega
    have hne2 : ((xs.length : Int) == (ys.length : Int)) = false := by rw [beq_eq_false_iff_ne]; omega
    go_enter Try.func21, Try.ntmps21
    go_wp2
    go_ret
    exact ⟨by rw [HE.out]; rfl, 0, rfl⟩
theorem same_eq (A B : Option Addr) (l : List UInt8) (n c d : Nat) (hn : l.length = n) (hm : n ≤ 1099511627776) (w : World) (h : Byt w w.heap.size A l) (h' : Byt w w.heap.size B l) :
    Calls Try.prog 21 #[.slice A n c, .slice B n d] w fun e w' => e = .returned (.bool true) ∧ ∃ k, w' = w.drewN k := by
  subst hn
  refine (same_any A B l l c d hm hm w h h').mono fun e w' ⟨he, hw⟩ => ⟨?_, hw⟩
  rw [he]
  simp
end Go.Proofs.Ytdigfbgjefffiaa.Sh
