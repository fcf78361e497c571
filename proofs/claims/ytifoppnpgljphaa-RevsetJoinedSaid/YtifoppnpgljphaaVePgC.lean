/-
  The program's own vectors: Bare, With, Join, Covers, slices.Equal at numbers, May. Written by mk_vepgc.py.
-/
import Derived.Test.YtifoppnpgljphaaVePgB
namespace Go.Proofs.Ytifoppnpgljphaa.Sh
open Go Go.RowKit

set_option linter.unusedSimpArgs false
set_option linter.unusedVariables false
theorem equalN_any (A B : Option Addr) (xs ys : List Int) (n m c d : Nat) (hn : xs.length = n) (hm : ys.length = m) (hs : n ≤ 1099511627776) (hs2 : m ≤ 1099511627776) (w : World) (h : Els encN w w.heap.size A xs) (h' : Els encN w w.heap.size B ys) :
    Calls Try.prog 46 #[.slice A n c, .slice B m d] w fun e w' => e = .returned (.bool (decide (xs = ys))) ∧ ∃ k, w' = w.drewN k := by
  have HN := hid hn
  have HM := hid hm
  have HX := hid (fun W (hW : Below w.heap.size w W) => h.below hW)
  have HY := hid (fun W (hW : Below w.heap.size w W) => h'.below hW)
  by_cases hlen : n = m
  · subst hlen
    clear h h' hn hm
    go_enter Try.func46, Try.ntmps46
    go_wp2_with fail
    go_loopw [13] (fun i wr => ∃ k : Nat, k ≤ n ∧ i = .int .i64 k ∧ Hid (xs.take k = ys.take k) ∧ Hid (∃ q, wr = w.drewN q)) (fun i _ => n - (intOf i).toNat)
    case atStart => exact ⟨0, Nat.zero_le _, rfl, hid rfl, hid ⟨0, rfl⟩⟩
    case round =>
      obtain ⟨k, hk, rfl, hpre, hw⟩ := hrel
      have hwr : Below w.heap.size w wr := by obtain ⟨q, rfl⟩ := hw.out; exact below_drewN (Below.refl _ _) q
      have hk0 : (0 : Int) ≤ (k : Int) := Int.natCast_nonneg _
      by_cases hlt : k < n
      · obtain ⟨x, hx⟩ : ∃ x, xs[k]? = some x := ⟨_, List.getElem?_eq_getElem (by rw [HN.out]; exact hlt)⟩
        obtain ⟨y, hy⟩ : ∃ y, ys[k]? = some y := ⟨_, List.getElem?_eq_getElem (by rw [HM.out]; exact hlt)⟩
        obtain ⟨ad, rfl, hab, ha⟩ := (HX.out _ hwr).num hx
        obtain ⟨bd, rfl, hbb, hb⟩ := (HY.out _ hwr).num hy
        have HXX := hid hx
        have HYY := hid hy
        have hk1 : (k : Int) < (n : Int) := by omega
        clear hx hy hab hbb hwr
        by_cases he : x = y
        · subst he
          have HT : Hid (xs.take (k + 1) = ys.take (k + 1)) := hid (by rw [take_snoc_of HXX.out, take_snoc_of HYY.out, hpre.out])
          go_wp2_with fail
          go_quiet (fail)
          go_wp2_with fail
          go_roundw
          case rel => exact ⟨k + 1, by omega, by go_num, HT, by obtain ⟨q, rfl⟩ := hw.out; exact hid ⟨_, World.drewN_drewN _ _ _⟩⟩
          case measure => simp [intOf]; omega
        · have h1 : (x == y) = false := beq_eq_false_iff_ne.2 he
          have h2 : (x != y) = true := by simp [he]
          have HE : Hid (decide (xs = ys) = false) := hid (by
            rw [decide_eq_false_iff_not]
            rintro rfl
            have h3 := HXX.out
            rw [HYY.out] at h3
            injection h3 with h3
            exact he h3.symm)
          go_wp2_with fail
          go_quiet (fail)
          go_wp2_with fail
          go_ret
          exact ⟨by rw [HE.out]; rfl, by obtain ⟨q, rfl⟩ := hw.out; exact ⟨_, World.drewN_drewN _ _ _⟩⟩
      · obtain rfl : k = n := by omega
        have HE : Hid (decide (xs = ys) = true) := hid (by
          have := hpre.out
          rw [List.take_of_length_le (by rw [HN.out]; omega), List.take_of_length_le (by rw [HM.out]; omega)] at this
          simpa using this)
        go_wp2_with fail
        go_ret
        exact ⟨by rw [HE.out]; rfl, hw.out⟩
  · have HE : Hid (decide (xs = ys) = false) := hid (by
      rw [decide_eq_false_iff_not]
      rintro rfl
      exact hlen (by rw [← HN.out, ← HM.out]))
    have h1 : ¬ (n : Int) = (m : Int) := by omega
    have h2 : ((n : Int) == (m : Int)) = false := beq_eq_false_iff_ne.2 h1
    clear h h' hn hm
    go_enter Try.func46, Try.ntmps46
    go_wp2_with fail
    go_ret
    exact ⟨by rw [HE.out]; rfl, 0, rfl⟩

theorem box_cell (w W : World) (v : Value) (t : TypeId) (h : Below (w.heap.size + 1) (w.alloc (.cells #[v] t)) W) : W.cell? ⟨w.heap.size, 0, none⟩ = some v := by
  rw [h.cell (by simp)]
  rw [cell_of_row _ _ 0 _ _ (0, 0) (heap_alloc_new w _)]
  rfl
set_option maxHeartbeats 2000000 in
theorem bare_any (A : Option Addr) (l : List Int) (n c : Nat) (hn : l.length = n) (hm : n ≤ 9223372036854775807) (w : World) (h : Els encN w w.heap.size A l) :
    Calls Try.prog 40 #[.slice A n c] w fun e w' => ∃ (A' : Option Addr) (c' : Nat), e = .returned (.slice A' (bareV l).length c') ∧ Frs w' w.heap.size A' (bareV l).length (bareV l) ∧ Below w.heap.size w w' := by
  obtain ⟨w1, hw1⟩ : ∃ x, x = w.alloc (.cells #[.slice A n c] 30) := ⟨_, rfl⟩
  have hs1 : w1.heap.size = w.heap.size + 1 := by rw [hw1]; simp
  have HB1 : Hid (Below w.heap.size w w1) := hid (by rw [hw1]; exact (Below.refl _ _).alloc (Nat.le_refl _) _)
  have HS := hid (statingB_any w.heap.size (vat l) w1 (fun j hj W hW => bareF_any w.heap.size A l n c hn hm j hj W (box_cell w W _ _ (by rw [← hw1, ← hs1]; exact hW)) ((h.below (HB1.out.trans (hW.mono (by omega)))).more (by have := hW.size; omega))))
  have hmf : ∀ (fn : Fn) (first cap : Array Value) (w : World), (Instr.makeFunc fn first cap).run Try.prog w = .ok (.func fn first cap) w := fun _ _ _ _ => rfl
  have HSZ := hid hs1
  have HW1 := hid hw1
  clear h hn hs1 hw1
  go_enter Try.func40, Try.ntmps40
  go_wp2_with fail
  rw [← HW1.out]
  refine HS.out.mono ?_
  rintro er w2 ⟨A2, c2, rfl, ho, hb⟩
  have HO := hid ho
  have HB2 := hid (HB1.out.trans (hb.mono (by have := HSZ.out; omega)))
  clear ho hb
  go_wp2_with fail
  go_ret
  exact ⟨A2, c2, rfl, ⟨HO.out.len, HO.out.row, fun ad e => by have := HO.out.lies ad e; have := HSZ.out; omega⟩, HB2.out⟩
end Go.Proofs.Ytifoppnpgljphaa.Sh
