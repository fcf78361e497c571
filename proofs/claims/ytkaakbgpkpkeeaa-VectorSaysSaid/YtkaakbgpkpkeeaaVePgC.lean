/-
  The program's own vectors: Bare, With, Join, Covers, slices.Equal at numbers, May. Written by mk_vepgc.py.
-/
import Derived.Test.YtkaakbgpkpkeeaaVePgB
namespace Go.Proofs.Ytkaakbgpkpkeeaa.Sh
open Go Go.RowKit

set_option linter.unusedSimpArgs false
set_option linter.unusedVariables false
theorem equalN_any (A B : Option Addr) (xs ys : List Int) (n m c d : Nat) (hn : xs.length = n) (hm : ys.length = m) (hs : n ≤ 1099511627776) (hs2 : m ≤ 1099511627776) (w : World) (h : Els encN w w.heap.size A xs) (h' : Els encN w w.heap.size B ys) :
    Calls Try.prog 38 #[.slice A n c, .slice B m d] w fun e w' => e = .returned (.bool (decide (xs = ys))) ∧ ∃ k, w' = w.drewN k := by
  have HN := hid hn
  have HM := hid hm
  have HX := hid (fun W (hW : Below w.heap.size w W) => h.below hW)
  have HY := hid (fun W (hW : Below w.heap.size w W) => h'.below hW)
  by_cases hlen : n = m
  · subst hlen
    clear h h' hn hm
    go_enter Try.func38, Try.ntmps38
    go_wp2_with fail
    go_loopw [13] (fun i wr => ∃ k : Nat, k ≤ n ∧ i = .int .i64 k ∧ Hid (xs.take k = ys.take k) ∧ Hid (∃ q, wr = w.drewN q)) (fun i _ => n - (intOf i).toNat)
    case atStart => exact ⟨0, Nat.zero_le _, rfl, hid rfl, hid ⟨0, rfl⟩⟩
    case round =>
      obtain ⟨k, hk, rfl, hpre, hw⟩ := hrel
      have hwr : Below w.heap.size w wr := by obtain ⟨q, rfl⟩ := hw.out; exact below_drewN (Below.refl _ _) q
      have hk0 : (0 : Int) ≤ (k : Int) := Int.natCast_nonneg _
      by_cases hlt : k < n
      · obtain ⟨x, hx⟩ : ∃ x, xs[k]? = some x := ⟨_, List.getElem?_eq_getElem (by rw [HN.out]; exact hlt)⟩
        obtain ⟨y, hy⟩ : ∃ y, ys[k]? = some y := ⟨_, List.getElem?_eq_getElem (by rw [HM.out]; exact hlt)⟩
        obtain ⟨ad, rfl, hab, ha⟩ := (HX.out _ hwr).num hx
        obtain ⟨bd, rfl, hbb, hb⟩ := (HY.out _ hwr).num hy
        have HXX := hid hx
        have HYY := hid hy
        have hk1 : (k : Int) < (n : Int) := by omega
        clear hx hy hab hbb hwr
        by_cases he : x = y
        · subst he
          have HT : Hid (xs.take (k + 1) = ys.take (k + 1)) := hid (by rw [take_snoc_of HXX.out, take_snoc_of HYY.out, hpre.out])
          go_wp2_with fail
          go_quiet (fail)
          go_wp2_with fail
          go_roundw
          case rel => exact ⟨k + 1, by omega, by go_num, HT, by obtain ⟨q, rfl⟩ := hw.out; exact hid ⟨_, World.drewN_drewN _ _ _⟩⟩
          case measure => simp [intOf]; omega
        · have h1 : (x == y) = false := beq_eq_false_iff_ne.2 he
          have h2 : (x != y) = true := by simp [he]
          have HE : Hid (decide (xs = ys) = false) := hid (by
            rw [decide_eq_false_iff_not]
            rintro rfl
            have h3 := HXX.out
            rw [HYY.out] at h3
            injection h3 with h3
            exact he h3.symm)
          go_wp2_with fail
          go_quiet (fail)
          go_wp2_with fail
          go_ret
          exact ⟨by rw [HE.out]; rfl, by obtain ⟨q, rfl⟩ := hw.out; exact ⟨_, World.drewN_drewN _ _ _⟩⟩
      · obtain rfl : k = n := by omega
        have HE : Hid (decide (xs = ys) = true) := hid (by
          have := hpre.out
          rw [List.take_of_length_le (by rw [HN.out]; omega), List.take_of_length_le (by rw [HM.out]; omega)] at this
          simpa using this)
        go_wp2_with fail
        go_ret
        exact ⟨by rw [HE.out]; rfl, hw.out⟩
  · have HE : Hid (decide (xs = ys) = false) := hid (by
      rw [decide_eq_false_iff_not]
      rintro rfl
      exact hlen (by rw [← HN.out, ← HM.out]))
    have h1 : ¬ (n : Int) = (m : Int) := by omega
    have h2 : ((n : Int) == (m : Int)) = false := beq_eq_false_iff_ne.2 h1
    clear h h' hn hm
    go_enter Try.func38, Try.ntmps38
    go_wp2_with fail
    go_ret
    exact ⟨by rw [HE.out]; rfl, 0, rfl⟩

theorem box_cell (w W : World) (v : Value) (t : TypeId) (h : Below (w.heap.size + 1) (w.alloc (.cells #[v] t)) W) : W.cell? ⟨w.heap.size, 0, none⟩ = some v := by
  rw [h.cell (by simp)]
  rw [cell_of_row _ _ 0 _ _ (0, 0) (heap_alloc_new w _)]
  rfl
set_option maxHeartbeats 2000000 in
theorem bare_any (A : Option Addr) (l : List Int) (n c : Nat) (hn : l.length = n) (hm : n ≤ 9223372036854775807) (w : World) (h : Els encN w w.heap.size A l) :
    Calls Try.prog 12 #[.slice A n c] w fun e w' => ∃ (A' : Option Addr) (c' : Nat), e = .returned (.slice A' (bareV l).length c') ∧ Frs w' w.heap.size A' (bareV l).length (bareV l) ∧ Below w.heap.size w w' := by
  obtain ⟨w1, hw1⟩ : ∃ x, x = w.alloc (.cells #[.slice A n c] 22) := ⟨_, rfl⟩
  have hs1 : w1.heap.size = w.heap.size + 1 := by rw [hw1]; simp
  have HB1 : Hid (Below w.heap.size w w1) := hid (by rw [hw1]; exact (Below.refl _ _).alloc (Nat.le_refl _) _)
  have HS := hid (statingB_any w.heap.size (vat l) w1 (fun j hj W hW => bareF_any w.heap.size A l n c hn hm j hj W (box_cell w W _ _ (by rw [← hw1, ← hs1]; exact hW)) ((h.below (HB1.out.trans (hW.mono (by omega)))).more (by have := hW.size; omega))))
  have hmf : ∀ (fn : Fn) (first cap : Array Value) (w : World), (Instr.makeFunc fn first cap).run Try.prog w = .ok (.func fn first cap) w := fun _ _ _ _ => rfl
  have HSZ := hid hs1
  have HW1 := hid hw1
  clear h hn hs1 hw1
  go_enter Try.func12, Try.ntmps12
  go_wp2_with fail
  rw [← HW1.out]
  refine HS.out.mono ?_
  rintro er w2 ⟨A2, c2, rfl, ho, hb⟩
  have HO := hid ho
  have HB2 := hid (HB1.out.trans (hb.mono (by have := HSZ.out; omega)))
  clear ho hb
  go_wp2_with fail
  go_ret
  exact ⟨A2, c2, rfl, ⟨HO.out.len, HO.out.row, fun ad e => by have := HO.out.lies ad e; have := HSZ.out; omega⟩, HB2.out⟩
set_option maxHeartbeats 2000000 in
theorem with_any (A : Option Addr) (l : List Int) (n c : Nat) (hn : l.length = n) (hm : n ≤ 9223372036854775807) (d z : Int) (w : World) (h : Els encN w w.heap.size A l) :
    Calls Try.prog 14 #[.slice A n c, .int .i64 d, .int .i64 z] w fun e w' => ∃ (A2 : Option Addr) (c2 : Nat), e = .returned (.slice A2 (withV l d z).length c2) ∧ Frs w' w.heap.size A2 (withV l d z).length (withV l d z) ∧ Below w.heap.size w w' := by
  obtain ⟨wa, hwa⟩ : ∃ x, x = w.alloc (.cells #[.slice A n c] 22) := ⟨_, rfl⟩
  have hsa : wa.heap.size = w.heap.size + 1 := by rw [hwa]; simp
  obtain ⟨wb, hwb⟩ : ∃ x, x = wa.alloc (.cells #[.int .i64 d] 3) := ⟨_, rfl⟩
  have hsb : wb.heap.size = w.heap.size + 1 + 1 := by rw [hwb]; simp [hsa]
  obtain ⟨w1, hw1⟩ : ∃ x, x = wb.alloc (.cells #[.int .i64 z] 3) := ⟨_, rfl⟩
  have hs1 : w1.heap.size = w.heap.size + 1 + 1 + 1 := by rw [hw1]; simp [hsb]
  have hBb : Below wb.heap.size wb w1 := by rw [hw1]; exact (Below.refl _ _).alloc (Nat.le_refl _) _
  have hBa : Below wa.heap.size wa w1 := ((by rw [hwb]; exact (Below.refl _ _).alloc (Nat.le_refl _) _ : Below wa.heap.size wa wb)).trans (hBb.mono (by omega))
  have HB1 : Hid (Below w.heap.size w w1) := hid (((by rw [hwa]; exact (Below.refl _ _).alloc (Nat.le_refl _) _ : Below w.heap.size w wa)).trans (hBa.mono (by omega)))
  have HS := hid (statingW_any (w.heap.size + 1) (w.heap.size + 1 + 1) w.heap.size (fun i => if (i : Int) + 1 = d then clv z else vat l i) w1 (fun j hj W hW => withF_any (w.heap.size + 1) (w.heap.size + 1 + 1) w.heap.size d z A l n c hn hm j hj W
    (box_cell w W _ _ (by rw [← hwa, ← hsa]; exact hBa.trans (hW.mono (by omega))))
    (by have := box_cell wa W (.int .i64 d) 3 (by rw [← hwb, hsa, ← hsb]; exact hBb.trans (hW.mono (by omega))); rw [hsa] at this; exact this)
    (by have := box_cell wb W (.int .i64 z) 3 (by rw [← hw1, hsb, ← hs1]; exact hW); rw [hsb] at this; exact this)
    ((h.below (HB1.out.trans (hW.mono (by omega)))).more (by have := hW.size; omega))))
  have hmf : ∀ (fn : Fn) (first cap : Array Value) (w : World), (Instr.makeFunc fn first cap).run Try.prog w = .ok (.func fn first cap) w := fun _ _ _ _ => rfl
  have HSZ := hid hs1
  have HW1 : Hid (((w.alloc (.cells #[.slice A n c] 22)).alloc (.cells #[.int .i64 d] 3)).alloc (.cells #[.int .i64 z] 3) = w1) := hid (by rw [hw1, hwb, hwa])
  clear h hn hs1 hw1 hwb hwa hsa hsb hBb hBa
  go_enter Try.func14, Try.ntmps14
  go_wp2_with fail
  rw [HW1.out]
  refine HS.out.mono ?_
  rintro er w2 ⟨A2, c2, rfl, ho, hb⟩
  have HO := hid ho
  have HB2 := hid (HB1.out.trans (hb.mono (by have := HSZ.out; omega)))
  clear ho hb
  go_wp2_with fail
  go_ret
  exact ⟨A2, c2, rfl, ⟨HO.out.len, HO.out.row, fun ad e => by have := HO.out.lies ad e; have := HSZ.out; omega⟩, HB2.out⟩
set_option maxHeartbeats 2000000 in
theorem join_any (A A' : Option Addr) (l l' : List Int) (n n' c c' : Nat) (hn : l.length = n) (hn' : l'.length = n') (hm : n ≤ 9223372036854775807) (hm' : n' ≤ 9223372036854775807) (w : World) (h : Els encN w w.heap.size A l) (h' : Els encN w w.heap.size A' l') :
    Calls Try.prog 21 #[.slice A n c, .slice A' n' c'] w fun e w' => ∃ (A2 : Option Addr) (c2 : Nat), e = .returned (.slice A2 (joinV l l').length c2) ∧ Frs w' w.heap.size A2 (joinV l l').length (joinV l l') ∧ Below w.heap.size w w' := by
  obtain ⟨wb, hwb⟩ : ∃ x, x = w.alloc (.cells #[.slice A n c] 22) := ⟨_, rfl⟩
  have hsb : wb.heap.size = w.heap.size + 1 := by rw [hwb]; simp
  obtain ⟨w1, hw1⟩ : ∃ x, x = wb.alloc (.cells #[.slice A' n' c'] 22) := ⟨_, rfl⟩
  have hs1 : w1.heap.size = w.heap.size + 1 + 1 := by rw [hw1]; simp [hsb]
  have hBb : Below wb.heap.size wb w1 := by rw [hw1]; exact (Below.refl _ _).alloc (Nat.le_refl _) _
  have HB1 : Hid (Below w.heap.size w w1) := hid (((by rw [hwb]; exact (Below.refl _ _).alloc (Nat.le_refl _) _ : Below w.heap.size w wb)).trans (hBb.mono (by omega)))
  have HS := hid (statingJ_any w.heap.size (w.heap.size + 1) (fun i => max (vat l i) (vat l' i)) w1 (fun j hj W hW => joinF_any w.heap.size (w.heap.size + 1) A A' l l' n c n' c' hn hn' hm hm' j hj W
    (box_cell w W _ _ (by rw [← hwb, ← hsb]; exact hBb.trans (hW.mono (by omega))))
    (by have := box_cell wb W (.slice A' n' c') 22 (by rw [← hw1, hsb, ← hs1]; exact hW); rw [hsb] at this; exact this)
    ((h.below (HB1.out.trans (hW.mono (by omega)))).more (by have := hW.size; omega))
    ((h'.below (HB1.out.trans (hW.mono (by omega)))).more (by have := hW.size; omega))))
  have hmf : ∀ (fn : Fn) (first cap : Array Value) (w : World), (Instr.makeFunc fn first cap).run Try.prog w = .ok (.func fn first cap) w := fun _ _ _ _ => rfl
  have HSZ := hid hs1
  have HW1 : Hid ((w.alloc (.cells #[.slice A n c] 22)).alloc (.cells #[.slice A' n' c'] 22) = w1) := hid (by rw [hw1, hwb])
  clear h hn h' hn' hs1 hw1 hwb hsb hBb
  go_enter Try.func21, Try.ntmps21
  go_wp2_with fail
  rw [HW1.out]
  refine HS.out.mono ?_
  rintro er w2 ⟨A2, c2, rfl, ho, hb⟩
  have HO := hid ho
  have HB2 := hid (HB1.out.trans (hb.mono (by have := HSZ.out; omega)))
  clear ho hb
  go_wp2_with fail
  go_ret
  exact ⟨A2, c2, rfl, ⟨HO.out.len, HO.out.row, fun ad e => by have := HO.out.lies ad e; have := HSZ.out; omega⟩, HB2.out⟩
set_option maxHeartbeats 2000000 in
theorem covers_any (A A' : Option Addr) (l l' : List Int) (n n' c c' : Nat) (hn : l.length = n) (hn' : l'.length = n') (hm : n ≤ 9223372036854775807) (hm' : n' ≤ 9223372036854775807) (w : World) (h : Els encN w w.heap.size A l) (h' : Els encN w w.heap.size A' l') :
    Calls Try.prog 23 #[.slice A n c, .slice A' n' c'] w fun e w' => e = .returned (.bool (coverV l l')) ∧ Below w.heap.size w w' := by
  have HG := hid (fun (j : Nat) (hj : j < 16) => getJ_any A l n c hn hm j hj w h)
  have HG' := hid (fun (j : Nat) (hj : j < 16) => getJ_any A' l' n' c' hn' hm' j hj w h')
  clear h h' hn hn'
  go_enter Try.func23, Try.ntmps23
  go_wp2_with fail
  go_loopw [6] (fun i wr => ∃ k : Nat, k ≤ 16 ∧ i = .int .i64 (k : Int) ∧ Hid (∀ i, i < k → vat l' i ≤ vat l i) ∧ wr = w) (fun i _ => 16 - (intOf i).toNat)
  case atStart => exact ⟨0, Nat.zero_le _, rfl, hid (fun i hi => by omega), rfl⟩
  case round =>
    obtain ⟨k, hk, rfl, HP, hw⟩ := hrel
    have hw2 : w = wr := hw.symm
    subst hw2
    have hk0 : (0 : Int) ≤ (k : Int) := Int.natCast_nonneg _
    by_cases hlt : k < 16
    · have HX := hid (HG.out k hlt)
      have HY := hid (HG'.out k hlt)
      obtain ⟨x, hx⟩ : ∃ x, vat l k = x := ⟨_, rfl⟩
      obtain ⟨y, hy⟩ : ∃ x, vat l' k = x := ⟨_, rfl⟩
      rw [hx] at HX
      rw [hy] at HY
      have HXX := hid hx
      have HYY := hid hy
      have hk1 : (k : Int) < 16 := by omega
      clear hx hy hw
      go_wp2_with fail
      refine HX.out.mono ?_
      rintro er w1 ⟨rfl, hw⟩
      have hw2 : w = w1 := hw
      subst hw2
      clear hw
      go_wp2_with fail
      refine HY.out.mono ?_
      rintro er w1 ⟨rfl, hw⟩
      have hw2 : w = w1 := hw
      subst hw2
      clear hw
      by_cases hxy : x < y
      · have HE : Hid (coverV l l' = false) := hid (by
          rw [← Bool.not_eq_true, coverV_iff]
          intro h
          have := h k hlt
          rw [HXX.out, HYY.out] at this
          omega)
        go_wp2_with fail
        go_ret
        exact ⟨by rw [HE.out]; rfl, Below.refl _ _⟩
      · go_wp2_with fail
        go_roundw
        case rel => exact ⟨k + 1, by omega, by go_num, hid (fun i hi => by
          rcases Nat.lt_or_ge i k with h3 | h3
          · exact HP.out i h3
          · obtain rfl : i = k := by omega
            rw [HXX.out, HYY.out]; omega), by first | rfl | trivial⟩
        case measure => simp [intOf]; omega
    · obtain rfl : k = 16 := by omega
      have HE : Hid (coverV l l' = true) := hid (coverV_iff.2 HP.out)
      go_wp2_with fail
      go_ret
      exact ⟨by rw [HE.out]; rfl, Below.refl _ _⟩
set_option maxHeartbeats 2000000 in
theorem may_any (A : Option Addr) (l : List Int) (n c : Nat) (hn : l.length = n) (hs : n ≤ 1099511627776) (w : World) (h : Els encN w w.heap.size A l) :
    Calls Try.prog 16 #[.slice A n c] w fun e w' => e = .returned (.bool (@decide (Nrm l) (Classical.propDecidable _))) ∧ Below w.heap.size w w' := by
  have HB := hid (bare_any A l n c hn (by omega) w h)
  have HL := hid (bareV_nrm l).len
  have HE : Hid (@decide (Nrm l) (Classical.propDecidable _) = decide (l = bareV l)) := hid (decide_eq_decide.2 nrm_iff)
  have HH := hid (fun W (hW : Below w.heap.size w W) => (h.below hW).more hW.size)
  have HN := hid hn
  clear h hn
  go_enter Try.func16, Try.ntmps16
  go_wp2_with fail
  refine HB.out.mono ?_
  rintro er w1 ⟨A1, c1, rfl, ho, hb⟩
  have HS := hid (equalN_any A A1 l (bareV l) n (bareV l).length c c1 HN.out rfl (by omega) (by have := HL.out; omega) w1 (HH.out w1 hb) ho.els1)
  have HB1 := hid hb
  clear ho hb
  go_wp2_with fail
  refine HS.out.mono ?_
  rintro er w2 ⟨rfl, q, rfl⟩
  go_wp2_with fail
  go_ret
  exact ⟨by rw [HE.out]; rfl, below_drewN HB1.out _⟩
end Go.Proofs.Ytkaakbgpkpkeeaa.Sh
