/-
  The document's examples of layer 10.
-/
import Derived.Test.YtkaakbgpkpkeeaaVeLawC
namespace Go.Proofs.Ytkaakbgpkpkeeaa.Sh
open Go Go.RowKit

set_option linter.unusedSimpArgs false
set_option linter.unusedVariables false
theorem addr_row (g n : Nat) : (⟨g, 0, none⟩ : Addr).add n = ⟨g, n, none⟩ := by
  rcases Nat.eq_zero_or_pos n with e | e
  · subst e; rw [add_zero]
  · rw [add_pos _ n e]; simp
theorem els_lit (w : World) (cs : Array Value) (l : List Int) (h : cs.toList = ev encN l) (B : Nat) (hB : w.heap.size < B) : Els encN (w.alloc (.cells cs 3)) B (some ⟨w.heap.size, 0, none⟩) l := fun hn => by
  refine ⟨_, rfl, hB, fun i u hu => ?_⟩
  rw [← h] at hu
  rw [addr_row, cell_of_row _ _ i _ _ (0, 0) (heap_alloc_new w _)]
  simpa using hu
theorem byt_lit (w : World) (cs : Array Value) (l : List UInt8) (h : ∀ (j : Nat) (x : UInt8), l[j]? = some x → cs[j]? = some (Value.int .u8 (x.toNat : Int))) (B : Nat) (hB : w.heap.size < B) : Byt (w.alloc (.cells cs 5)) B (some ⟨w.heap.size, 0, none⟩) l := fun hn => by
  refine ⟨_, rfl, hB, fun j x hx => ?_⟩
  rw [addr_row, cell_of_row _ _ j _ _ (0, 0) (heap_alloc_new w _)]
  exact h j x hx
theorem lv_a : joinV [1, 0, 3] [0, 2] = [1, 2, 3] := by decide +kernel
theorem lv_b : withV [1, 0, 3] 3 0 = [1] := by decide +kernel
theorem lv_c : encV [1, 2] = [1, 2, 1, 1, 1, 2] := by decide +kernel
theorem lv_n : Nrm [1, 2] := nrm_iff.2 (by decide +kernel)
theorem lv_m : ¬ Nrm [0] := fun h => absurd (nrm_iff.1 h) (by decide +kernel)
theorem lv_d : coverV [1] [1, 0] = true := by decide +kernel
theorem lv_e : coverV [] [1] = false := by decide +kernel
theorem lv_f : vget [7] 1 = 7 := by decide +kernel
set_option maxHeartbeats 4000000 in
theorem lives10_any : Lives10 := by
  intro w
  go_enter Try.func20, Try.ntmps20
  go_wp2_with fail
  obtain ⟨wb, hwb⟩ : ∃ x, x = (w.alloc (.cells #[.int .i64 1, .int .i64 0, .int .i64 3] 3)).alloc (.cells #[.int .i64 0, .int .i64 2] 3) := ⟨_, rfl⟩
  have hsb : wb.heap.size = w.heap.size + 2 := by rw [hwb]; simp
  have HW0 : Hid (Below w.heap.size w wb) := hid (by rw [hwb]; exact ((Below.refl w.heap.size w).alloc (Nat.le_refl _) _).alloc (by simp) _)
  have h1 : Els encN wb wb.heap.size (some ⟨w.heap.size, 0, none⟩) [1, 0, 3] := by
    rw [hsb, hwb]
    exact ((els_lit w #[.int .i64 1, .int .i64 0, .int .i64 3] [1, 0, 3] rfl (w.heap.size + 1) (by omega)).below ((Below.refl _ _).alloc (by simp) _)).more (by omega)
  have h2 : Els encN wb wb.heap.size (some ⟨w.heap.size + 1, 0, none⟩) [0, 2] := by
    rw [hsb, hwb]
    have := els_lit (w.alloc (.cells #[.int .i64 1, .int .i64 0, .int .i64 3] 3)) #[.int .i64 0, .int .i64 2] [0, 2] rfl (w.heap.size + 2) (by simp)
    rw [World.size_alloc] at this
    exact this
  rw [← hwb]
  clear hwb hsb
  refine (join_any _ _ [1, 0, 3] [0, 2] 3 2 3 2 rfl rfl (by omega) (by omega) _ h1 h2).mono ?_
  rintro er w1 ⟨A1, c1, rfl, ho, hb⟩
  rw [lv_a] at ho ⊢
  have HO1 := hid (ho.els1)
  have HB1 := hid (HW0.out.trans (hb.mono HW0.out.size))
  clear ho hb HW0
  go_wp2_with fail
  refine (sameB_any A1 _ [1, 2, 3] [1, 2, 3] 3 3 c1 3 rfl rfl (by omega) (by omega) _ ((HO1.out.below ((Below.refl w1.heap.size w1).alloc (Nat.le_refl _) _)).more (by simp)) (els_lit w1 #[.int .i64 1, .int .i64 2, .int .i64 3] [1, 2, 3] rfl _ (by simp))).mono ?_
  rintro er w2 ⟨rfl, hb⟩
  have HB2 := hid ((HB1.out.alloc HB1.out.size _).trans (hb.mono (HB1.out.alloc HB1.out.size _).size))
  clear hb HO1 HB1
  go_wp2_with fail
  refine (with_any _ [1, 0, 3] 3 3 rfl (by omega) 3 0 _ (els_lit w2 #[.int .i64 1, .int .i64 0, .int .i64 3] [1, 0, 3] rfl _ (by simp))).mono ?_
  rintro er w3 ⟨A3, c3, rfl, ho, hb⟩
  rw [lv_b] at ho ⊢
  have HO3 := hid (ho.els1)
  have HB3 := hid ((HB2.out.alloc HB2.out.size _).trans (hb.mono (HB2.out.alloc HB2.out.size _).size))
  clear hb ho HB2
  go_wp2_with fail
  refine (sameB_any A3 _ [1] [1] 1 1 c3 1 rfl rfl (by omega) (by omega) _ ((HO3.out.below ((Below.refl w3.heap.size w3).alloc (Nat.le_refl _) _)).more (by simp)) (els_lit w3 #[.int .i64 1] [1] rfl _ (by simp))).mono ?_
  rintro er w4 ⟨rfl, hb⟩
  have HB4 := hid ((HB3.out.alloc HB3.out.size _).trans (hb.mono (HB3.out.alloc HB3.out.size _).size))
  clear hb HO3 HB3
  go_wp2_with fail
  refine (put10_any none [] 0 0 rfl (by omega) _ [1, 2] 2 2 rfl (by omega) _ Byt.nil (els_lit w4 #[.int .i64 1, .int .i64 2] [1, 2] rfl _ (by simp))).mono ?_
  rintro er w5 ⟨hr, hb⟩
  obtain ⟨Ap, Np, cp, rfl, hNp, ho⟩ : ∃ (A' : Option Addr) (N c' : Nat), er = .returned (.tuple #[.slice A' N c', .int .i64 0]) ∧ ([] ++ encV [1, 2]).length = N ∧ OwnB w5 (w4.alloc (.cells #[.int .i64 1, .int .i64 2] 3)).heap.size (.slice A' N c') N ([] ++ encV [1, 2]) := by
    rcases hr with h | h
    · exact absurd lv_n h.1
    · exact h.2
  rw [List.nil_append, lv_c] at hNp ho
  have hN6 : (6 : Nat) = Np := hNp
  subst hN6
  have HP5 := hid ho.byt
  have HB5 := hid ((HB4.out.alloc HB4.out.size _).trans (hb.mono (HB4.out.alloc HB4.out.size _).size))
  clear hr hb ho hNp HB4
  go_wp2_with fail
  refine (sameE_any Ap _ [1, 2, 1, 1, 1, 2] 6 cp 6 rfl (by omega) _ ((HP5.out.below ((Below.refl w5.heap.size w5).alloc (Nat.le_refl _) _)).more (by simp)) (byt_lit w5 #[.int .u8 1, .int .u8 2, .int .u8 1, .int .u8 1, .int .u8 1, .int .u8 2] [1, 2, 1, 1, 1, 2] (by intro j x hx; match j, hx with | 0, hx | 1, hx | 2, hx | 3, hx | 4, hx | 5, hx => simp at hx; subst hx; rfl) _ (by simp))).mono ?_
  rintro er w6 ⟨rfl, hb⟩
  have HB6 := hid ((HB5.out.alloc HB5.out.size _).trans (hb.mono (HB5.out.alloc HB5.out.size _).size))
  clear hb HP5 HB5
  go_wp2_with fail
  obtain ⟨wb, hwb⟩ : ∃ x, x = (w6.alloc (.cells #[.int .i64 1] 3)).alloc (.cells #[.int .i64 1, .int .i64 0] 3) := ⟨_, rfl⟩
  have hsb : wb.heap.size = w6.heap.size + 2 := by rw [hwb]; simp
  have HWB : Hid (Below w.heap.size w wb) := hid (by rw [hwb]; exact (HB6.out.alloc HB6.out.size _).alloc (by have := HB6.out.size; simp; omega) _)
  have h1 : Els encN wb wb.heap.size (some ⟨w6.heap.size, 0, none⟩) [1] := by
    rw [hsb, hwb]
    exact ((els_lit w6 #[.int .i64 1] [1] rfl (w6.heap.size + 1) (by omega)).below ((Below.refl _ _).alloc (by simp) _)).more (by omega)
  have h2 : Els encN wb wb.heap.size (some ⟨w6.heap.size + 1, 0, none⟩) [1, 0] := by
    rw [hsb, hwb]
    have := els_lit (w6.alloc (.cells #[.int .i64 1] 3)) #[.int .i64 1, .int .i64 0] [1, 0] rfl (w6.heap.size + 2) (by simp)
    rw [World.size_alloc] at this
    exact this
  rw [← hwb]
  clear hwb hsb HB6
  refine (covers_any _ _ [1] [1, 0] 1 2 1 2 rfl rfl (by omega) (by omega) _ h1 h2).mono ?_
  rintro er w7 ⟨rfl, hb⟩
  rw [lv_d]
  have HB7 := hid (HWB.out.trans (hb.mono HWB.out.size))
  clear hb h1 h2 HWB
  go_wp2_with fail
  refine (covers_any none _ [] [1] 0 1 0 1 rfl rfl (by omega) (by omega) _ Els.nil (els_lit w7 #[.int .i64 1] [1] rfl _ (by simp))).mono ?_
  rintro er w8 ⟨rfl, hb⟩
  rw [lv_e]
  have HB8 := hid ((HB7.out.alloc HB7.out.size _).trans (hb.mono (HB7.out.alloc HB7.out.size _).size))
  clear hb HB7
  go_wp2_with fail
  refine (get_any _ [7] 1 1 rfl (by omega) 1 (by omega) _ (els_lit w8 #[.int .i64 7] [7] rfl _ (by simp))).mono ?_
  rintro er w9 ⟨rfl, hb⟩
  rw [lv_f]
  have HB9 := hid ((HB8.out.alloc HB8.out.size _).trans (hb.mono (HB8.out.alloc HB8.out.size _).size))
  clear hb HB8
  go_wp2_with fail
  refine (may_any _ [0] 1 1 rfl (by omega) _ (els_lit w9 #[.int .i64 0] [0] rfl _ (by simp))).mono ?_
  rintro er w10 ⟨rfl, hb⟩
  rw [show @decide (Nrm [0]) (Classical.propDecidable _) = false from @decide_eq_false _ (Classical.propDecidable _) lv_m]
  have HBX := hid ((HB9.out.alloc HB9.out.size _).trans (hb.mono (HB9.out.alloc HB9.out.size _).size))
  clear hb HB9
  go_wp2_with fail
  go_ret
  exact ⟨rfl, HBX.out⟩
end Go.Proofs.Ytkaakbgpkpkeeaa.Sh
