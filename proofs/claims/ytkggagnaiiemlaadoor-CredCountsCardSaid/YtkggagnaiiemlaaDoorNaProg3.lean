/-
  The program's own Domain, Role, Text and Less, by contract; strconv.Itoa of 1 to 16.
-/
import Derived.Test.YtkggagnaiiemlaaDoorNaProg2
namespace Go.Proofs.YtkggagnaiiemlaaDoor.Sh
open Go Go.RowKit

/-- The digits of 1 to 16. -/
def digB (n : Int) : ByteArray := ⟨(if n < 10 then [UInt8.ofNat (48 + n.toNat)] else [49, UInt8.ofNat (38 + n.toNat)]).toArray⟩
theorem upto16 {n : Int} (h1 : 1 ≤ n) (h2 : n ≤ 16) : n = 1 ∨ n = 2 ∨ n = 3 ∨ n = 4 ∨ n = 5 ∨ n = 6 ∨ n = 7 ∨ n = 8 ∨ n = 9 ∨ n = 10 ∨ n = 11 ∨ n = 12 ∨ n = 13 ∨ n = 14 ∨ n = 15 ∨ n = 16 := by omega
set_option maxRecDepth 100000 in
theorem small_any (n : Int) (h1 : 1 ≤ n) (h2 : n ≤ 16) (w : World) : Calls Tryd.prog 88 #[.int .i64 n] w fun e w' => e = .returned (.string (digB n)) ∧ w = w' := by
  rcases upto16 h1 h2 with rfl | rfl | rfl | rfl | rfl | rfl | rfl | rfl | rfl | rfl | rfl | rfl | rfl | rfl | rfl | rfl
  all_goals
    go_enter Tryd.func88, Tryd.ntmps88
    go_wp2
    go_ret
    exact ⟨by kernel_rfl, rfl⟩
theorem formatInt_any (n : Int) (h1 : 1 ≤ n) (h2 : n ≤ 16) (w : World) : Calls Tryd.prog 83 #[.int .i64 n, .int .i64 10] w fun e w' => e = .returned (.string (digB n)) ∧ w = w' := by
  have HS := hid (small_any n h1 h2)
  have g1 : 0 ≤ n := by omega
  have g2 : n < 100 := by omega
  go_enter Tryd.func83, Tryd.ntmps83
  go_wp2_with fail
  refine (HS.out _).mono ?_
  rintro er w2 ⟨rfl, rfl⟩
  go_wp2
  go_ret
  exact ⟨rfl, rfl⟩
theorem itoaIn_any (n : Int) (h1 : 1 ≤ n) (h2 : n ≤ 16) (w : World) : Calls Tryd.prog 76 #[.int .i64 n] w fun e w' => e = .returned (.string (digB n)) ∧ w = w' := by
  have HS := hid (formatInt_any n h1 h2)
  go_enter Tryd.func76, Tryd.ntmps76
  go_wp2_with fail
  refine (HS.out _).mono ?_
  rintro er w2 ⟨rfl, rfl⟩
  go_wp2
  go_ret
  exact ⟨rfl, rfl⟩
theorem itoa_any (n : Int) (h1 : 1 ≤ n) (h2 : n ≤ 16) (w : World) : Calls Tryd.prog 63 #[.int .i64 n] w fun e w' => e = .returned (.string (digB n)) ∧ w = w' := by
  have HS := hid (itoaIn_any n h1 h2)
  go_enter Tryd.func63, Tryd.ntmps63
  go_wp2_with fail
  refine (HS.out _).mono ?_
  rintro er w2 ⟨rfl, rfl⟩
  go_wp2
  go_ret
  exact ⟨rfl, rfl⟩
theorem digB_dom {n : Int} (h1 : 1 ≤ n) (h2 : n ≤ 16) : (⟨#[100]⟩ : ByteArray) ++ digB n = ⟨(domL n).toArray⟩ := by
  rcases upto16 h1 h2 with rfl | rfl | rfl | rfl | rfl | rfl | rfl | rfl | rfl | rfl | rfl | rfl | rfl | rfl | rfl | rfl
  all_goals kernel_rfl
theorem digB_size (n : Int) : (digB n).size ≤ 2 := by
  unfold digB
  split <;> simp [ByteArray.size]
theorem domain_any (n : Int) (h0 : -9223372036854775808 ≤ n) (h1 : n < 9223372036854775808) (w : World) :
    Calls Tryd.prog 44 #[.int .i64 n] w fun e w' => e = .returned (.string ⟨(domL n).toArray⟩) ∧ Below w.heap.size w w' := by
  by_cases hlo : n < 1
  · have HE := hid (domL_none n (.inl hlo))
    go_enter Tryd.func44, Tryd.ntmps44
    go_wp2
    go_ret
    exact ⟨by rw [HE.out]; rfl, Below.refl _ _⟩
  by_cases hhi : 16 < n
  · have HE := hid (domL_none n (.inr hhi))
    go_enter Tryd.func44, Tryd.ntmps44
    go_wp2
    go_ret
    exact ⟨by rw [HE.out]; rfl, Below.refl _ _⟩
  have HS := hid (itoa_any n (by omega) (by omega))
  have HD := hid (digB_dom (n := n) (by omega) (by omega))
  have hz := digB_size n
  obtain ⟨D, hD⟩ : ∃ D, digB n = D := ⟨_, rfl⟩
  rw [hD] at HS HD hz
  clear hD
  have hz' : (D.size : Int) ≤ 2 := by omega
  go_enter Tryd.func44, Tryd.ntmps44
  go_wp2_with fail
  refine (HS.out _).mono ?_
  rintro er w2 ⟨rfl, rfl⟩
  go_wp2
  go_ret
  exact ⟨by rw [← HD.out]; rfl, Below.refl _ _⟩
theorem text_names (o n : ByteArray) (hm : o.size + n.size + 1 ≤ 9223372036854775807) (w : World) :
    Calls Tryd.prog 34 #[.agg #[.string o, .string n]] w fun e w' => e = .returned (.string (textB o n)) ∧ Below w.heap.size w w' := by
  go_enter Tryd.func34, Tryd.ntmps34
  go_wp2
  go_ret
  exact ⟨rfl, (Below.refl _ _).alloc (Nat.le_refl _) _⟩
theorem role_any (o n : ByteArray) (w : World) :
    Calls Tryd.prog 61 #[.agg #[.string o, .string n]] w fun e w' => e = .returned (.bool (roleL o.data.toList n.data.toList)) ∧ Below w.heap.size w w' := by
  have HM := hid (fun w => may_any n w)
  have HN := hid (fun w => nnum_any o w)
  obtain ⟨m, hm⟩ : ∃ m, mayL n.data.toList = m := ⟨_, rfl⟩
  obtain ⟨k, hk⟩ : ∃ k, numL o.data.toList = k := ⟨_, rfl⟩
  rw [hm] at HM
  rw [hk] at HN
  have HR : Hid (roleL o.data.toList n.data.toList = (m && decide (k ≠ 0))) := hid (by unfold roleL; rw [hm, hk])
  clear hm hk
  go_enter Tryd.func61, Tryd.ntmps61
  obtain ⟨w0, hw0⟩ : ∃ w0, w0 = w.alloc (.cells #[.string o, .string n] 25) := ⟨_, rfl⟩
  have hr0 : w0.heap[w.heap.size]? = some (.cells #[.string o, .string n] 25 (0, 0)) := by rw [hw0]; exact heap_alloc_new w _
  have b0 : Below w.heap.size w w0 := by rw [hw0]; exact (Below.refl _ _).alloc (Nat.le_refl _) _
  go_wp2_with fail
  rw [← hw0]
  clear hw0
  refine (HN.out w0).mono ?_
  rintro er w1 ⟨rfl, bb⟩
  have hr1 := (bb.block w.heap.size (Array.getElem?_eq_some_iff.1 hr0).1).trans hr0
  have b1 := b0.trans (bb.mono b0.size)
  have c1 : w1.cell? ⟨w.heap.size, 1, none⟩ = some (.string n) := by rw [cell_of_row w1 _ 1 _ _ (0, 0) hr1]; rfl
  clear bb b0 hr0 hr1
  by_cases hk : k = 0
  · subst hk
    have HF : Hid (roleL o.data.toList n.data.toList = false) := hid (by rw [HR.out]; simp)
    go_wp2
    go_ret
    exact ⟨by rw [HF.out]; rfl, b1⟩
  · have hk' : (0 : Int) < (k : Int) := by omega
    have HF : Hid (roleL o.data.toList n.data.toList = m) := hid (by rw [HR.out]; simp [hk])
    go_wp2_with fail
    refine (HM.out _).mono ?_
    rintro er w2 ⟨rfl, bb⟩
    have b2 := b1.trans (bb.mono b1.size)
    clear bb b1 c1
    go_wp2
    go_ret
    exact ⟨by rw [HF.out]; rfl, b2⟩
end Go.Proofs.YtkggagnaiiemlaaDoor.Sh
