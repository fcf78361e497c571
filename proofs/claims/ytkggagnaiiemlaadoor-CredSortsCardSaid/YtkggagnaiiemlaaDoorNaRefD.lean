/-
  The document's own Domain, Text, Less.
-/
import Derived.Test.YtkggagnaiiemlaaDoorNaRefN
namespace Go.Proofs.YtkggagnaiiemlaaDoor.Sh
open Go Go.RowKit

theorem conv_one (w : World) (x : UInt8) (z : Int) (hz : z = (x.toNat : Int)) (src t : TypeId) (fr : Nat × Nat) (c : Nat) (hs : Tryd.prog.underlying src = some (.slice 5)) :
    (convert src 9 (.slice (some ⟨w.heap.size, 0, none⟩) 1 c)).run Tryd.prog (w.alloc (.cells #[.int .u8 z] t fr)) = .ok (.string ⟨[x].toArray⟩) (w.alloc (.cells #[.int .u8 z] t fr)) := by
  subst hz
  refine run_convert_bytes_back _ src 9 5 _ c [x] hs Tryd.underlying5 Tryd.underlying9 (fun j hj => ?_)
  obtain ⟨ad, he, hc⟩ := reads_one w x t fr (by simp [bv])
  obtain rfl := Option.some.inj he
  have hj0 : j = 0 := by simp at hj; omega
  subst hj0
  exact hc 0 _ rfl
theorem refDomain_any (n : Int) (h0 : -9223372036854775808 ≤ n) (h1 : n < 9223372036854775808) (w : World) :
    Calls Tryd.prog 36 #[.int .i64 n] w fun e w' => e = .returned (.string ⟨(domL n).toArray⟩) ∧ Below w.heap.size w w' := by
  by_cases hlo : n < 1
  · have HE := hid (domL_none n (.inl hlo))
    go_enter Tryd.func36, Tryd.ntmps36
    go_wp2
    go_ret
    exact ⟨by rw [HE.out]; rfl, Below.refl _ _⟩
  by_cases hhi : 16 < n
  · have HE := hid (domL_none n (.inr hhi))
    go_enter Tryd.func36, Tryd.ntmps36
    go_wp2
    go_ret
    exact ⟨by rw [HE.out]; rfl, Below.refl _ _⟩
  have e1 : (48 + n) % 256 = 48 + n := by omega
  by_cases h9 : n < 10
  · obtain ⟨x, hx⟩ : ∃ x, x = UInt8.ofNat (48 + n.toNat) := ⟨_, rfl⟩
    have hz : 48 + n = (x.toNat : Int) := by rw [hx, UInt8.toNat_ofNat']; omega
    have HE : Hid (domL n = [100, x]) := hid (by unfold domL; rw [if_neg (by omega), if_pos h9, hx])
    have hcv := conv_one w x (48 + n) hz 34 5 (0, 0) 1 Tryd.underlying34
    clear hx hz
    go_enter Tryd.func36, Tryd.ntmps36
    go_wp2
    go_ret
    exact ⟨by rw [HE.out]; rfl, (Below.refl _ _).alloc (Nat.le_refl _) _⟩
  · obtain ⟨x, hx⟩ : ∃ x, x = UInt8.ofNat (38 + n.toNat) := ⟨_, rfl⟩
    have hz : 48 + n - 10 = (x.toNat : Int) := by rw [hx, UInt8.toNat_ofNat']; omega
    have e2 : (48 + n - 10) % 256 = 48 + n - 10 := by omega
    have HE : Hid (domL n = [100, 49, x]) := hid (by unfold domL; rw [if_neg (by omega), if_neg h9, hx])
    have hcv := conv_one w x (48 + n - 10) hz 34 5 (0, 0) 1 Tryd.underlying34
    clear hx hz
    go_enter Tryd.func36, Tryd.ntmps36
    go_wp2
    go_ret
    exact ⟨by rw [HE.out]; rfl, (Below.refl _ _).alloc (Nat.le_refl _) _⟩

/-- The text of a role. -/
def textB (o n : ByteArray) : ByteArray := o ++ ⟨#[46]⟩ ++ n
theorem textB_list (o n : ByteArray) : (textB o n).data.toList = o.data.toList ++ 46 :: n.data.toList := by
  unfold textB
  simp [ByteArray.data_append]
theorem refText_names (o n : ByteArray) (hm : o.size + n.size + 1 ≤ 9223372036854775807) (w : World) :
    Calls Tryd.prog 37 #[.agg #[.string o, .string n]] w fun e w' => e = .returned (.string (textB o n)) ∧ Below w.heap.size w w' := by
  go_enter Tryd.func37, Tryd.ntmps37
  go_wp2
  go_ret
  exact ⟨rfl, (Below.refl _ _).alloc (Nat.le_refl _) _⟩
theorem refRole_any (o n : ByteArray) (w : World) :
    Calls Tryd.prog 42 #[.agg #[.string o, .string n]] w fun e w' => e = .returned (.bool (roleL o.data.toList n.data.toList)) ∧ Below w.heap.size w w' := by
  have HM := hid (fun w => refMay_any n w)
  have HN := hid (fun w => refNnum_any o w)
  obtain ⟨m, hm⟩ : ∃ m, mayL n.data.toList = m := ⟨_, rfl⟩
  obtain ⟨k, hk⟩ : ∃ k, numL o.data.toList = k := ⟨_, rfl⟩
  rw [hm] at HM
  rw [hk] at HN
  have HR : Hid (roleL o.data.toList n.data.toList = (m && decide (k ≠ 0))) := hid (by unfold roleL; rw [hm, hk])
  clear hm hk
  go_enter Tryd.func42, Tryd.ntmps42
  go_wp2_with fail
  refine (HM.out _).mono ?_
  rintro er w2 ⟨rfl, rfl⟩
  cases m with
  | false =>
    go_wp2
    go_ret
    exact ⟨by rw [HR.out]; rfl, (Below.refl _ _).alloc (Nat.le_refl _) _⟩
  | true =>
    go_wp2_with fail
    refine (HN.out _).mono ?_
    rintro er w2 ⟨rfl, rfl⟩
    by_cases hk : k = 0
    · subst hk
      go_wp2
      go_ret
      exact ⟨by rw [HR.out]; rfl, (Below.refl _ _).alloc (Nat.le_refl _) _⟩
    · have hk' : ¬ (k : Int) = 0 := by omega
      have HK : Hid (decide (k ≠ 0) = true) := hid (by simp [hk])
      go_wp2
      go_ret
      exact ⟨by rw [HR.out, HK.out]; simp [hk], (Below.refl _ _).alloc (Nat.le_refl _) _⟩
end Go.Proofs.YtkggagnaiiemlaaDoor.Sh
