/-
  The document's own Number and Domain.
-/
import Derived.Test.YtkggagnaiiemlaaDoorNaRef
namespace Go.Proofs.YtkggagnaiiemlaaDoor.Sh
open Go Go.RowKit

theorem numL_two (d x : UInt8) : numL [d, x] = if d = 100 ∧ 49 ≤ x.toNat ∧ x.toNat ≤ 57 then x.toNat - 48 else 0 := rfl
theorem numL_three (d x y : UInt8) : numL [d, x, y] = if d = 100 ∧ 49 ≤ x.toNat ∧ x.toNat ≤ 57 ∧ 48 ≤ y.toNat ∧ y.toNat ≤ 57 ∧ 10 * (x.toNat - 48) + (y.toNat - 48) ≤ 16 then 10 * (x.toNat - 48) + (y.toNat - 48) else 0 := rfl
theorem ne100 {d : UInt8} (h : ¬ d.toNat = 100) : ¬ d = 100 := fun e => h (by rw [e]; rfl)

set_option maxHeartbeats 2000000 in
theorem refNnum_any (s : ByteArray) (w : World) :
    Calls Tryd.prog 62 #[.string s] w fun e w' => e = .returned (.int .i64 (numL s.data.toList : Int)) ∧ w = w' := by
  obtain ⟨l, hl⟩ : ∃ l, s.data.toList = l := ⟨_, rfl⟩
  have hsz := size_list s
  rw [hl] at hsz ⊢
  match l with
  | [] =>
    have h1 : (s.size : Int) < 2 := by simp at hsz; omega
    have HE : Hid (numL [] = 0) := hid rfl
    go_enter Tryd.func62, Tryd.ntmps62
    go_wp2
    go_ret
    exact ⟨by rw [HE.out]; rfl, rfl⟩
  | [d] =>
    have h1 : (s.size : Int) < 2 := by simp at hsz; omega
    have HE : Hid (numL [d] = 0) := hid rfl
    go_enter Tryd.func62, Tryd.ntmps62
    go_wp2
    go_ret
    exact ⟨by rw [HE.out]; rfl, rfl⟩
  | d :: x :: y :: z :: t =>
    have h1 : ¬ (s.size : Int) < 2 := by simp at hsz; omega
    have h3 : (3 : Int) < (s.size : Int) := by simp at hsz; omega
    have HE : Hid (numL (d :: x :: y :: z :: t) = 0) := hid rfl
    clear hl hsz
    go_enter Tryd.func62, Tryd.ntmps62
    go_wp2
    go_ret
    exact ⟨by rw [HE.out]; rfl, rfl⟩
  | [d, x] =>
    have hs2 : (s.size : Int) = 2 := by simp at hsz; omega
    obtain ⟨p0, e0⟩ := sget s (j := 0) (x := d) (by rw [hl]; rfl)
    obtain ⟨p1, e1⟩ := sget s (j := 1) (x := x) (by rw [hl]; rfl)
    have hd8 := lt8 d
    have hx8 := lt8 x
    clear hl hsz
    by_cases hd : ¬ d.toNat = 100
    · have HE : Hid (numL [d, x] = 0) := hid (by rw [numL_two]; exact if_neg (fun h => ne100 hd h.1))
      have ghd0 : ¬ (d.toNat : Int) = 100 := by omega
      go_enter Tryd.func62, Tryd.ntmps62
      go_wp2
      go_ret
      exact ⟨by rw [HE.out]; rfl, rfl⟩
    have khd0 : (d.toNat : Int) = 100 := by omega
    by_cases hx : x.toNat < 49
    · have HE : Hid (numL [d, x] = 0) := hid (by rw [numL_two]; exact if_neg (by omega))
      have ghx0 : (x.toNat : Int) < 49 := by omega
      go_enter Tryd.func62, Tryd.ntmps62
      go_wp2
      go_ret
      exact ⟨by rw [HE.out]; rfl, rfl⟩
    have khx0 : ¬ (x.toNat : Int) < 49 := by omega
    by_cases hxx : 57 < x.toNat
    · have HE : Hid (numL [d, x] = 0) := hid (by rw [numL_two]; exact if_neg (by omega))
      have ghxx0 : 57 < (x.toNat : Int) := by omega
      go_enter Tryd.func62, Tryd.ntmps62
      go_wp2
      go_ret
      exact ⟨by rw [HE.out]; rfl, rfl⟩
    have khxx0 : ¬ 57 < (x.toNat : Int) := by omega
    have HE : Hid (numL [d, x] = x.toNat - 48) := hid (by rw [numL_two]; exact if_pos ⟨UInt8.toNat_inj.1 (by show d.toNat = 100; omega), by omega, by omega⟩)
    have h16 : ¬ (16 : Int) < (x.toNat : Int) - 48 := by omega
    have ux : ((x.toNat : Int) - 48) % 256 = (x.toNat : Int) - 48 := by omega
    go_enter Tryd.func62, Tryd.ntmps62
    go_wp2
    go_ret
    exact ⟨ret_int (by rw [HE.out]; omega), rfl⟩
  | [d, x, y] =>
    have hs3 : (s.size : Int) = 3 := by simp at hsz; omega
    obtain ⟨p0, e0⟩ := sget s (j := 0) (x := d) (by rw [hl]; rfl)
    obtain ⟨p1, e1⟩ := sget s (j := 1) (x := x) (by rw [hl]; rfl)
    obtain ⟨p2, e2⟩ := sget s (j := 2) (x := y) (by rw [hl]; rfl)
    have hd8 := lt8 d
    have hx8 := lt8 x
    have hy8 := lt8 y
    clear hl hsz
    by_cases hd : ¬ d.toNat = 100
    · have HE : Hid (numL [d, x, y] = 0) := hid (by rw [numL_three]; exact if_neg (fun h => ne100 hd h.1))
      have ghd0 : ¬ (d.toNat : Int) = 100 := by omega
      go_enter Tryd.func62, Tryd.ntmps62
      go_wp2
      go_ret
      exact ⟨by rw [HE.out]; rfl, rfl⟩
    have khd0 : (d.toNat : Int) = 100 := by omega
    by_cases hx : x.toNat < 49
    · have HE : Hid (numL [d, x, y] = 0) := hid (by rw [numL_three]; exact if_neg (by omega))
      have ghx0 : (x.toNat : Int) < 49 := by omega
      go_enter Tryd.func62, Tryd.ntmps62
      go_wp2
      go_ret
      exact ⟨by rw [HE.out]; rfl, rfl⟩
    have khx0 : ¬ (x.toNat : Int) < 49 := by omega
    by_cases hxx : 57 < x.toNat
    · have HE : Hid (numL [d, x, y] = 0) := hid (by rw [numL_three]; exact if_neg (by omega))
      have ghxx0 : 57 < (x.toNat : Int) := by omega
      go_enter Tryd.func62, Tryd.ntmps62
      go_wp2
      go_ret
      exact ⟨by rw [HE.out]; rfl, rfl⟩
    have khxx0 : ¬ 57 < (x.toNat : Int) := by omega
    by_cases hy : y.toNat < 48
    · have HE : Hid (numL [d, x, y] = 0) := hid (by rw [numL_three]; exact if_neg (by omega))
      have ghy0 : (y.toNat : Int) < 48 := by omega
      have ux : ((x.toNat : Int) - 48) % 256 = (x.toNat : Int) - 48 := by omega
      go_enter Tryd.func62, Tryd.ntmps62
      go_wp2
      go_ret
      exact ⟨by rw [HE.out]; rfl, rfl⟩
    have khy0 : ¬ (y.toNat : Int) < 48 := by omega
    by_cases hyy : 57 < y.toNat
    · have HE : Hid (numL [d, x, y] = 0) := hid (by rw [numL_three]; exact if_neg (by omega))
      have ghyy0 : 57 < (y.toNat : Int) := by omega
      have ux : ((x.toNat : Int) - 48) % 256 = (x.toNat : Int) - 48 := by omega
      go_enter Tryd.func62, Tryd.ntmps62
      go_wp2
      go_ret
      exact ⟨by rw [HE.out]; rfl, rfl⟩
    have khyy0 : ¬ 57 < (y.toNat : Int) := by omega
    by_cases hbig : 16 < 10 * (x.toNat - 48) + (y.toNat - 48)
    · have HE : Hid (numL [d, x, y] = 0) := hid (by rw [numL_three]; exact if_neg (by omega))
      have ghbig0 : (16 : Int) < 10 * ((x.toNat : Int) - 48) + ((y.toNat : Int) - 48) := by omega
      have ux : ((x.toNat : Int) - 48) % 256 = (x.toNat : Int) - 48 := by omega
      have uy : ((y.toNat : Int) - 48) % 256 = (y.toNat : Int) - 48 := by omega
      go_enter Tryd.func62, Tryd.ntmps62
      go_wp2
      go_ret
      exact ⟨by rw [HE.out]; rfl, rfl⟩
    have khbig0 : ¬ (16 : Int) < 10 * ((x.toNat : Int) - 48) + ((y.toNat : Int) - 48) := by omega
    have HE : Hid (numL [d, x, y] = 10 * (x.toNat - 48) + (y.toNat - 48)) := hid (by rw [numL_three]; exact if_pos ⟨UInt8.toNat_inj.1 (by show d.toNat = 100; omega), by omega, by omega, by omega, by omega, by omega⟩)
    have ux : ((x.toNat : Int) - 48) % 256 = (x.toNat : Int) - 48 := by omega
    have uy : ((y.toNat : Int) - 48) % 256 = (y.toNat : Int) - 48 := by omega
    go_enter Tryd.func62, Tryd.ntmps62
    go_wp2
    go_ret
    exact ⟨ret_int (by rw [HE.out]; omega), rfl⟩
end Go.Proofs.YtkggagnaiiemlaaDoor.Sh
