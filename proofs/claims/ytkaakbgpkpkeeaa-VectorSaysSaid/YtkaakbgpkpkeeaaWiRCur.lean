/-
  The document's own cursor: Number and Text.
-/
import Derived.Test.YtkaakbgpkpkeeaaWiRLook
namespace Go.Proofs.Ytkaakbgpkpkeeaa.Sh
open Go Go.RowKit

set_option maxHeartbeats 2000000 in
theorem refCNum_any (g : Nat) (A : Option Addr) (l : List UInt8) (n c p : Nat) (e least most : Int) (hn : l.length = n) (hc : n ≤ c) (hL : n ≤ 1099511627776) (hp : p ≤ n)
    (w : World) (h : CuRow 42 w g A n c p e) (hb : Byt w g A l) :
    Calls Try.prog 45 #[.pointer (some ⟨g, 0, none⟩), .int .i64 least, .int .i64 most] w fun er w' => Step 42 w w' g A n c er (numStep l p e least most) := by
  have h2 := h.c2
  have H := hid h
  by_cases he : e ≠ 0
  · have HE : Hid (numStep l p e least most = (0, p, e)) := hid (by unfold numStep; rw [if_pos he])
    clear h hb
    go_enter Try.func45, Try.ntmps45
    go_wp2
    go_ret
    rw [HE.out]
    exact ⟨rfl, H.out, World.grownBy.refl _ _⟩
  obtain rfl : e = 0 := by omega
  obtain ⟨N, U, E, hlk⟩ : ∃ N U E, look (l.drop p) = (N, U, E) := ⟨_, _, _, rfl⟩
  have HD := hid (refLook_any g A l n c p 0 hn hc hL hp w h hb)
  rw [hlk] at HD
  unfold tup3 at HD
  have HS : Hid (numStep l p 0 least most = if E ≠ 0 then (0, p, E) else if (N : Int) < least ∨ most < (N : Int) then (0, p, 2) else ((N : Int), p + U, 0)) := hid (by
    unfold numStep; rw [if_neg (by simp), hlk])
  have hUb : E = 0 → N < 9223372036854775808 ∧ p + U ≤ n := by
    rintro rfl
    have := look_zero hlk
    rw [List.length_drop] at this
    omega
  clear h hb hlk he hn
  go_enter Try.func45, Try.ntmps45
  go_wp2_with fail
  refine HD.out.mono ?_
  rintro er w2 ⟨rfl, hq⟩
  have H2 : Hid (CuRow 42 w2 g A n c p 0) := by obtain ⟨q, rfl⟩ := hq; exact hid (H.out.drewN q)
  have HG : Hid (w.grownBy w2 (some g)) := by obtain ⟨q, rfl⟩ := hq; exact hid (grown_drewN w q (some g))
  have k1 := H2.out.c1
  have k2 := H2.out.c2
  have f1 := H2.out.f 1
  have f2 := H2.out.f 2
  clear h2 H hq HD
  by_cases hE : E = 0
  · subst hE
    obtain ⟨hN, hU⟩ := hUb rfl
    clear hUb
    by_cases hlo : (N : Int) < least
    · have HR : Hid (numStep l p 0 least most = (0, p, 2)) := hid (by rw [HS.out, if_neg (by simp), if_pos (.inl hlo)])
      go_wp2
      go_ret
      rw [HR.out]
      exact ⟨rfl, H2.out.set2 2, HG.out.trans (grown_set _ _ _ _)⟩
    · by_cases hhi : most < (N : Int)
      · have HR : Hid (numStep l p 0 least most = (0, p, 2)) := hid (by rw [HS.out, if_neg (by simp), if_pos (.inr hhi)])
        go_wp2
        go_ret
        rw [HR.out]
        exact ⟨rfl, H2.out.set2 2, HG.out.trans (grown_set _ _ _ _)⟩
      · have HR : Hid (numStep l p 0 least most = ((N : Int), p + U, 0)) := hid (by rw [HS.out, if_neg (by simp), if_neg (by omega)])
        have hpU : (p : Int) + (U : Int) ≤ 1099511627776 := by omega
        go_wp2
        go_ret
        rw [HR.out]
        exact ⟨rfl, H2.out.set1 (p + U) (by simp), HG.out.trans (grown_set _ _ _ _)⟩
  · have HR : Hid (numStep l p 0 least most = (0, p, E)) := hid (by rw [HS.out, if_pos hE])
    clear hUb
    go_wp2
    go_ret
    rw [HR.out]
    exact ⟨rfl, H2.out.set2 E, HG.out.trans (grown_set _ _ _ _)⟩

end Go.Proofs.Ytkaakbgpkpkeeaa.Sh
