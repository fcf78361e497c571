/-
  The document's own cursor: Number and Text.
-/
import Derived.Test.YtkggagnaiiemlaaDoorWiRLook
namespace Go.Proofs.YtkggagnaiiemlaaDoor.Sh
open Go Go.RowKit

set_option maxHeartbeats 2000000 in
theorem refCNum_any (g : Nat) (A : Option Addr) (l : List UInt8) (n c p : Nat) (e least most : Int) (hn : l.length = n) (hc : n ≤ c) (hL : n ≤ 1099511627776) (hp : p ≤ n)
    (w : World) (h : CuRow 43 w g A n c p e) (hb : Byt w g A l) :
    Calls Tryd.prog 51 #[.pointer (some ⟨g, 0, none⟩), .int .i64 least, .int .i64 most] w fun er w' => Step 43 w w' g A n c er (numStep l p e least most) := by
  have h2 := h.c2
  have H := hid h
  by_cases he : e ≠ 0
  · have HE : Hid (numStep l p e least most = (0, p, e)) := hid (by unfold numStep; rw [if_pos he])
    clear h hb
    go_enter Tryd.func51, Tryd.ntmps51
    go_wp2
    go_ret
    rw [HE.out]
    exact ⟨rfl, H.out, World.grownBy.refl _ _⟩
  obtain rfl : e = 0 := by omega
  obtain ⟨N, U, E, hlk⟩ : ∃ N U E, look (l.drop p) = (N, U, E) := ⟨_, _, _, rfl⟩
  have HD := hid (refLook_any g A l n c p 0 hn hc hL hp w h hb)
  rw [hlk] at HD
  unfold tup3 at HD
  have HS : Hid (numStep l p 0 least most = if E ≠ 0 then (0, p, E) else if (N : Int) < least ∨ most < (N : Int) then (0, p, 2) else ((N : Int), p + U, 0)) := hid (by
    unfold numStep; rw [if_neg (by simp), hlk])
  have hUb : E = 0 → N < 9223372036854775808 ∧ p + U ≤ n := by
    rintro rfl
    have := look_zero hlk
    rw [List.length_drop] at this
    omega
  clear h hb hlk he hn
  go_enter Tryd.func51, Tryd.ntmps51
  go_wp2_with fail
  refine HD.out.mono ?_
  rintro er w2 ⟨rfl, hq⟩
  have H2 : Hid (CuRow 43 w2 g A n c p 0) := by obtain ⟨q, rfl⟩ := hq; exact hid (H.out.drewN q)
  have HG : Hid (w.grownBy w2 (some g)) := by obtain ⟨q, rfl⟩ := hq; exact hid (grown_drewN w q (some g))
  have k1 := H2.out.c1
  have k2 := H2.out.c2
  have f1 := H2.out.f 1
  have f2 := H2.out.f 2
  clear h2 H hq HD
  by_cases hE : E = 0
  · subst hE
    obtain ⟨hN, hU⟩ := hUb rfl
    clear hUb
    by_cases hlo : (N : Int) < least
    · have HR : Hid (numStep l p 0 least most = (0, p, 2)) := hid (by rw [HS.out, if_neg (by simp), if_pos (.inl hlo)])
      go_wp2
      go_ret
      rw [HR.out]
      exact ⟨rfl, H2.out.set2 2, HG.out.trans (grown_set _ _ _ _)⟩
    · by_cases hhi : most < (N : Int)
      · have HR : Hid (numStep l p 0 least most = (0, p, 2)) := hid (by rw [HS.out, if_neg (by simp), if_pos (.inr hhi)])
        go_wp2
        go_ret
        rw [HR.out]
        exact ⟨rfl, H2.out.set2 2, HG.out.trans (grown_set _ _ _ _)⟩
      · have HR : Hid (numStep l p 0 least most = ((N : Int), p + U, 0)) := hid (by rw [HS.out, if_neg (by simp), if_neg (by omega)])
        have hpU : (p : Int) + (U : Int) ≤ 1099511627776 := by omega
        go_wp2
        go_ret
        rw [HR.out]
        exact ⟨rfl, H2.out.set1 (p + U) (by simp), HG.out.trans (grown_set _ _ _ _)⟩
  · have HR : Hid (numStep l p 0 least most = (0, p, E)) := hid (by rw [HS.out, if_pos hE])
    clear hUb
    go_wp2
    go_ret
    rw [HR.out]
    exact ⟨rfl, H2.out.set2 E, HG.out.trans (grown_set _ _ _ _)⟩

set_option maxHeartbeats 4000000 in
theorem refCText_any (g : Nat) (A : Option Addr) (l : List UInt8) (n c p : Nat) (e most : Int) (hn : l.length = n) (hc : n ≤ c) (hL : n ≤ 1099511627776) (hp : p ≤ n)
    (w : World) (h : CuRow 43 w g A n c p e) (hb : Byt w g A l) :
    Calls Tryd.prog 72 #[.pointer (some ⟨g, 0, none⟩), .int .i64 most] w fun er w' => StepS 43 w w' g A n c er (textStep l p e most) := by
  have h2 := h.c2
  have H := hid h
  by_cases he : e ≠ 0
  · have HE : Hid (textStep l p e most = ([], p, e)) := hid (by unfold textStep; rw [if_pos he])
    clear h hb
    go_enter Tryd.func72, Tryd.ntmps72
    go_wp2
    go_ret
    rw [HE.out]
    exact ⟨rfl, H.out, World.grownBy.refl _ _⟩
  obtain rfl : e = 0 := by omega
  obtain ⟨N, U, E, hlk⟩ : ∃ N U E, look (l.drop p) = (N, U, E) := ⟨_, _, _, rfl⟩
  have HD := hid (refLook_any g A l n c p 0 hn hc hL hp w h hb)
  rw [hlk] at HD
  unfold tup3 at HD
  have HS : Hid (textStep l p 0 most = if E ≠ 0 then ([], p, E) else if most < (N : Int) then ([], p, 2) else if n - (p + U) < N then ([], p, 3) else ((l.drop (p + U)).take N, p + U + N, 0)) := hid (by
    unfold textStep; rw [if_neg (by simp), hlk, hn])
  have hUb : E = 0 → N < 9223372036854775808 ∧ p + U ≤ n := by
    rintro rfl
    have := look_zero hlk
    rw [List.length_drop] at this
    omega
  have HB := hid hb
  have HN := hid hn
  clear h hb hlk he hn
  go_enter Tryd.func72, Tryd.ntmps72
  go_wp2_with fail
  refine HD.out.mono ?_
  rintro er w2 ⟨rfl, hq⟩
  have H2 : Hid (CuRow 43 w2 g A n c p 0) := by obtain ⟨q, rfl⟩ := hq; exact hid (H.out.drewN q)
  have HG : Hid (w.grownBy w2 (some g)) := by obtain ⟨q, rfl⟩ := hq; exact hid (grown_drewN w q (some g))
  have HB2 : Hid (Byt w2 g A l) := by obtain ⟨q, rfl⟩ := hq; exact hid (HB.out.drewN q)
  have k0 := H2.out.c0
  have k1 := H2.out.c1
  have k2 := H2.out.c2
  have f1 := H2.out.f 1
  have f2 := H2.out.f 2
  clear h2 H hq HD
  by_cases hE : E = 0
  · subst hE
    obtain ⟨hN, hU⟩ := hUb rfl
    clear hUb
    by_cases hhi : most < (N : Int)
    · have HR : Hid (textStep l p 0 most = ([], p, 2)) := hid (by rw [HS.out, if_neg (by simp), if_pos hhi])
      go_wp2
      go_ret
      rw [HR.out]
      exact ⟨rfl, H2.out.set2 2, HG.out.trans (grown_set _ _ _ _)⟩
    · have hnp : (p : Int) + (U : Int) ≤ (n : Int) := by omega
      go_wp2_with fail
      go_quiet (fail)
      have HG3 := hid (HG.out.trans (grown_drewN w2 nq (some g)))
      have H3 := hid (H2.out.drewN nq)
      have g0 := H3.out.c0
      have g1 := H3.out.c1
      have g2 := H3.out.c2
      have u1 := H3.out.f 1
      have u2 := H3.out.f 2
      obtain ⟨w3, hw3⟩ : ∃ w3, w3 = w2.drewN nq := ⟨_, rfl⟩
      rw [← hw3] at HG3 H3 g0 g1 g2 u1 u2 ⊢
      have HB3 : Hid (Byt w3 g A l) := hid (by rw [hw3]; exact HB2.out)
      clear hw3 k0 k1 k2 f1 f2 HG H2
      by_cases hsh : (n : Int) - (p : Int) - (U : Int) < (N : Int)
      · have HR : Hid (textStep l p 0 most = ([], p, 3)) := hid (by rw [HS.out, if_neg (by simp), if_neg (by omega), if_pos (by omega)])
        go_wp2
        go_ret
        rw [HR.out]
        exact ⟨rfl, H3.out.set2 3, HG3.out.trans (grown_set _ _ _ _)⟩
      · have HR : Hid (textStep l p 0 most = ((l.drop (p + U)).take N, p + U + N, 0)) := hid (by rw [HS.out, if_neg (by simp), if_neg (by omega), if_neg (by omega)])
        obtain ⟨Q, hQ⟩ : ∃ Q, Q = p + U := ⟨_, rfl⟩
        obtain ⟨R, hR⟩ : ∃ R, R = Q + N := ⟨_, rfl⟩
        obtain ⟨B, hB⟩ : ∃ B, B = (if c = Q then A else A.map (·.add Q)) := ⟨_, rfl⟩
        rw [← hQ] at HR
        have hcv : ∀ k, (convert 34 9 (.slice B N (c - Q))).run Tryd.prog (w3.drewN k) = .ok (.string ⟨((l.drop Q).take N).toArray⟩) (w3.drewN k) := fun k => by
          have hcut := HB3.out.cut (lo := Q) (hi := Q + N) (cap := c) (by omega) (by rw [HN.out]; omega) (by rw [HN.out]; exact hc)
          rw [← hB, List.drop_take, show Q + N - Q = N by omega] at hcut
          exact conv_byt (hcut.drewN k) (by rw [List.length_take, List.length_drop, HN.out]; omega)
        have eB := hB.symm
        have e1 : (p : Int) + (U : Int) = (Q : Int) := by omega
        have e2 : (Q : Int) + (N : Int) = (R : Int) := by omega
        have e3 : R - Q = N := by omega
        have q1 : (Q : Int) ≤ (R : Int) := by omega
        have q2 : (R : Int) ≤ (n : Int) := by omega
        have q3 : (n : Int) ≤ (c : Int) := by omega
        have q4 : (n : Int) ≤ 1099511627776 := by omega
        have HRR : Hid (R = Q + N) := hid hR
        have HQQ : Hid (Q = p + U) := hid hQ
        clear hQ hR hB hnp hU hsh hN hhi hp hc
        go_wp2_with fail
        go_quiet (fail)
        go_wp2
        go_ret
        rw [HR.out]
        exact ⟨rfl, (H3.out.drewN _).set1 (Q + N) (by rw [HRR.out]), (HG3.out.trans (grown_drewN w3 _ (some g))).trans (grown_set _ _ _ _)⟩
  · have HR : Hid (textStep l p 0 most = ([], p, E)) := hid (by rw [HS.out, if_pos hE])
    clear hUb
    go_wp2
    go_ret
    rw [HR.out]
    exact ⟨rfl, H2.out.set2 E, HG.out.trans (grown_set _ _ _ _)⟩
end Go.Proofs.YtkggagnaiiemlaaDoor.Sh
