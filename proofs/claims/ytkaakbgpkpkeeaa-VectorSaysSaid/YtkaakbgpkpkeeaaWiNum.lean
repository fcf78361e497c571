/-
  A cursor's Number.
-/
import Derived.Test.YtkaakbgpkpkeeaaWiDec
namespace Go.Proofs.Ytkaakbgpkpkeeaa.Sh
open Go Go.RowKit

/-- What Number answers, the place and the error behind it. -/
def numStep (l : List UInt8) (p : Nat) (e least most : Int) : Int × Nat × Int :=
  if e ≠ 0 then (0, p, e)
  else if (look (l.drop p)).2.2 ≠ 0 then (0, p, (look (l.drop p)).2.2)
  else if ((look (l.drop p)).1 : Int) < least ∨ most < ((look (l.drop p)).1 : Int) then (0, p, 2)
  else (((look (l.drop p)).1 : Int), p + (look (l.drop p)).2.1, 0)
/-- A call on a cursor: the answer, the cursor behind it, nothing else turned. -/
def Step (T : TypeId) (w w' : World) (g : Nat) (A : Option Addr) (n c : Nat) (er : Ending) (x : Int × Nat × Int) : Prop :=
  er = .returned (.int .i64 x.1) ∧ CuRow T w' g A n c x.2.1 x.2.2 ∧ w.grownBy w' (some g)
theorem look_zero {l : List UInt8} {N U : Nat} (h : look l = (N, U, 0)) : N < 9223372036854775808 ∧ U ≤ l.length ∧ 0 < U := by
  obtain ⟨h1, h2, _, h3⟩ := look_ok h
  exact ⟨h1, h2, by rw [h3, enc_length]; omega⟩
theorem look_nz {l : List UInt8} {N U : Nat} {E : Int} (h : look l = (N, U, E)) (hE : E ≠ 0) : E = 2 ∨ E = 3 := by
  rcases look_cases l with ⟨a, b, h1⟩ | h1 | h1 <;> rw [h1] at h <;> simp only [Prod.mk.injEq] at h
  · exact absurd h.2.2.symm hE
  · exact .inl h.2.2.symm
  · exact .inr h.2.2.symm

set_option maxHeartbeats 2000000 in
theorem cnum_any (g : Nat) (A : Option Addr) (l : List UInt8) (n c p : Nat) (e least most : Int) (hn : l.length = n) (hc : n ≤ c) (hL : n ≤ 1099511627776) (hp : p ≤ n)
    (w : World) (h : CuRow 54 w g A n c p e) (hb : Byt w g A l) :
    Calls Try.prog 49 #[.pointer (some ⟨g, 0, none⟩), .int .i64 least, .int .i64 most] w fun er w' => Step 54 w w' g A n c er (numStep l p e least most) := by
  have h0 := h.c0
  have h1 := h.c1
  have h2 := h.c2
  have f1 := h.f 1
  have H := hid h
  by_cases he : e ≠ 0
  · have HE : Hid (numStep l p e least most = (0, p, e)) := hid (by unfold numStep; rw [if_pos he])
    clear h hb
    go_enter Try.func49, Try.ntmps49
    go_wp2
    go_ret
    rw [HE.out]
    exact ⟨rfl, H.out, World.grownBy.refl _ _⟩
  obtain rfl : e = 0 := by omega
  obtain ⟨N, U, E, hlk⟩ : ∃ N U E, look (l.drop p) = (N, U, E) := ⟨_, _, _, rfl⟩
  obtain ⟨B, hB⟩ : ∃ B, B = (if c = p then A else A.map (·.add p)) := ⟨_, rfl⟩
  have hcut : Byt w w.heap.size B (l.drop p) := by
    have := hb.cut (lo := p) (hi := n) (cap := c) hp (by omega) (by omega)
    rw [List.take_of_length_le (by omega), ← hB] at this
    exact this.more (Nat.le_of_lt h.lt)
  have HD := hid (fun k => decoded_any B (l.drop p) (n - p) (c - p) (by rw [List.length_drop]; omega) (by omega) (by omega) (w.drewN k) (hcut.drewN k))
  rw [hlk] at HD
  unfold tup3 at HD
  have eB := hB.symm
  have HS : Hid (numStep l p 0 least most = if E ≠ 0 then (0, p, E) else if (N : Int) < least ∨ most < (N : Int) then (0, p, 2) else ((N : Int), p + U, 0)) := hid (by
    unfold numStep; rw [if_neg (by simp), hlk])
  have HLK := hid hlk
  have hEc : E = 0 ∨ E ≠ 0 := by omega
  have hUb : E = 0 → N < 9223372036854775808 ∧ p + U ≤ n := by
    rintro rfl
    have := look_zero hlk
    rw [List.length_drop] at this
    omega
  have hpc : (p : Int) ≤ (n : Int) := by omega
  have hnc : (n : Int) ≤ (c : Int) := by omega
  clear h hb hB hcut hlk he hn
  go_enter Try.func49, Try.ntmps49
  go_wp2_with fail
  go_quiet ((go_at_call 52; exact quiet_left (HD.out _)))
  have HF := hid (fun (z : Int) => fail_any g A n c p 0 z (w.drewN nq) (H.out.drewN nq))
  have HG := hid (grown_drewN w nq (some g))
  by_cases hE : E = 0
  · subst hE
    obtain ⟨hN, hU⟩ := hUb rfl
    clear hUb hEc
    by_cases hlo : (N : Int) < least
    · have HR : Hid (numStep l p 0 least most = (0, p, 2)) := hid (by rw [HS.out, if_neg (by simp), if_pos (.inl hlo)])
      go_wp2_with fail
      refine (HF.out _).mono ?_
      rintro er w2 ⟨rfl, hc2, hg2⟩
      have HC2 := hid hc2
      have HG2 := hid (HG.out.trans hg2)
      clear hc2 hg2
      go_wp2
      go_ret
      rw [HR.out]
      exact ⟨rfl, HC2.out, HG2.out⟩
    · by_cases hhi : most < (N : Int)
      · have HR : Hid (numStep l p 0 least most = (0, p, 2)) := hid (by rw [HS.out, if_neg (by simp), if_pos (.inr hhi)])
        go_wp2_with fail
        refine (HF.out _).mono ?_
        rintro er w2 ⟨rfl, hc2, hg2⟩
        have HC2 := hid hc2
        have HG2 := hid (HG.out.trans hg2)
        clear hc2 hg2
        go_wp2
        go_ret
        rw [HR.out]
        exact ⟨rfl, HC2.out, HG2.out⟩
      · have HR : Hid (numStep l p 0 least most = ((N : Int), p + U, 0)) := hid (by rw [HS.out, if_neg (by simp), if_neg (by omega)])
        have hpU : (p : Int) + (U : Int) ≤ 1099511627776 := by omega
        go_wp2
        go_ret
        rw [HR.out]
        exact ⟨rfl, (H.out.drewN nq).set1 (p + U) (by simp), HG.out.trans (grown_set _ _ _ _)⟩
  · have HR : Hid (numStep l p 0 least most = (0, p, E)) := hid (by rw [HS.out, if_pos hE])
    clear hUb hEc
    go_wp2_with fail
    refine (HF.out _).mono ?_
    rintro er w2 ⟨rfl, hc2, hg2⟩
    have HC2 := hid hc2
    have HG2 := hid (HG.out.trans hg2)
    clear hc2 hg2
    go_wp2
    go_ret
    rw [HR.out]
    exact ⟨rfl, HC2.out, HG2.out⟩
end Go.Proofs.Ytkaakbgpkpkeeaa.Sh
