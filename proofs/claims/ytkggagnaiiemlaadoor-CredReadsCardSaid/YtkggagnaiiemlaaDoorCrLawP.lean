/-
  The walk of CredPuts.
-/
import Derived.Test.YtkggagnaiiemlaaDoorCrLawB
namespace Go.Proofs.YtkggagnaiiemlaaDoor.Sh
open Go Go.RowKit

theorem PutsE.no {w w' : World} {e : Ending} {l : List UInt8} {c : Crd} (h : PutsE w w' e l c) (hm : mayC c = false) : e = .returned (.tuple #[.slice none 0 0, .int .i64 11]) ∧ Below w.heap.size w w' := by
  rcases h with ⟨_, h1, h2⟩ | ⟨h, _⟩
  · exact ⟨h1, h2⟩
  · rw [hm] at h; cases h
theorem PutsE.yes {w w' : World} {e : Ending} {l : List UInt8} {c : Crd} (h : PutsE w w' e l c) (hm : mayC c = true) :
    ∃ A N k, e = .returned (.tuple #[.slice A N k, .int .i64 0]) ∧ (l ++ putC c).length = N ∧ N = l.length + (putC c).length ∧ N ≤ k ∧ k ≤ 9223372036854775807 ∧ Byt w' w'.heap.size A (l ++ putC c) ∧ Below w.heap.size w w' := by
  rcases h with ⟨h, _⟩ | ⟨_, A, N, k, h1, A', k', N', he, h2, h3, h4, h5, h6⟩
  · rw [hm] at h; cases h
  · simp only [Ending.returned.injEq, Value.slice.injEq] at he
    obtain ⟨rfl, rfl, rfl⟩ := he
    exact ⟨A, N, k, h1, by rw [h2, List.length_append], h2, h3, h4, h5.byt, h6⟩
theorem putC_len {c : Crd} (h : mayC c = true) : (putC c).length ≤ 120 := by
  obtain ⟨g1, g2, g3, g4, _⟩ := may_head h
  obtain ⟨m1, m2, m3, m4, m5, m6⟩ := may_sizes h
  have a1 := enc_len_le (n := c.d.toNat) (by omega)
  have a2 := enc_len_le (n := c.q.toNat) (by omega)
  have a3 := encText_le c.nm m1
  have hk := may_kind h
  have a4 := enc_len_le (n := c.kd.toNat) (by rcases hk with k | k | k | k <;> omega)
  have a5 : (putBody c).length ≤ 60 := by
    rcases hk with ⟨k, -⟩ | ⟨k, -⟩ | ⟨k, -⟩ | ⟨k, -⟩
    · rw [putBody_1 k]; have := encText_le c.wh m2; omega
    · rw [putBody_2 k]; have := putR_le c.ao c.an m4; omega
    · rw [putBody_3 k, List.length_append]; have := encText_le c.an m4; have := encText_le c.bn m6; omega
    · rw [putBody_4 k, List.length_append]; have := putR_le c.ao c.an m4; have := putR_le c.bo c.bn m6; omega
  unfold putC
  simp only [List.length_append]
  omega

set_option maxHeartbeats 8000000 in
theorem credPuts_walk (A : Option Addr) (l : List UInt8) (n k : Nat) (hn : l.length = n) (hk : n ≤ k) (hk2 : k ≤ 9223372036854775807) (c : Crd) (w : World) (hb : Byt w w.heap.size A l) :
    Calls Tryd.prog 4 #[.slice A n k, .agg c.cells.toArray] w fun e w' => e = .returned (.bool true) ∧ Below w.heap.size w w' := by
  obtain ⟨w0, hw0⟩ : ∃ w0, w0 = w.alloc (.cells c.cells.toArray 27) := ⟨_, rfl⟩
  have r0 : CrAt w0 w.heap.size c := by rw [hw0]; exact CrAt.new w c
  have b0 : Below w.heap.size w w0 := by rw [hw0]; exact below_cr w c
  have y0' := (hb.below b0).more b0.size
  by_cases h20 : 20 < n
  · have hN : (l.take 20).length = 20 := by rw [List.length_take]; omega
    have y0 := y0'.head (hi := 20)
    have h20' : (20 : Int) < (n : Int) := by omega
    have h20k : 20 ≤ k := by omega
    have P1 := hid (fun w1 (hy : Byt w1 w1.heap.size A (l.take 20)) => putC_any A (l.take 20) c 20 k hN (by omega) w1 hy)
    have P2 := hid (fun w1 (hy : Byt w1 w1.heap.size A (l.take 20)) => refPutC_any A (l.take 20) c 20 k hN (by omega) w1 hy)
    have HN := hid hN
    clear hb hn y0'
    cases hm : mayC c with
    | false =>
      have HM := hid hm
      clear hm
      obtain ⟨d, q, nm, kd, wh, ao, an, bo, bn⟩ := c
      unfold Crd.cells at hw0 P1 P2 ⊢
      simp only at hw0 P1 P2 ⊢
      obtain ⟨c0, c1, c2, c3, c4, c5, c6, c7, c8⟩ := r0.all
      rw [hw0] at c0 c1 c2 c3 c4 c5 c6 c7 c8
      go_enter Tryd.func4, Tryd.ntmps4
      go_wp2_with fail
      rw [← hw0] at c0 c1 c2 c3 c4 c5 c6 c7 c8 ⊢
      clear hw0
      refine (P1.out w0 y0).mono ?_
      rintro er w1 hP
      obtain ⟨rfl, bb⟩ := hP.no HM.out
      have r1 := r0.kept bb
      have b1 := b0.trans (bb.mono b0.size)
      have y1 := (y0.below bb).more bb.size
      clear hP bb r0 b0 y0 c0 c1 c2 c3 c4 c5 c6 c7 c8
      obtain ⟨c0, c1, c2, c3, c4, c5, c6, c7, c8⟩ := r1.all
      go_wp2_with fail
      refine (P2.out w1 y1).mono ?_
      rintro er w2 hP
      obtain ⟨rfl, bb⟩ := hP.no HM.out
      have b2 := b1.trans (bb.mono b1.size)
      clear hP bb r1 b1 y1 c0 c1 c2 c3 c4 c5 c6 c7 c8
      go_wp2_with fail
      refine (same_eq none none [] 0 0 0 rfl (by omega) w2 Byt.nil Byt.nil).mono ?_
      rintro er w3 ⟨rfl, hq⟩
      have b3 : Below w.heap.size w w3 := by obtain ⟨q, rfl⟩ := hq; exact below_drewN b2 q
      clear hq b2
      go_wp2_with fail
      refine (lives_any w3).mono ?_
      rintro er w4 ⟨rfl, bb⟩
      go_wp2
      go_ret
      exact ⟨rfl, b3.trans (bb.mono b3.size)⟩
    | true =>
      have HM := hid hm
      have HPL := hid (putC_len hm)
      clear hm
      obtain ⟨d, q, nm, kd, wh, ao, an, bo, bn⟩ := c
      unfold Crd.cells at hw0 P1 P2 ⊢
      simp only at hw0 P1 P2 ⊢
      obtain ⟨c0, c1, c2, c3, c4, c5, c6, c7, c8⟩ := r0.all
      rw [hw0] at c0 c1 c2 c3 c4 c5 c6 c7 c8
      go_enter Tryd.func4, Tryd.ntmps4
      go_wp2_with fail
      rw [← hw0] at c0 c1 c2 c3 c4 c5 c6 c7 c8 ⊢
      clear hw0
      refine (P1.out w0 y0).mono ?_
      rintro er w1 hP
      obtain ⟨A1, N1, k1, rfl, hl1, -, -, -, z1, bb⟩ := hP.yes HM.out
      have r1 := r0.kept bb
      have b1 := b0.trans (bb.mono b0.size)
      have y1 := (y0.below bb).more bb.size
      have HL1 := hid hl1
      clear hP bb r0 b0 y0 c0 c1 c2 c3 c4 c5 c6 c7 c8 hl1
      obtain ⟨c0, c1, c2, c3, c4, c5, c6, c7, c8⟩ := r1.all
      go_wp2_with fail
      refine (P2.out w1 y1).mono ?_
      rintro er w2 hP
      obtain ⟨A2, N2, k2, rfl, hl2, -, -, -, z2, bb⟩ := hP.yes HM.out
      obtain rfl : N2 = N1 := by rw [← hl2, HL1.out]
      have b2 := b1.trans (bb.mono b1.size)
      have z1' := (z1.below bb).more bb.size
      have SM := hid (same_eq A1 A2 _ N2 k1 k2 hl2 (by rw [← hl2, List.length_append, HN.out]; have := HPL.out; omega) w2 z1' z2)
      clear hP bb r1 b1 y1 c0 c1 c2 c3 c4 c5 c6 c7 c8 hl2 z1 z1' z2
      go_wp2_with fail
      refine SM.out.mono ?_
      rintro er w3 ⟨rfl, hq⟩
      have b3 : Below w.heap.size w w3 := by obtain ⟨q, rfl⟩ := hq; exact below_drewN b2 q
      clear hq b2
      go_wp2_with fail
      refine (lives_any w3).mono ?_
      rintro er w4 ⟨rfl, bb⟩
      go_wp2
      go_ret
      exact ⟨rfl, b3.trans (bb.mono b3.size)⟩
  · have hN : l.length = n := hn
    have y0 := y0'
    have h20' : ¬ (20 : Int) < (n : Int) := by omega
    have P1 := hid (fun w1 (hy : Byt w1 w1.heap.size A l) => putC_any A l c n k hN (by omega) w1 hy)
    have P2 := hid (fun w1 (hy : Byt w1 w1.heap.size A l) => refPutC_any A l c n k hN (by omega) w1 hy)
    have HN := hid hN
    clear hb hn y0'
    cases hm : mayC c with
    | false =>
      have HM := hid hm
      clear hm
      obtain ⟨d, q, nm, kd, wh, ao, an, bo, bn⟩ := c
      unfold Crd.cells at hw0 P1 P2 ⊢
      simp only at hw0 P1 P2 ⊢
      obtain ⟨c0, c1, c2, c3, c4, c5, c6, c7, c8⟩ := r0.all
      rw [hw0] at c0 c1 c2 c3 c4 c5 c6 c7 c8
      go_enter Tryd.func4, Tryd.ntmps4
      go_wp2_with fail
      rw [← hw0] at c0 c1 c2 c3 c4 c5 c6 c7 c8 ⊢
      clear hw0
      refine (P1.out w0 y0).mono ?_
      rintro er w1 hP
      obtain ⟨rfl, bb⟩ := hP.no HM.out
      have r1 := r0.kept bb
      have b1 := b0.trans (bb.mono b0.size)
      have y1 := (y0.below bb).more bb.size
      clear hP bb r0 b0 y0 c0 c1 c2 c3 c4 c5 c6 c7 c8
      obtain ⟨c0, c1, c2, c3, c4, c5, c6, c7, c8⟩ := r1.all
      go_wp2_with fail
      refine (P2.out w1 y1).mono ?_
      rintro er w2 hP
      obtain ⟨rfl, bb⟩ := hP.no HM.out
      have b2 := b1.trans (bb.mono b1.size)
      clear hP bb r1 b1 y1 c0 c1 c2 c3 c4 c5 c6 c7 c8
      go_wp2_with fail
      refine (same_eq none none [] 0 0 0 rfl (by omega) w2 Byt.nil Byt.nil).mono ?_
      rintro er w3 ⟨rfl, hq⟩
      have b3 : Below w.heap.size w w3 := by obtain ⟨q, rfl⟩ := hq; exact below_drewN b2 q
      clear hq b2
      go_wp2_with fail
      refine (lives_any w3).mono ?_
      rintro er w4 ⟨rfl, bb⟩
      go_wp2
      go_ret
      exact ⟨rfl, b3.trans (bb.mono b3.size)⟩
    | true =>
      have HM := hid hm
      have HPL := hid (putC_len hm)
      clear hm
      obtain ⟨d, q, nm, kd, wh, ao, an, bo, bn⟩ := c
      unfold Crd.cells at hw0 P1 P2 ⊢
      simp only at hw0 P1 P2 ⊢
      obtain ⟨c0, c1, c2, c3, c4, c5, c6, c7, c8⟩ := r0.all
      rw [hw0] at c0 c1 c2 c3 c4 c5 c6 c7 c8
      go_enter Tryd.func4, Tryd.ntmps4
      go_wp2_with fail
      rw [← hw0] at c0 c1 c2 c3 c4 c5 c6 c7 c8 ⊢
      clear hw0
      refine (P1.out w0 y0).mono ?_
      rintro er w1 hP
      obtain ⟨A1, N1, k1, rfl, hl1, -, -, -, z1, bb⟩ := hP.yes HM.out
      have r1 := r0.kept bb
      have b1 := b0.trans (bb.mono b0.size)
      have y1 := (y0.below bb).more bb.size
      have HL1 := hid hl1
      clear hP bb r0 b0 y0 c0 c1 c2 c3 c4 c5 c6 c7 c8 hl1
      obtain ⟨c0, c1, c2, c3, c4, c5, c6, c7, c8⟩ := r1.all
      go_wp2_with fail
      refine (P2.out w1 y1).mono ?_
      rintro er w2 hP
      obtain ⟨A2, N2, k2, rfl, hl2, -, -, -, z2, bb⟩ := hP.yes HM.out
      obtain rfl : N2 = N1 := by rw [← hl2, HL1.out]
      have b2 := b1.trans (bb.mono b1.size)
      have z1' := (z1.below bb).more bb.size
      have SM := hid (same_eq A1 A2 _ N2 k1 k2 hl2 (by rw [← hl2, List.length_append, HN.out]; have := HPL.out; omega) w2 z1' z2)
      clear hP bb r1 b1 y1 c0 c1 c2 c3 c4 c5 c6 c7 c8 hl2 z1 z1' z2
      go_wp2_with fail
      refine SM.out.mono ?_
      rintro er w3 ⟨rfl, hq⟩
      have b3 : Below w.heap.size w w3 := by obtain ⟨q, rfl⟩ := hq; exact below_drewN b2 q
      clear hq b2
      go_wp2_with fail
      refine (lives_any w3).mono ?_
      rintro er w4 ⟨rfl, bb⟩
      go_wp2
      go_ret
      exact ⟨rfl, b3.trans (bb.mono b3.size)⟩
end Go.Proofs.YtkggagnaiiemlaaDoor.Sh
