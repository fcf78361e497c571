/-
  The document's own PutRole and Put of a credential.
-/
import Derived.Test.YtkggagnaiiemlaaDoorCrRefT
namespace Go.Proofs.YtkggagnaiiemlaaDoor.Sh
open Go Go.RowKit

theorem Puts.open {w w' : World} {e : Ending} {l k : List UInt8} (h : Puts w w' e l k) : ∃ A c N, e = .returned (.slice A N c) ∧ (l ++ k).length = N ∧ N = l.length + k.length ∧ Byt w' w'.heap.size A (l ++ k) ∧ Below w.heap.size w w' := by
  obtain ⟨A, c, N, h1, h2, h3, h4, h5, h6⟩ := h
  exact ⟨A, c, N, h1, by rw [h2, List.length_append], h2, h5.byt, h6⟩
theorem Puts.then {w w1 w2 : World} {e1 e2 : Ending} {l k1 k2 : List UInt8} (h1 : Puts w w1 e1 l k1) (h2 : Puts w1 w2 e2 (l ++ k1) k2) : Puts w w2 e2 l (k1 ++ k2) := by
  obtain ⟨_, _, _, _, _, _, _, _, b1⟩ := h1
  obtain ⟨A, c, N, g1, g2, g3, g4, g5, g6⟩ := h2
  exact ⟨A, c, N, g1, by rw [g2]; simp; omega, g3, g4, by rw [← List.append_assoc]; exact g5.mono b1.size, b1.trans (g6.mono b1.size)⟩
theorem Puts.from {w w0 w1 : World} {e : Ending} {l k : List UInt8} (b : Below w.heap.size w w0) (h : Puts w0 w1 e l k) : Puts w w1 e l k := by
  obtain ⟨A, c, N, g1, g2, g3, g4, g5, g6⟩ := h
  exact ⟨A, c, N, g1, g2, g3, g4, g5.mono b.size, b.trans (g6.mono b.size)⟩
theorem Puts.bel {w w' : World} {e : Ending} {l k : List UInt8} (h : Puts w w' e l k) : Below w.heap.size w w' := by
  obtain ⟨_, _, _, _, _, _, _, _, b⟩ := h; exact b
theorem Puts.below {w w1 w2 : World} {e : Ending} {l k : List UInt8} (h : Puts w w1 e l k) (b : Below w1.heap.size w1 w2) : Puts w w2 e l k := by
  obtain ⟨A, c, N, g1, g2, g3, g4, g5, g6⟩ := h
  exact ⟨A, c, N, g1, g2, g3, g4, OwnB.below g5 b, g6.trans (b.mono g6.size)⟩
theorem numL_lt (l : List UInt8) : numL l ≤ 16 := by
  by_cases h : numL l = 0
  · omega
  · exact (domL_numL l h).2.2

set_option maxHeartbeats 2000000 in
theorem refPutRole_any (A : Option Addr) (l : List UInt8) (o s : ByteArray) (n c : Nat) (hn : l.length = n) (hL : n ≤ 1099511620000) (hs : s.size ≤ 1000) (w : World) (hb : Byt w w.heap.size A l) :
    Calls Tryd.prog 49 #[.slice A n c, .agg #[.string o, .string s]] w fun e w' => Puts w w' e l (putR o s) := by
  have HN := hid (fun w => refNnum_any o w)
  have hk16 := numL_lt o.data.toList
  obtain ⟨k, hk⟩ : ∃ k, numL o.data.toList = k := ⟨_, rfl⟩
  have HE : Hid (putR o s = enc k ++ encText s) := hid (by rw [putR, hk])
  rw [hk] at HN hk16
  clear hk
  obtain ⟨w0, hw0⟩ : ∃ w0, w0 = w.alloc (.cells #[.string o, .string s] 25) := ⟨_, rfl⟩
  have r0 : RoleAt w0 w.heap.size o s := by rw [hw0]; exact RoleAt.new w o s
  have b0 : Below w.heap.size w w0 := by rw [hw0]; exact below_box w o s
  have y0 := (hb.below b0).more b0.size
  have B0 := hid b0
  go_enter Tryd.func49, Tryd.ntmps49
  go_wp2_with fail
  rw [← hw0]
  clear hw0
  refine (HN.out _).mono ?_
  rintro er w1 ⟨rfl, rfl⟩
  go_wp2_with fail
  refine (refNumber_any A l (k : Int) n c hn (by omega) (by omega) (by omega) w0 y0).mono ?_
  rintro er w1 hP
  obtain ⟨A1, c1, N1, rfl, hl1, hN1, y1, b1⟩ := hP.open
  have r1 := r0.kept b1
  have q0 := r1.c0
  have q1 := r1.c1
  have P1 := hid hP
  have HX := hid hl1
  have hN1' : N1 ≤ n + 9 := by have := enc_len_le (n := k) (by omega); rw [hN1, hn]; simp at *; omega
  clear hP r0 b0 y0 hb r1 b1 hN1 hl1
  go_wp2_with fail
  refine (refText_any A1 _ s N1 c1 HX.out (by omega) (by omega) w1 y1).mono ?_
  rintro er w2 hP
  obtain ⟨A2, c2, N2, rfl, hl2, hN2, y2, b2⟩ := hP.open
  have P2 := hid hP
  clear hP b2 y2 hN2 hl2 q0 q1 y1
  go_wp2
  go_ret
  rw [HE.out]
  have := P1.out.then P2.out
  exact this.from B0.out

/-- A credential put, or refused. -/
def PutsE (w w' : World) (e : Ending) (l : List UInt8) (c : Crd) : Prop :=
  (mayC c = false ∧ e = .returned (.tuple #[.slice none 0 0, .int .i64 11]) ∧ Below w.heap.size w w') ∨
  (mayC c = true ∧ ∃ A N k, e = .returned (.tuple #[.slice A N k, .int .i64 0]) ∧ Puts w w' (.returned (.slice A N k)) l (putC c))
theorem encText_le (s : ByteArray) (h : s.size ≤ 8) : (encText s).length ≤ 17 := by
  have := enc_len_le (n := s.size) (by omega)
  rw [encText_length]; omega
theorem putR_le (o s : ByteArray) (h : s.size ≤ 8) : (putR o s).length ≤ 30 := by
  have h1 := encText_le s h
  have h2 := numL_lt o.data.toList
  have := enc_len_le (n := numL o.data.toList) (by omega)
  rw [putR, List.length_append]; omega
set_option maxHeartbeats 8000000 in
theorem refPutC_any (A : Option Addr) (l : List UInt8) (cr : Crd) (n c : Nat) (hn : l.length = n) (hL : n ≤ 1099511600000) (w : World) (hb : Byt w w.heap.size A l) :
    Calls Tryd.prog 19 #[.slice A n c, .agg cr.cells.toArray] w fun e w' => PutsE w w' e l cr := by
  obtain ⟨b, hbm⟩ : ∃ b, mayC cr = b := ⟨_, rfl⟩
  have HM := hid (fun w => hbm ▸ refMayC_any cr w)
  obtain ⟨w0, hw0⟩ : ∃ w0, w0 = w.alloc (.cells cr.cells.toArray 27) := ⟨_, rfl⟩
  have r0 : CrAt w0 w.heap.size cr := by rw [hw0]; exact CrAt.new w cr
  have b0 : Below w.heap.size w w0 := by rw [hw0]; exact below_cr w cr
  have HB := hid hbm
  clear hbm
  obtain ⟨d, q, nm, kd, wh, ao, an, bo, bn⟩ := cr
  unfold Crd.cells at hw0 HM ⊢
  simp only at hw0 HM ⊢
  go_enter Tryd.func19, Tryd.ntmps19
  obtain ⟨c0, c1, c2, c3, c4, c5, c6, c7, c8⟩ := r0.all
  rw [hw0] at c0 c1 c2 c3 c4 c5 c6 c7 c8
  go_wp2_with fail
  rw [← hw0] at c0 c1 c2 c3 c4 c5 c6 c7 c8 ⊢
  clear hw0
  refine (HM.out w0).mono ?_
  rintro er w1 ⟨rfl, bb⟩
  have r1 := r0.kept bb
  have b1 := b0.trans (bb.mono b0.size)
  clear bb c0 c1 c2 c3 c4 c5 c6 c7 c8 r0 b0
  cases b with
  | false =>
    go_wp2
    go_ret2
    exact .inl ⟨HB.out, rfl, b1⟩
  | true =>
    obtain ⟨m1, m2, m3, m4, m5, m6⟩ := may_sizes HB.out
    obtain ⟨g1, g2, g3, g4, _⟩ := may_head HB.out
    have hk := may_kind HB.out
    simp only at m1 m2 m3 m4 m5 m6 g1 g2 g3 g4 hk
    have hkk : 1 ≤ kd ∧ kd ≤ 4 := by rcases hk with k | k | k | k <;> omega
    obtain ⟨c0, c1, c2, c3, c4, c5, c6, c7, c8⟩ := r1.all
    have y1 := (hb.below b1).more b1.size
    have B1 := hid b1
    clear b1 hb
    go_wp2_with fail
    refine (refNumber_any A l d n c hn (by omega) (by omega) (by omega) w1 y1).mono ?_
    rintro er w2 hP
    obtain ⟨A2, k2, N2, rfl, hl2, hN2, y2, b2⟩ := hP.open
    have r2 := r1.kept b2
    have P2 := hid (hP.from B1.out)
    have hX2 : N2 ≤ n + 30 := by have := enc_len_le (n := (d).toNat) (by omega); rw [hN2]; rw [hn]; omega
    have HX2 := hid hl2
    clear hP c0 c1 c2 c3 c4 c5 c6 c7 c8 hN2 hl2 b2 y1 r1
    obtain ⟨c0, c1, c2, c3, c4, c5, c6, c7, c8⟩ := r2.all
    go_wp2_with fail
    refine (refNumber_any A2 _ q N2 k2 HX2.out (by omega) (by omega) (by omega) w2 y2).mono ?_
    rintro er w3 hP
    obtain ⟨A3, k3, N3, rfl, hl3, hN3, y3, b3⟩ := hP.open
    have r3 := r2.kept b3
    have P3 := hid (P2.out.then (by simpa only [List.append_assoc] using hP))
    have hX3 : N3 ≤ N2 + 30 := by have := enc_len_le (n := (q).toNat) (by omega); rw [hN3]; rw [HX2.out]; omega
    have HX3 := hid hl3
    clear hP c0 c1 c2 c3 c4 c5 c6 c7 c8 hN3 hl3 b3 y2 r2
    obtain ⟨c0, c1, c2, c3, c4, c5, c6, c7, c8⟩ := r3.all
    go_wp2_with fail
    refine (refText_any A3 _ nm N3 k3 HX3.out (by omega) (by omega) w3 y3).mono ?_
    rintro er w4 hP
    obtain ⟨A4, k4, N4, rfl, hl4, hN4, y4, b4⟩ := hP.open
    have r4 := r3.kept b4
    have P4 := hid (P3.out.then (by simpa only [List.append_assoc] using hP))
    have hX4 : N4 ≤ N3 + 30 := by have := encText_le nm (by omega); rw [hN4]; rw [HX3.out]; omega
    have HX4 := hid hl4
    clear hP c0 c1 c2 c3 c4 c5 c6 c7 c8 hN4 hl4 b4 y3 r3
    obtain ⟨c0, c1, c2, c3, c4, c5, c6, c7, c8⟩ := r4.all
    go_wp2_with fail
    refine (refNumber_any A4 _ kd N4 k4 HX4.out (by omega) (by omega) (by omega) w4 y4).mono ?_
    rintro er w5 hP
    obtain ⟨A5, k5, N5, rfl, hl5, hN5, y5, b5⟩ := hP.open
    have r5 := r4.kept b5
    have P5 := hid (P4.out.then (by simpa only [List.append_assoc] using hP))
    have hX5 : N5 ≤ N4 + 30 := by have := enc_len_le (n := (kd).toNat) (by omega); rw [hN5]; rw [HX4.out]; omega
    have HX5 := hid hl5
    clear hP c0 c1 c2 c3 c4 c5 c6 c7 c8 hN5 hl5 b5 y4 r4
    obtain ⟨c0, c1, c2, c3, c4, c5, c6, c7, c8⟩ := r5.all
    rcases hk with ⟨rfl, -⟩ | ⟨rfl, -⟩ | ⟨rfl, -⟩ | ⟨rfl, -⟩
    · go_wp2_with fail
      refine (refText_any A5 _ wh N5 k5 HX5.out (by omega) (by omega) w5 y5).mono ?_
      rintro er w6 hP
      obtain ⟨A6, k6, N6, rfl, hl6, hN6, y6, b6⟩ := hP.open
      have r6 := r5.kept b6
      have P6 := hid (P5.out.then (by simpa only [List.append_assoc] using hP))
      have hX6 : N6 ≤ N5 + 30 := by have := encText_le wh (by omega); rw [hN6]; rw [HX5.out]; omega
      have HX6 := hid hl6
      clear hP c0 c1 c2 c3 c4 c5 c6 c7 c8 hN6 hl6 b6 y5 r5
      obtain ⟨c0, c1, c2, c3, c4, c5, c6, c7, c8⟩ := r6.all
      go_wp2
      go_ret2
      refine .inr ⟨HB.out, _, _, _, rfl, ?_⟩
      have hh := P6.out
      unfold putC
      rw [putBody_1 rfl]
      simpa only [List.append_assoc] using hh
    · go_wp2_with fail
      refine (refPutRole_any A5 _ ao an N5 k5 HX5.out (by omega) (by omega) w5 y5).mono ?_
      rintro er w6 hP
      obtain ⟨A6, k6, N6, rfl, hl6, hN6, y6, b6⟩ := hP.open
      have r6 := r5.kept b6
      have P6 := hid (P5.out.then (by simpa only [List.append_assoc] using hP))
      have hX6 : N6 ≤ N5 + 30 := by have := putR_le ao an (by omega); rw [hN6]; rw [HX5.out]; omega
      have HX6 := hid hl6
      clear hP c0 c1 c2 c3 c4 c5 c6 c7 c8 hN6 hl6 b6 y5 r5
      obtain ⟨c0, c1, c2, c3, c4, c5, c6, c7, c8⟩ := r6.all
      go_wp2
      go_ret2
      refine .inr ⟨HB.out, _, _, _, rfl, ?_⟩
      have hh := P6.out
      unfold putC
      rw [putBody_2 rfl]
      simpa only [List.append_assoc] using hh
    · go_wp2_with fail
      refine (refText_any A5 _ an N5 k5 HX5.out (by omega) (by omega) w5 y5).mono ?_
      rintro er w6 hP
      obtain ⟨A6, k6, N6, rfl, hl6, hN6, y6, b6⟩ := hP.open
      have r6 := r5.kept b6
      have P6 := hid (P5.out.then (by simpa only [List.append_assoc] using hP))
      have hX6 : N6 ≤ N5 + 30 := by have := encText_le an (by omega); rw [hN6]; rw [HX5.out]; omega
      have HX6 := hid hl6
      clear hP c0 c1 c2 c3 c4 c5 c6 c7 c8 hN6 hl6 b6 y5 r5
      obtain ⟨c0, c1, c2, c3, c4, c5, c6, c7, c8⟩ := r6.all
      go_wp2_with fail
      refine (refText_any A6 _ bn N6 k6 HX6.out (by omega) (by omega) w6 y6).mono ?_
      rintro er w7 hP
      obtain ⟨A7, k7, N7, rfl, hl7, hN7, y7, b7⟩ := hP.open
      have r7 := r6.kept b7
      have P7 := hid (P6.out.then (by simpa only [List.append_assoc] using hP))
      have hX7 : N7 ≤ N6 + 30 := by have := encText_le bn (by omega); rw [hN7]; rw [HX6.out]; omega
      have HX7 := hid hl7
      clear hP c0 c1 c2 c3 c4 c5 c6 c7 c8 hN7 hl7 b7 y6 r6
      obtain ⟨c0, c1, c2, c3, c4, c5, c6, c7, c8⟩ := r7.all
      go_wp2
      go_ret2
      refine .inr ⟨HB.out, _, _, _, rfl, ?_⟩
      have hh := P7.out
      unfold putC
      rw [putBody_3 rfl]
      simpa only [List.append_assoc] using hh
    · go_wp2_with fail
      refine (refPutRole_any A5 _ ao an N5 k5 HX5.out (by omega) (by omega) w5 y5).mono ?_
      rintro er w6 hP
      obtain ⟨A6, k6, N6, rfl, hl6, hN6, y6, b6⟩ := hP.open
      have r6 := r5.kept b6
      have P6 := hid (P5.out.then (by simpa only [List.append_assoc] using hP))
      have hX6 : N6 ≤ N5 + 30 := by have := putR_le ao an (by omega); rw [hN6]; rw [HX5.out]; omega
      have HX6 := hid hl6
      clear hP c0 c1 c2 c3 c4 c5 c6 c7 c8 hN6 hl6 b6 y5 r5
      obtain ⟨c0, c1, c2, c3, c4, c5, c6, c7, c8⟩ := r6.all
      go_wp2_with fail
      refine (refPutRole_any A6 _ bo bn N6 k6 HX6.out (by omega) (by omega) w6 y6).mono ?_
      rintro er w7 hP
      obtain ⟨A7, k7, N7, rfl, hl7, hN7, y7, b7⟩ := hP.open
      have r7 := r6.kept b7
      have P7 := hid (P6.out.then (by simpa only [List.append_assoc] using hP))
      have hX7 : N7 ≤ N6 + 30 := by have := putR_le bo bn (by omega); rw [hN7]; rw [HX6.out]; omega
      have HX7 := hid hl7
      clear hP c0 c1 c2 c3 c4 c5 c6 c7 c8 hN7 hl7 b7 y6 r6
      obtain ⟨c0, c1, c2, c3, c4, c5, c6, c7, c8⟩ := r7.all
      go_wp2
      go_ret2
      refine .inr ⟨HB.out, _, _, _, rfl, ?_⟩
      have hh := P7.out
      unfold putC
      rw [putBody_4 rfl]
      simpa only [List.append_assoc] using hh
end Go.Proofs.YtkggagnaiiemlaaDoor.Sh
