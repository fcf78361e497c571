/-
  The walks of NamesTexts and NamesRound.
-/
import Derived.Test.YtmoicndlpnbgnaaDoorNaLawA
namespace Go.Proofs.YtmoicndlpnbgnaaDoor.Sh
open Go Go.RowKit

theorem ba_ext {a b : ByteArray} (h : a.data.toList = b.data.toList) : a = b := by
  rw [← Lib.mk_data a, ← Lib.mk_data b, h]
theorem mayL_len {l : List UInt8} (h : mayL l = true) : l.length ≤ 8 := by
  cases l with
  | nil => simp
  | cons x t =>
    rw [mayL_cons] at h
    simp only [Bool.and_eq_true, decide_eq_true_eq] at h
    simp; omega
theorem numL_len {l : List UInt8} (h : numL l ≠ 0) : l.length ≤ 3 := by
  match l with
  | [] | [_] | [_, _] | [_, _, _] => simp
  | _ :: _ :: _ :: _ :: _ => exact absurd rfl h
theorem roleL_len {o n : List UInt8} (h : roleL o n = true) : o.length ≤ 3 ∧ n.length ≤ 8 := by
  unfold roleL at h
  simp only [Bool.and_eq_true, decide_eq_true_eq] at h
  exact ⟨numL_len h.2, mayL_len h.1⟩
theorem readB_text {o n : ByteArray} (h : roleL o.data.toList n.data.toList = true) : readB (textB o n) = (o, n, 0) := by
  unfold readB
  rw [textB_list, readL_text h]
theorem readB_cases (s : ByteArray) : readB s = (⟨#[]⟩, ⟨#[]⟩, 10) ∨ ∃ o n, readB s = (o, n, 0) ∧ textB o n = s ∧ roleL o.data.toList n.data.toList = true := by
  unfold readB
  cases h : readL s.data.toList with
  | none => exact .inl rfl
  | some p =>
    obtain ⟨o, n⟩ := p
    obtain ⟨h1, h2⟩ := readL_some h
    refine .inr ⟨⟨o.toArray⟩, ⟨n.toArray⟩, rfl, ba_ext ?_, by rw [mk_list, mk_list]; exact h2⟩
    rw [textB_list, mk_list, mk_list, h1]
theorem role_fits {o n : ByteArray} (h : roleL o.data.toList n.data.toList = true) : o.size + n.size + 1 ≤ 9223372036854775807 := by
  have := roleL_len h
  rw [size_list, size_list] at this
  omega

set_option maxHeartbeats 4000000 in
theorem namesTexts_walk (o n s : ByteArray) (hm : o.size + n.size + 1 ≤ 9223372036854775807) (hs : s.size ≤ 9223372036854775807) (w : World) :
    Calls Tryd.prog 5 #[.agg #[.string o, .string n], .string s] w fun e w' => e = .returned (.bool true) ∧ Below w.heap.size w w' := by
  have R1 := hid (fun w => read_any s hs w)
  have R2 := hid (fun w => refRead_any s hs w)
  obtain ⟨o1, n1, e1, hr⟩ : ∃ o1 n1 e1, readB s = (o1, n1, e1) := ⟨_, _, _, rfl⟩
  rw [hr] at R1 R2
  clear hr
  go_enter Tryd.func5, Tryd.ntmps5
  obtain ⟨w0, hw0⟩ : ∃ w0, w0 = w.alloc (.cells #[.string o, .string n] 23) := ⟨_, rfl⟩
  have r0 : RoleAt w0 w.heap.size o n := by rw [hw0]; exact RoleAt.new w o n
  have b0 : Below w.heap.size w w0 := by rw [hw0]; exact below_box w o n
  go_wp2_with fail
  rw [← hw0]
  clear hw0
  refine (R1.out w0).mono ?_
  rintro er w1 ⟨rfl, bb⟩
  have r1 := r0.kept bb
  have b1 := b0.trans (bb.mono b0.size)
  unfold roleEnd
  clear r0 b0 bb
  go_wp2_with fail
  obtain ⟨g1, hg1⟩ : ∃ g1, g1 = w1.heap.size := ⟨_, rfl⟩
  obtain ⟨w2, hw2⟩ : ∃ w2, w2 = w1.alloc (.cells #[.string o1, .string n1] 23) := ⟨_, rfl⟩
  have r2 : RoleAt w2 w.heap.size o n := by rw [hw2]; exact r1.kept (below_box _ _ _)
  have a2 : RoleAt w2 g1 o1 n1 := by rw [hw2, hg1]; exact RoleAt.new w1 o1 n1
  have b2 : Below w.heap.size w w2 := by rw [hw2]; exact b1.trans ((below_box w1 o1 n1).mono b1.size)
  rw [← hw2, ← hg1]
  clear hw2 hg1 r1 b1
  refine (R2.out w2).mono ?_
  rintro er w3 ⟨rfl, bb⟩
  have r3 := r2.kept bb
  have a3 := a2.kept bb
  have b3 := b2.trans (bb.mono b2.size)
  unfold roleEnd
  clear r2 a2 b2 bb
  go_wp2_with fail
  obtain ⟨g2, hg2⟩ : ∃ g2, g2 = w3.heap.size := ⟨_, rfl⟩
  obtain ⟨w4, hw4⟩ : ∃ w4, w4 = w3.alloc (.cells #[.string o1, .string n1] 23) := ⟨_, rfl⟩
  have r4 : RoleAt w4 w.heap.size o n := by rw [hw4]; exact r3.kept (below_box _ _ _)
  have a4 : RoleAt w4 g1 o1 n1 := by rw [hw4]; exact a3.kept (below_box _ _ _)
  have c4 : RoleAt w4 g2 o1 n1 := by rw [hw4, hg2]; exact RoleAt.new w3 o1 n1
  have b4 : Below w.heap.size w w4 := by rw [hw4]; exact b3.trans ((below_box w3 o1 n1).mono b3.size)
  rw [← hw4, ← hg2]
  clear hw4 hg2 r3 a3 b3
  have HK := hid (fun W (hW : Below w4.heap.size w4 W) => (⟨(r4.kept hW).c0, (r4.kept hW).c1, (a4.kept hW).c0, (a4.kept hW).c1, (c4.kept hW).c0, (c4.kept hW).c1⟩ : W.cell? ⟨w.heap.size, 0, none⟩ = some (.string o) ∧ W.cell? ⟨w.heap.size, 1, none⟩ = some (.string n) ∧ W.cell? ⟨g1, 0, none⟩ = some (.string o1) ∧ W.cell? ⟨g1, 1, none⟩ = some (.string n1) ∧ W.cell? ⟨g2, 0, none⟩ = some (.string o1) ∧ W.cell? ⟨g2, 1, none⟩ = some (.string n1)))
  have HD := hid (Below.refl w4.heap.size w4).drew
  have H0 := hid b4
  clear r4 a4 c4 b4
  go_region_held3 (fun W => W.cell? ⟨w.heap.size, 0, none⟩ = some (.string o) ∧ W.cell? ⟨w.heap.size, 1, none⟩ = some (.string n) ∧ W.cell? ⟨g1, 0, none⟩ = some (.string o1) ∧ W.cell? ⟨g1, 1, none⟩ = some (.string n1) ∧ W.cell? ⟨g2, 0, none⟩ = some (.string o1) ∧ W.cell? ⟨g2, 1, none⟩ = some (.string n1)) (first | exact HK.out _ B3.out | exact HK.out _ B2.out | exact HK.out _ B1.out | exact HK.out _ HD.out | go_keep) (first
    | (go_at_call 20; (refine (text_names o n hm _).mono ?_); rintro er w5 ⟨rfl, bb⟩; have B1 := hid (kept_trans HD.out HD.out.size bb); clear bb)
    | (go_at_call 21; (refine (refText_names o n hm _).mono ?_); rintro er w6 ⟨rfl, bb⟩; have B2 := hid (kept_trans B1.out B1.out.size bb); clear bb)
    | (go_at_call 15; (refine (lives_any _).mono ?_); rintro er w7 ⟨rfl, bb⟩; have B3 := hid (kept_trans B2.out B2.out.size bb); clear bb)
    | fail)
  all_goals
    go_wp2
    go_ret
    exact ⟨rfl, H0.out.trans (B3.out.mono H0.out.size)⟩

set_option maxHeartbeats 4000000 in
theorem namesRound_walk (o n s : ByteArray) (hs : s.size ≤ 9223372036854775807) (w : World) :
    Calls Tryd.prog 6 #[.agg #[.string o, .string n], .string s] w fun e w' => e = .returned (.bool true) ∧ Below w.heap.size w w' := by
  have R2 := hid (fun w => read_any s hs w)
  have HCASE : Hid (∃ o1 n1 e1, readB s = (o1, n1, e1) ∧ ((o1 = ⟨#[]⟩ ∧ n1 = ⟨#[]⟩ ∧ e1 = 10) ∨ (e1 = 0 ∧ textB o1 n1 = s ∧ roleL o1.data.toList n1.data.toList = true))) := hid (by
    rcases readB_cases s with h | ⟨o1, n1, h, h2⟩
    · exact ⟨_, _, _, h, .inl ⟨rfl, rfl, rfl⟩⟩
    · exact ⟨o1, n1, 0, h, .inr ⟨rfl, h2⟩⟩)
  obtain ⟨o1, n1, e1, hr, hcase⟩ := HCASE.out
  rw [hr] at R2
  have HCASE := hid hcase
  clear hr hcase
  obtain ⟨b, hb⟩ : ∃ b, roleL o.data.toList n.data.toList = b := ⟨_, rfl⟩
  have HR := hid (fun w => hb ▸ role_any o n w)
  obtain ⟨w0, hw0⟩ : ∃ w0, w0 = w.alloc (.cells #[.string o, .string n] 23) := ⟨_, rfl⟩
  have r0 : RoleAt w0 w.heap.size o n := by rw [hw0]; exact RoleAt.new w o n
  have b0 : Below w.heap.size w w0 := by rw [hw0]; exact below_box w o n
  go_enter Tryd.func6, Tryd.ntmps6
  go_wp2_with fail
  rw [← hw0]
  clear hw0
  refine (HR.out w0).mono ?_
  rintro er w1 ⟨rfl, bb⟩
  have r1 := r0.kept bb
  have b1 := b0.trans (bb.mono b0.size)
  clear bb r0 b0
  cases b with
  | false =>
    go_wp2_with fail
    obtain ⟨W0, hW0⟩ : ∃ W0, W0 = w1 := ⟨_, rfl⟩
    rw [← hW0] at b1 ⊢
    have bW0 := b1
    clear b1 hW0 r1
    refine (R2.out W0).mono ?_
    rintro er u1 ⟨rfl, bb⟩
    have b1 := bW0.trans (bb.mono bW0.size)
    unfold roleEnd
    clear bW0 bb
    obtain ⟨g2, hg2⟩ : ∃ g2, g2 = u1.heap.size := ⟨_, rfl⟩
    obtain ⟨u2, hu2⟩ : ∃ u2, u2 = u1.alloc (.cells #[.string o1, .string n1] 23) := ⟨_, rfl⟩
    have a2 : RoleAt u2 g2 o1 n1 := by rw [hu2, hg2]; exact RoleAt.new u1 o1 n1
    have b2 : Below w.heap.size w u2 := by rw [hu2]; exact b1.trans ((below_box u1 o1 n1).mono b1.size)
    have c0 := a2.c0
    have c1 := a2.c1
    rcases HCASE.out with ⟨rfl, rfl, rfl⟩ | ⟨rfl, ht, hr⟩
    · go_wp2_with fail
      rw [← hu2]
      refine (lives_any u2).mono ?_
      rintro er u3 ⟨rfl, bb⟩
      have b3 := b2.trans (bb.mono b2.size)
      go_wp2
      go_ret
      exact ⟨rfl, b3⟩
    · have TX := hid (fun W => ht ▸ text_names o1 n1 (role_fits hr) W)
      have RX := hid (fun W => hr ▸ role_any o1 n1 W)
      clear ht hr
      rw [hu2] at c0 c1
      go_wp2_with fail
      rw [← hu2] at c0 c1
      rw [← hu2]
      refine (TX.out u2).mono ?_
      rintro er u3 ⟨rfl, bb⟩
      have a3 := a2.kept bb
      have b3 := b2.trans (bb.mono b2.size)
      have d0 := a3.c0
      have d1 := a3.c1
      rw [hg2] at d0 d1
      clear bb b2 hu2 c0 c1
      go_wp2_with fail
      refine (RX.out u3).mono ?_
      rintro er u4 ⟨rfl, bb⟩
      have b4 := b3.trans (bb.mono b3.size)
      clear bb b3
      go_wp2_with fail
      refine (lives_any u4).mono ?_
      rintro er u5 ⟨rfl, bb⟩
      have b5 := b4.trans (bb.mono b4.size)
      go_wp2
      go_ret
      exact ⟨rfl, b5⟩
  | true =>
    have RT := hid (fun w => readB_text hb ▸ read_any (textB o n) (by have := role_fits hb; have h2 := textB_list o n; have h3 := congrArg List.length h2; rw [size_list, List.length_append, List.length_cons, size_list, size_list] at h3; omega) w)
    have TT := hid (fun w => text_names o n (role_fits hb) w)
    have k0 := r1.c0
    have k1 := r1.c1
    clear hb
    go_wp2_with fail
    refine (TT.out w1).mono ?_
    rintro er w2 ⟨rfl, bb⟩
    have r2 := r1.kept bb
    have b2 := b1.trans (bb.mono b1.size)
    clear bb r1 b1 k0 k1
    go_wp2_with fail
    refine (RT.out w2).mono ?_
    rintro er w3 ⟨rfl, bb⟩
    have r3 := r2.kept bb
    have b3 := b2.trans (bb.mono b2.size)
    unfold roleEnd
    clear bb r2 b2
    obtain ⟨W0, hW0⟩ : ∃ W0, W0 = w3.alloc (.cells #[.string o, .string n] 23) := ⟨_, rfl⟩
    have r4 := r3.kept (below_box w3 o n)
    have a4 := RoleAt.new w3 o n
    have bW0 : Below w.heap.size w W0 := by rw [hW0]; exact b3.trans ((below_box w3 o n).mono b3.size)
    have k0 := r4.c0
    have k1 := r4.c1
    have m0 := a4.c0
    have m1 := a4.c1
    go_wp2_with fail
    rw [← hW0]
    clear hW0 r3 b3 r4 a4 k0 k1 m0 m1
    refine (R2.out W0).mono ?_
    rintro er u1 ⟨rfl, bb⟩
    have b1 := bW0.trans (bb.mono bW0.size)
    unfold roleEnd
    clear bW0 bb
    obtain ⟨g2, hg2⟩ : ∃ g2, g2 = u1.heap.size := ⟨_, rfl⟩
    obtain ⟨u2, hu2⟩ : ∃ u2, u2 = u1.alloc (.cells #[.string o1, .string n1] 23) := ⟨_, rfl⟩
    have a2 : RoleAt u2 g2 o1 n1 := by rw [hu2, hg2]; exact RoleAt.new u1 o1 n1
    have b2 : Below w.heap.size w u2 := by rw [hu2]; exact b1.trans ((below_box u1 o1 n1).mono b1.size)
    have c0 := a2.c0
    have c1 := a2.c1
    rcases HCASE.out with ⟨rfl, rfl, rfl⟩ | ⟨rfl, ht, hr⟩
    · go_wp2_with fail
      rw [← hu2]
      refine (lives_any u2).mono ?_
      rintro er u3 ⟨rfl, bb⟩
      have b3 := b2.trans (bb.mono b2.size)
      go_wp2
      go_ret
      exact ⟨rfl, b3⟩
    · have TX := hid (fun W => ht ▸ text_names o1 n1 (role_fits hr) W)
      have RX := hid (fun W => hr ▸ role_any o1 n1 W)
      clear ht hr
      rw [hu2] at c0 c1
      go_wp2_with fail
      rw [← hu2] at c0 c1
      rw [← hu2]
      refine (TX.out u2).mono ?_
      rintro er u3 ⟨rfl, bb⟩
      have a3 := a2.kept bb
      have b3 := b2.trans (bb.mono b2.size)
      have d0 := a3.c0
      have d1 := a3.c1
      rw [hg2] at d0 d1
      clear bb b2 hu2 c0 c1
      go_wp2_with fail
      refine (RX.out u3).mono ?_
      rintro er u4 ⟨rfl, bb⟩
      have b4 := b3.trans (bb.mono b3.size)
      clear bb b3
      go_wp2_with fail
      refine (lives_any u4).mono ?_
      rintro er u5 ⟨rfl, bb⟩
      have b5 := b4.trans (bb.mono b4.size)
      go_wp2
      go_ret
      exact ⟨rfl, b5⟩
end Go.Proofs.YtmoicndlpnbgnaaDoor.Sh
