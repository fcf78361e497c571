/-
  The walks of NamesLess and NamesKinds.
-/
import Derived.Test.YtmoicndlpnbgnaaDoorNaLives
namespace Go.Proofs.YtmoicndlpnbgnaaDoor.Sh
open Go Go.RowKit

theorem kept_trans {W w' W' : World} {B : Nat} (h : Below B W w') (hB : B ≤ w'.heap.size) (bb : Below w'.heap.size w' W') : Below B W W' := h.trans (bb.mono hB)

set_option maxHeartbeats 2000000 in
theorem namesLess_walk (o n o' n' : ByteArray) (w : World) :
    Calls Tryd.prog 7 #[.agg #[.string o, .string n], .agg #[.string o', .string n']] w fun e w' => e = .returned (.bool true) ∧ Below w.heap.size w w' := by
  obtain ⟨w0, hw0⟩ : ∃ w0, w0 = (w.alloc (.cells #[.string o, .string n] 23)).alloc (.cells #[.string o', .string n'] 23) := ⟨_, rfl⟩
  have ra : RoleAt w0 w.heap.size o n := by
    rw [hw0]; exact (RoleAt.new w o n).kept (below_box _ _ _)
  have rb : RoleAt w0 (w.heap.size + 1) o' n' := by
    rw [hw0]; have := RoleAt.new (w.alloc (.cells #[.string o, .string n] 23)) o' n'; rw [World.size_alloc] at this; exact this
  have b0 : Below w.heap.size w w0 := by rw [hw0]; exact (below_box w o n).trans ((below_box _ o' n').mono (by rw [World.size_alloc]; exact Nat.le_succ _))
  have HK := hid (fun W (hW : Below w0.heap.size w0 W) => (⟨(ra.kept hW).c0, (ra.kept hW).c1, (rb.kept hW).c0, (rb.kept hW).c1⟩ : W.cell? ⟨w.heap.size, 0, none⟩ = some (.string o) ∧ W.cell? ⟨w.heap.size, 1, none⟩ = some (.string n) ∧ W.cell? ⟨w.heap.size + 1, 0, none⟩ = some (.string o') ∧ W.cell? ⟨w.heap.size + 1, 1, none⟩ = some (.string n')))
  have HD := hid (Below.refl w0.heap.size w0).drew
  have H0 := hid b0
  clear ra rb b0
  go_enter Tryd.func7, Tryd.ntmps7
  go_wp2_with fail
  rw [← hw0]
  clear hw0
  go_region_held3 (fun W => W.cell? ⟨w.heap.size, 0, none⟩ = some (.string o) ∧ W.cell? ⟨w.heap.size, 1, none⟩ = some (.string n) ∧ W.cell? ⟨w.heap.size + 1, 0, none⟩ = some (.string o') ∧ W.cell? ⟨w.heap.size + 1, 1, none⟩ = some (.string n')) (first | exact HK.out _ B3.out | exact HK.out _ B2.out | exact HK.out _ B1.out | exact HK.out _ HD.out | go_keep) (first
    | (go_at_call 22; (refine (less_any o n o' n' _).mono ?_); rintro er w1 ⟨rfl, bb⟩; have B1 := hid (kept_trans HD.out HD.out.size bb); clear bb)
    | (go_at_call 23; (refine (refLess_any o n o' n' _).mono ?_); rintro er w2 ⟨rfl, bb⟩; have B2 := hid (kept_trans B1.out B1.out.size bb); clear bb)
    | (go_at_call 15; (refine (lives_any _).mono ?_); rintro er w3 ⟨rfl, bb⟩; have B3 := hid (kept_trans B2.out B2.out.size bb); clear bb)
    | fail)
  all_goals
    go_wp2
    go_ret
    exact ⟨rfl, H0.out.trans (B3.out.mono H0.out.size)⟩

set_option maxHeartbeats 4000000 in
theorem namesKinds_walk (s o n : ByteArray) (w : World) :
    Calls Tryd.prog 3 #[.string s, .agg #[.string o, .string n]] w fun e w' => e = .returned (.bool true) ∧ Below w.heap.size w w' := by
  obtain ⟨w0, hw0⟩ : ∃ w0, w0 = w.alloc (.cells #[.string o, .string n] 23) := ⟨_, rfl⟩
  have ra : RoleAt w0 w.heap.size o n := by rw [hw0]; exact RoleAt.new w o n
  have b0 : Below w.heap.size w w0 := by rw [hw0]; exact below_box w o n
  have HK := hid (fun W (hW : Below w0.heap.size w0 W) => (⟨(ra.kept hW).c0, (ra.kept hW).c1⟩ : W.cell? ⟨w.heap.size, 0, none⟩ = some (.string o) ∧ W.cell? ⟨w.heap.size, 1, none⟩ = some (.string n)))
  have HD := hid (Below.refl w0.heap.size w0).drew
  have H0 := hid b0
  clear ra b0
  go_enter Tryd.func3, Tryd.ntmps3
  go_wp2_with fail
  rw [← hw0]
  clear hw0
  go_region_held3 (fun W => W.cell? ⟨w.heap.size, 0, none⟩ = some (.string o) ∧ W.cell? ⟨w.heap.size, 1, none⟩ = some (.string n)) (first | exact HK.out _ B5.out | exact HK.out _ B4.out | exact HK.out _ B3.out | exact HK.out _ B2.out | exact HK.out _ B1.out | exact HK.out _ HD.out | go_keep) (first
    | (go_at_call 9; (refine (may_any s _).mono ?_); rintro er w1 ⟨rfl, bb⟩; have B1 := hid (kept_trans HD.out HD.out.size bb); clear bb)
    | (go_at_call 10; (refine (refMay_any s _).mono ?_); rintro er w' ⟨rfl, rfl⟩)
    | (go_at_call 11; (refine (number_any s _).mono ?_); rintro er w2 ⟨rfl, bb⟩; have B2 := hid (kept_trans B1.out B1.out.size bb); clear bb)
    | (go_at_call 12; (refine (refNumber_any s _).mono ?_); rintro er w' ⟨rfl, rfl⟩)
    | (go_at_call 13; (refine (role_any o n _).mono ?_); rintro er w3 ⟨rfl, bb⟩; have B3 := hid (kept_trans B2.out B2.out.size bb); clear bb)
    | (go_at_call 14; (refine (refRole_any o n _).mono ?_); rintro er w4 ⟨rfl, bb⟩; have B4 := hid (kept_trans B3.out B3.out.size bb); clear bb)
    | (go_at_call 15; (refine (lives_any _).mono ?_); rintro er w5 ⟨rfl, bb⟩; have B5 := hid (kept_trans B4.out B4.out.size bb); clear bb)
    | fail)
  all_goals
    go_wp2
    go_ret
    exact ⟨rfl, H0.out.trans (B5.out.mono H0.out.size)⟩

theorem mk_list (l : List UInt8) : (⟨l.toArray⟩ : ByteArray).data.toList = l := by simp
set_option maxHeartbeats 4000000 in
theorem namesDomains_walk (n : Int) (h0 : -9223372036854775808 ≤ n) (h1 : n < 9223372036854775808) (s : ByteArray) (w : World) :
    Calls Tryd.prog 4 #[.int .i64 n, .string s] w fun e w' => e = .returned (.bool true) ∧ Below w.heap.size w w' := by
  have HD := hid (fun w => domain_any n h0 h1 w)
  have HR := hid (fun w => refDomain_any n h0 h1 w)
  obtain ⟨d, hd⟩ : ∃ d : ByteArray, d = ⟨(domL n).toArray⟩ := ⟨_, rfl⟩
  rw [← hd] at HD HR
  obtain ⟨k, hk⟩ : ∃ k, numL s.data.toList = k := ⟨_, rfl⟩
  have HN := hid (fun w => number_any s w)
  rw [hk] at HN
  have tail : Hid (∀ (k0 : k ≠ 0) W, Calls Tryd.prog 16 #[.int .i64 (k : Int)] W fun e w' => e = .returned (.string s) ∧ Below W.heap.size W w') := hid (fun k0 W => by
    have h := domL_numL s.data.toList (by rw [hk]; exact k0)
    rw [hk] at h
    have h2 := domain_any (k : Int) (by omega) (by omega) W
    rw [h.1] at h2
    have hs : (⟨s.data.toList.toArray⟩ : ByteArray) = s := Lib.mk_data s
    rwa [hs] at h2)
  clear hk
  by_cases hn : 1 ≤ n ∧ n ≤ 16
  · obtain ⟨hn1, hn2⟩ := hn
    have ND : Hid (∀ W, Calls Tryd.prog 11 #[.string d] W fun e w' => e = .returned (.int .i64 n) ∧ Below W.heap.size W w') := hid (fun W => by
      have h := number_any d W
      rw [hd, mk_list, numL_domL n hn1 hn2, Int.toNat_of_nonneg (by omega)] at h
      rw [hd]; exact h)
    have MD : Hid (∀ W, Calls Tryd.prog 9 #[.string d] W fun e w' => e = .returned (.bool true) ∧ Below W.heap.size W w') := hid (fun W => by
      have h := may_any d W
      rw [hd, mk_list, domL_may n hn1 hn2] at h
      rw [hd]; exact h)
    clear hd
    go_enter Tryd.func4, Tryd.ntmps4
    go_wp2_with fail
    refine (HD.out w).mono ?_
    rintro er w1 ⟨rfl, b1⟩
    go_wp2_with fail
    refine (HR.out w1).mono ?_
    rintro er w2 ⟨rfl, bb⟩
    have b2 := b1.trans (bb.mono b1.size)
    go_wp2_with fail
    refine (ND.out w2).mono ?_
    rintro er w3 ⟨rfl, bb3⟩
    have b3 := b2.trans (bb3.mono b2.size)
    go_wp2_with fail
    refine (MD.out w3).mono ?_
    rintro er w4 ⟨rfl, bb4⟩
    have b4 := b3.trans (bb4.mono b3.size)
    clear b1 b2 b3 bb bb3 bb4
    go_wp2_with fail
    refine (HN.out w4).mono ?_
    rintro er w5 ⟨rfl, bb5⟩
    have b5 := b4.trans (bb5.mono b4.size)
    clear b4 bb5
    by_cases hk0 : k = 0
    · subst hk0
      go_wp2_with fail
      refine (lives_any w5).mono ?_
      rintro er w6 ⟨rfl, bb6⟩
      have b6 := b5.trans (bb6.mono b5.size)
      go_wp2
      go_ret
      exact ⟨rfl, b6⟩
    · have hk0' : ¬ (k : Int) = 0 := by omega
      go_wp2_with fail
      refine (tail.out hk0 w5).mono ?_
      rintro er w6 ⟨rfl, bb6⟩
      have b6 := b5.trans (bb6.mono b5.size)
      go_wp2_with fail
      refine (lives_any w6).mono ?_
      rintro er w7 ⟨rfl, bb7⟩
      have b7 := b6.trans (bb7.mono b6.size)
      go_wp2
      go_ret
      exact ⟨rfl, b7⟩
  · have hE : domL n = [] := domL_none n (by omega)
    have hde : d = ⟨#[]⟩ := by rw [hd, hE]
    subst hde
    clear hd
    have hn' : n < 1 ∨ 16 < n := by omega
    rcases hn' with hn' | hn'
    all_goals
      go_enter Tryd.func4, Tryd.ntmps4
      go_wp2_with fail
      refine (HD.out w).mono ?_
      rintro er w1 ⟨rfl, b1⟩
      go_wp2_with fail
      refine (HR.out w1).mono ?_
      rintro er w2 ⟨rfl, bb⟩
      have b4 := b1.trans (bb.mono b1.size)
      clear b1 bb
      go_wp2_with fail
      refine (HN.out w2).mono ?_
      rintro er w5 ⟨rfl, bb5⟩
      have b5 := b4.trans (bb5.mono b4.size)
      clear b4 bb5
      by_cases hk0 : k = 0
      · subst hk0
        go_wp2_with fail
        refine (lives_any w5).mono ?_
        rintro er w6 ⟨rfl, bb6⟩
        have b6 := b5.trans (bb6.mono b5.size)
        go_wp2
        go_ret
        exact ⟨rfl, b6⟩
      · have hk0' : ¬ (k : Int) = 0 := by omega
        go_wp2_with fail
        refine (tail.out hk0 w5).mono ?_
        rintro er w6 ⟨rfl, bb6⟩
        have b6 := b5.trans (bb6.mono b5.size)
        go_wp2_with fail
        refine (lives_any w6).mono ?_
        rintro er w7 ⟨rfl, bb7⟩
        have b7 := b6.trans (bb7.mono b6.size)
        go_wp2
        go_ret
        exact ⟨rfl, b7⟩
end Go.Proofs.YtmoicndlpnbgnaaDoor.Sh
