/-
  The walks of SumsSums and SumsRange.
-/
import Derived.Test.YtgfnhmnmbmpfdaaSuLives
namespace Go.Proofs.Ytgfnhmnmbmpfdaa.Sh
open Go Go.RowKit
set_option linter.unusedVariables false
set_option linter.unusedSimpArgs false
/-- The first 300 of what came in, for every world above. -/
theorem data_of {A : Option Addr} {l : List UInt8} {n : Nat} (hn : l.length = n) {w : World} (h : Byt w w.heap.size A l) :
    ∃ (k : List UInt8) (m : Nat), k.length = m ∧ m ≤ 300 ∧ m ≤ n ∧ min 300 n = m ∧ ∀ W, Below w.heap.size w W → Byt W W.heap.size A k := by
  refine ⟨l.take 300, min 300 n, by rw [List.length_take, hn], by omega, by omega, rfl, fun W hW => ?_⟩
  exact (h.head.below hW).more hW.size
theorem same2 (A B : Option Addr) (xs ys : List UInt8) (c d : Nat) (hx : xs.length = 2) (hy : ys.length = 2) (e : xs = ys) (w : World) (h : Byt w w.heap.size A xs) (h' : Byt w w.heap.size B ys) :
    Calls Try.prog 10 #[.slice A 2 c, .slice B 2 d] w fun e w' => e = .returned (.bool true) ∧ ∃ k, w' = w.drewN k := by
  have := same_any A B xs ys c d (by omega) (by omega) w h h'
  rw [hx, hy, decide_eq_true e] at this
  exact this
set_option maxHeartbeats 4000000 in
theorem sumsSums_walk (z : Int) (A : Option Addr) (l : List UInt8) (n c : Nat) (hn : l.length = n) (hc : n ≤ c) (w : World) (h : Byt w w.heap.size A l) :
    Calls Try.prog 3 #[.int .i64 z, .slice A n c] w fun e w' => e = .returned (.bool true) ∧ Below w.heap.size w w' := by
  have HF := hid (few_any A l n c hn hc w)
  obtain ⟨k, m, hk, hm, hmn, e, hb⟩ := data_of hn h
  rw [e] at HF
  have HD := hid hb
  have HL := hid (refLow_any z w)
  have HP := hid (fun W => put_any z W)
  have HQ := hid (fun W => refPut_any (regOf z) W)
  have HS := hid (fun W (hW : Below w.heap.size w W) => sum_any A k m c hk (by omega) W (HD.out W hW))
  have HT := hid (fun W (hW : Below w.heap.size w W) => refSum_any A k m c hk (by omega) W (HD.out W hW))
  have HM := hid (fun W (hW : Below w.heap.size w W) => more_any z A k m c hk (by omega) W (HD.out W hW))
  have HN := hid (fun W (hW : Below w.heap.size w W) => refMore_any (regOf z) A k m c hk (by omega) W (HD.out W hW))
  generalize moreS (regOf z) k = M at *
  generalize sumS k = S at *
  generalize regOf z = R at *
  clear hb h hk e hn
  go_enter Try.func3, Try.ntmps3
  go_wp2_with fail
  refine HF.out.mono ?_
  rintro er w1 ⟨rfl, rfl⟩
  go_wp2_with fail
  refine HL.out.mono ?_
  rintro er w1 ⟨rfl, rfl⟩
  go_wp2_with fail
  refine (HP.out _).mono ?_
  rintro er w1 ⟨A1, c1, rfl, hc1, y1, b1⟩
  go_wp2_with fail
  refine (HQ.out _).mono ?_
  rintro er w2 ⟨A2, c2, rfl, hc2, y2, b2⟩
  have y1' := (y1.below b2).more b2.size
  have b02 := b1.trans (b2.mono b1.size)
  have HE := hid (same2 A1 A2 _ _ c1 c2 rfl rfl rfl w2 y1' y2)
  clear y1 y2 y1' b1 b2
  go_wp2_with fail
  refine HE.out.mono ?_
  rintro er w3 ⟨rfl, q, rfl⟩
  have HB := hid (below_drewN b02 q)
  clear b02
  go_wp2_with fail
  refine (HS.out _ HB.out).mono ?_
  rintro er w3 ⟨rfl, rfl⟩
  go_wp2_with fail
  refine (HT.out _ HB.out).mono ?_
  rintro er w3 ⟨rfl, rfl⟩
  go_wp2_with fail
  refine (HM.out _ HB.out).mono ?_
  rintro er w3 ⟨rfl, rfl⟩
  go_wp2_with fail
  refine (HN.out _ HB.out).mono ?_
  rintro er w3 ⟨rfl, rfl⟩
  go_wp2_with fail
  refine (lives_any _).mono ?_
  rintro er w4 ⟨rfl, b4⟩
  have b04 := HB.out.trans (b4.mono HB.out.size)
  go_wp2
  go_ret
  exact ⟨rfl, b04⟩
theorem same_self (A B : Option Addr) (k : List UInt8) (m c d : Nat) (hk : k.length = m) (hm : m ≤ 300) (w : World) (h : Byt w w.heap.size A k) (h' : Byt w w.heap.size B k) :
    Calls Try.prog 10 #[.slice A m c, .slice B m d] w fun e w' => e = .returned (.bool true) ∧ ∃ k, w' = w.drewN k := by
  have := same_any A B k k c d (by omega) (by omega) w h h'
  rw [hk, decide_eq_true rfl] at this
  exact this
set_option maxHeartbeats 4000000 in
theorem sumsRange_walk (z : Int) (A : Option Addr) (l : List UInt8) (n c : Nat) (hn : l.length = n) (hc : n ≤ c) (w : World) (h : Byt w w.heap.size A l) :
    Calls Try.prog 7 #[.int .i64 z, .slice A n c] w fun e w' => e = .returned (.bool true) ∧ Below w.heap.size w w' := by
  have HF := hid (few_any A l n c hn hc w)
  obtain ⟨k, m, hk, hm, hmn, e, hb⟩ := data_of hn h
  rw [e] at HF
  have HD := hid hb
  have HKL := hid hk
  have HR := hid (hb w (Below.refl _ _)).reads
  have HP := hid (fun z W => put_any z W)
  have HM := hid (fun W (hW : Below w.heap.size w W) => more_any z A k m c hk (by omega) W (HD.out W hW))
  have HE := hid (fun W B d (hW : Below w.heap.size w W) (h : Byt W W.heap.size B k) => same_self B A k m d c hk hm W h (HD.out W hW))
  obtain ⟨M, hM, h0, h1⟩ : ∃ M : Nat, (moreS (regOf z) k).toNat = M ∧ (0 : Int) ≤ (M : Int) ∧ (M : Int) ≤ 65535 := ⟨_, rfl, Int.natCast_nonneg _, by have := (moreS (regOf z) k).isLt; omega⟩
  rw [hM] at HM
  clear hb h hk e hn hM
  go_enter Try.func7, Try.ntmps7
  go_wp2_with fail
  refine HF.out.mono ?_
  rintro er w1 ⟨rfl, rfl⟩
  go_wp2_with (at_builtin; (refine wpList_appB rfl (.tmp 10) (.tmp 11) rfl w.heap.size (.slice none 0 0) 0 [] (OwnB.nil _ _) rfl A m c k rfl HKL.out HR.out (by omega) (Nat.le_refl _) w (Below.refl _ _) m (by omega) ?_; intro A2 c2 w2 o2 _ b2))
  have o2' : OwnB w2 w.heap.size (.slice A2 m c2) m k := o2
  have HO := hid o2'.byt
  have HB := hid b2
  clear o2 o2' b2
  refine (HM.out _ HB.out).mono ?_
  rintro er w3 ⟨rfl, rfl⟩
  go_wp2_with fail
  refine (HE.out _ A2 c2 HB.out HO.out).mono ?_
  rintro er w3 ⟨rfl, q, rfl⟩
  have HB2 := hid (below_drewN HB.out q)
  go_wp2_with fail
  refine (HP.out _ _).mono ?_
  rintro er w3 ⟨A3, c3, rfl, hc3, y3, b3⟩
  have HB3 := hid (HB2.out.trans (b3.mono HB2.out.size))
  clear y3 b3
  go_wp2_with fail
  refine (lives_any _).mono ?_
  rintro er w4 ⟨rfl, b4⟩
  have b04 := HB3.out.trans (b4.mono HB3.out.size)
  go_wp2
  go_ret
  exact ⟨rfl, b04⟩
end Go.Proofs.Ytgfnhmnmbmpfdaa.Sh
