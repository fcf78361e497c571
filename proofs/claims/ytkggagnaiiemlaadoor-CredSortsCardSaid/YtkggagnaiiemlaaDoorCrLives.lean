/-
  lives: the document's examples of layer 5.
-/
import Derived.Test.YtkggagnaiiemlaaDoorCrProg
namespace Go.Proofs.YtkggagnaiiemlaaDoor.Sh
open Go Go.RowKit

theorem enc_small {n : Nat} (h : 0 < n) (h2 : n < 256) : enc n = [1, UInt8.ofNat n] := by
  have : be n = [UInt8.ofNat n] := by rw [be_pos h, show n / 256 = 0 by omega, be_zero, Nat.mod_eq_of_lt h2]; rfl
  rw [enc, this]; rfl
def m1 : Crd := ⟨1, 3, ⟨#[97]⟩, 1, ⟨#[97, 110, 110]⟩, ⟨#[]⟩, ⟨#[]⟩, ⟨#[]⟩, ⟨#[]⟩⟩
def m2 : Crd := ⟨1, 3, ⟨#[114]⟩, 3, ⟨#[]⟩, ⟨#[]⟩, ⟨#[97]⟩, ⟨#[]⟩, ⟨#[98]⟩⟩
theorem may_m1 : mayC m1 = true := by decide +kernel
theorem end_m1 : textEnd m1 = .returned (.tuple #[.string ⟨#[100, 49, 46, 97, 32, 60, 45, 32, 97, 110, 110]⟩, .int .i64 0]) := by
  unfold textEnd
  rw [may_m1, show textC m1 = ⟨#[100, 49, 46, 97, 32, 60, 45, 32, 97, 110, 110]⟩ by decide +kernel]
  rfl
theorem may_m2 : mayC m2 = true := by decide +kernel
theorem end_m2 : textEnd m2 = .returned (.tuple #[.string ⟨#[100, 49, 46, 114, 32, 60, 45, 32, 100, 49, 46, 97, 46, 98]⟩, .int .i64 0]) := by
  unfold textEnd
  rw [may_m2, show textC m2 = ⟨#[100, 49, 46, 114, 32, 60, 45, 32, 100, 49, 46, 97, 46, 98]⟩ by decide +kernel]
  rfl
theorem put_m1 : putC m1 = [1, 1, 1, 3, 1, 1, 97, 1, 1, 1, 3, 97, 110, 110] := by
  unfold putC
  rw [putBody_1 rfl]
  show enc 1 ++ (enc 3 ++ (encText ⟨#[97]⟩ ++ (enc 1 ++ encText ⟨#[97, 110, 110]⟩))) = _
  rw [encText, encText, show (⟨#[97]⟩ : ByteArray).size = 1 from rfl, show (⟨#[97, 110, 110]⟩ : ByteArray).size = 3 from rfl, enc_small (n := 1) (by omega) (by omega), enc_small (n := 3) (by omega) (by omega)]
  rfl
theorem lit_byt (w : World) (l : List UInt8) (t : TypeId) : Byt (w.alloc (.cells (bv l).toArray t)) (w.alloc (.cells (bv l).toArray t)).heap.size (some ⟨w.heap.size, 0, none⟩) l := by
  intro hn
  refine ⟨_, rfl, by rw [World.size_alloc]; exact Nat.lt_succ_self _, fun j z hz => ?_⟩
  obtain ⟨ad, he, hc⟩ := reads_new w (bv l).toArray t (0, 0) (by simpa [bv] using hn)
  injection he with he
  subst he
  exact hc j _ (by simp [bv, hz])

set_option maxHeartbeats 4000000 in
theorem lives_any (w : World) : Calls Tryd.prog 17 #[] w fun e w' => e = .returned (.bool true) ∧ Below w.heap.size w w' := by
  have T1 := hid (fun w => end_m1 ▸ textC_any m1 w)
  have T2 := hid (fun w => end_m2 ▸ textC_any m2 w)
  have P1 := hid (fun w => putC_any none [] m1 0 0 rfl (by omega) w Byt.nil)
  have hd : domB m1.d = ⟨#[100, 49]⟩ := by decide +kernel
  have RR : Hid (∀ w, Calls Tryd.prog 15 #[.agg m1.cells.toArray] w fun e w' => e = .returned (.agg #[.string ⟨#[100, 49]⟩, .string ⟨#[97]⟩]) ∧ Below w.heap.size w w') := hid (fun w => by have := roleC_any m1 (by decide) (by decide) w; rw [hd] at this; exact this)
  clear hd
  have M := hid may_m1
  go_enter Tryd.func17, Tryd.ntmps17
  obtain ⟨w0, hw0⟩ : ∃ w0, w0 = w.alloc (.cells m1.cells.toArray 27) := ⟨_, rfl⟩
  have r0 : CrAt w0 w.heap.size m1 := by rw [hw0]; exact CrAt.new w m1
  have b0 : Below w.heap.size w w0 := by rw [hw0]; exact below_cr w m1
  unfold m1 Crd.cells at hw0
  simp only at hw0
  go_wp2_with fail
  rw [← hw0]
  clear hw0
  refine (T1.out w0).mono ?_
  rintro er w1 ⟨rfl, bb⟩
  have r1 := r0.kept bb
  have b1 := b0.trans (bb.mono b0.size)
  clear r0 b0 bb
  go_wp2_with fail
  refine (T2.out w1).mono ?_
  rintro er w2 ⟨rfl, bb⟩
  have r2 := r1.kept bb
  have b2 := b1.trans (bb.mono b1.size)
  obtain ⟨c0, c1, c2, c3, c4, c5, c6, c7, c8⟩ := CrAt.all r2
  clear r1 b1 bb
  go_wp2_with fail
  refine (P1.out w2).mono ?_
  rintro er w3 (⟨hm, -, -⟩ | ⟨-, A, N, k, rfl, hP⟩)
  · rw [M.out] at hm; cases hm
  obtain ⟨A', k', N', he, hl, hN, y3, bb⟩ := hP.open
  simp only [Ending.returned.injEq, Value.slice.injEq] at he
  obtain ⟨rfl, rfl, rfl⟩ := he
  rw [List.nil_append, put_m1] at hl y3
  have hN14 : N = 14 := by rw [← hl]; rfl
  subst hN14
  have r3 := r2.kept bb
  have b3 := b2.trans (bb.mono b2.size)
  clear r2 b2 bb hP hN hl c0 c1 c2 c3 c4 c5 c6 c7 c8
  have Y := lit_byt w3 [1, 1, 1, 3, 1, 1, 97, 1, 1, 1, 3, 97, 110, 110] 5
  have hsz : w3.heap.size ≤ (w3.alloc (.cells (bv [1, 1, 1, 3, 1, 1, 97, 1, 1, 1, 3, 97, 110, 110]).toArray 5)).heap.size := by rw [World.size_alloc]; exact Nat.le_succ _
  have y4 := (y3.below ((Below.refl _ _).alloc (Nat.le_refl _) (.cells (bv [1, 1, 1, 3, 1, 1, 97, 1, 1, 1, 3, 97, 110, 110]).toArray 5))).more hsz
  have b4 := b3.alloc b3.size (.cells (bv [1, 1, 1, 3, 1, 1, 97, 1, 1, 1, 3, 97, 110, 110]).toArray 5)
  have r4 := r3.kept ((Below.refl _ _).alloc (Nat.le_refl _) (.cells (bv [1, 1, 1, 3, 1, 1, 97, 1, 1, 1, 3, 97, 110, 110]).toArray 5))
  have SM := hid (fun c d => same_eq A (some ⟨w3.heap.size, 0, none⟩) [1, 1, 1, 3, 1, 1, 97, 1, 1, 1, 3, 97, 110, 110] 14 c d rfl (by omega) _ y4 Y)
  clear Y y4 y3 b3 r3
  go_wp2_with fail
  refine (SM.out _ _).mono ?_
  rintro er w5 ⟨rfl, hq⟩
  have b5 : Below w.heap.size w w5 := by obtain ⟨q, rfl⟩ := hq; exact below_drewN b4 q
  have r5 : CrAt w5 w.heap.size m1 := by obtain ⟨q, rfl⟩ := hq; exact r4
  obtain ⟨c0, c1, c2, c3, c4, c5, c6, c7, c8⟩ := CrAt.all r5
  clear SM hq b4 r4 r5
  go_wp2_with fail
  refine (RR.out _).mono ?_
  rintro er w6 ⟨rfl, bb⟩
  have b6 := b5.trans (bb.mono b5.size)
  clear bb b5 c0 c1 c2 c3 c4 c5 c6 c7 c8
  go_wp2
  go_ret
  exact ⟨rfl, b6⟩
end Go.Proofs.YtkggagnaiiemlaaDoor.Sh
