/-
  lives, few.
-/
import Derived.Test.YtgfnhmnmbmpfdaaSuRef
import Derived.Lib.SlBytesConst
namespace Go.Proofs.Ytgfnhmnmbmpfdaa.Sh
open Go Go.RowKit
set_option linter.unusedVariables false
set_option linter.unusedSimpArgs false
theorem sum_nine : ((sumS [49, 50, 51, 52, 53, 54, 55, 56, 57]).toNat : Int) = 10673 := by decide +kernel
theorem sum_none : ((sumS []).toNat : Int) = 65535 := by decide +kernel
theorem put_ex : putS (regOf 10673) = [41, 177] := by decide +kernel
theorem Byt.first {w : World} {B : Nat} {A : Option Addr} {x y : UInt8} {l : List UInt8} (h : Byt w B A (x :: y :: l)) : ∃ ad, A = some ad ∧ w.cell? ad = some (.int .u8 (x.toNat : Int)) ∧ w.cell? ⟨ad.block, ad.off + 1, none⟩ = some (.int .u8 (y.toNat : Int)) := by
  obtain ⟨ad, e, _, hc⟩ := h (by simp)
  refine ⟨ad, e, ?_, ?_⟩
  · rw [← add_zero ad]; exact hc 0 x rfl
  · rw [← add_pos ad 1 (by omega)]; exact hc 1 y rfl
theorem byt_lit (w : World) (cs : List UInt8) (t : TypeId) (fr : Nat × Nat) : Byt (w.alloc (.cells (bv cs).toArray t fr)) (w.alloc (.cells (bv cs).toArray t fr)).heap.size (some ⟨w.heap.size, 0, none⟩) cs := fun _ =>
  ⟨_, rfl, by simp, fun j x hx => World.news_of_block (cs := (bv cs).toArray) (t := t) (fr := fr) (heap_alloc_new w _) j _ (by simp [bv, hx])⟩
/-- The first 300. -/
theorem few_any (A : Option Addr) (l : List UInt8) (n c : Nat) (hn : l.length = n) (hc : n ≤ c) (w : World) :
    Calls Try.prog 8 #[.slice A n c] w fun e w' => e = .returned (.slice A (min 300 n) c) ∧ w = w' := by
  have HN := hid hn
  clear hn
  by_cases h : 300 < n
  · have HE : Hid (min 300 n = 300) := hid (by omega)
    have h' : (300 : Int) < (n : Int) := by omega
    go_enter Try.func8, Try.ntmps8
    go_wp2
    go_ret
    exact ⟨by rw [HE.out]; rfl, rfl⟩
  · have HE : Hid (min 300 n = n) := hid (by omega)
    have h' : ¬ (300 : Int) < (n : Int) := by omega
    go_enter Try.func8, Try.ntmps8
    go_wp2
    go_ret
    exact ⟨by rw [HE.out]; rfl, rfl⟩
set_option maxHeartbeats 2000000 in
theorem lives_any (w : World) : Calls Try.prog 17 #[] w fun e w' => e = .returned (.bool true) ∧ Below w.heap.size w w' := by
  have HP := hid (put_any 10673 w)
  have HS := hid (fun (W : World) (A : Option Addr) (c : Nat) (h : Byt W W.heap.size A [49, 50, 51, 52, 53, 54, 55, 56, 57]) => sum_any A _ 9 c rfl (by omega) W h)
  have HN := hid (fun (W : World) => sum_any none [] 0 0 rfl (by omega) W Byt.nil)
  rw [put_ex] at HP
  rw [sum_none] at HN
  rw [sum_nine] at HS
  go_enter Try.func17, Try.ntmps17
  go_wp2_with fail
  refine HP.out.mono ?_
  rintro er w1 ⟨A, c, rfl, hc, hy, b1⟩
  have kc := fun (w : World) (C : Array Value) (n c : Nat) => Lib.run_convert_bytes_const (P := Try.prog) w 22 5 C n c Try.underlying22 Try.underlying5
  go_wp2_with fail
  clear kc
  have b2 : Below w.heap.size w (w1.alloc (.cells (bv [49, 50, 51, 52, 53, 54, 55, 56, 57]).toArray 5 (9, 10))) := b1.alloc b1.size _
  have hy2 : Byt (w1.alloc (.cells (bv [49, 50, 51, 52, 53, 54, 55, 56, 57]).toArray 5 (9, 10))) w1.heap.size A [41, 177] := hy.below ((Below.refl _ _).alloc (Nat.le_refl _) _)
  refine (HS.out _ _ 9 (byt_lit w1 [49, 50, 51, 52, 53, 54, 55, 56, 57] 5 (9, 10))).mono ?_
  rintro er w2 ⟨rfl, rfl⟩
  go_wp2_with fail
  refine (HN.out _).mono ?_
  rintro er w2 ⟨rfl, rfl⟩
  obtain ⟨ad, rfl, k0, k1⟩ := hy2.first
  have HB := hid b2
  clear b2 b1 hy hy2
  generalize w1.alloc (.cells (bv [49, 50, 51, 52, 53, 54, 55, 56, 57]).toArray 5 (9, 10)) = W at *
  have k0' : W.cell? ad = some (.int .u8 41) := k0
  have k1' : W.cell? ⟨ad.block, ad.off + 1, none⟩ = some (.int .u8 177) := k1
  clear k0 k1
  go_wp2
  go_ret
  exact ⟨rfl, HB.out⟩
end Go.Proofs.Ytgfnhmnmbmpfdaa.Sh
