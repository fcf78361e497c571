/-
  lives. Written by mk_tplives.py.
-/
import Derived.Test.YtdigfbgjefffiaaTpLiM
import Derived.Lib.SlBytesConst
namespace Go.Proofs.Ytdigfbgjefffiaa.Sh
open Go Go.RowKit

set_option linter.unusedSimpArgs false
set_option linter.unusedVariables false
namespace TpL
def t1 : TS := ⟨[], [], [(0, -1, 97), (0, -1, 98), (0, -1, 99)], false, 0⟩
def t2 : TS := ⟨[97, 98, 99], [], [], false, 0⟩
def t3 : TS := ⟨[97, 98, 99], [], [(0, -1, 100), (0, -1, 101)], false, 0⟩
def t4 : TS := ⟨[97, 98, 99, 100], [], [], false, 0⟩
def t5 : TS := ⟨[97, 98, 99, 100], [], [(1, -1, 120)], false, 0⟩
def t6 : TS := ⟨[97, 98, 99, 100], [], [(1, -1, 120), (1, 0, 0)], false, 0⟩
def t7 : TS := ⟨[97, 98, 99, 100], [], [(1, -1, 120), (1, 0, 0), (1, -1, 121)], false, 0⟩
def t8 : TS := ⟨[97, 98, 99, 100], [], [], false, 0⟩
def t9 : TS := ⟨[97, 98, 99, 100], [], [], true, 1⟩
def t10 : TS := ⟨[97, 98, 99, 100], [], [(0, -1, 120)], true, 0⟩
theorem e1 : TS.new.write 0 [97, 98, 99] = (t1, 0) := rfl
theorem e2 : t1.sync = (t2, 0) := rfl
theorem e3 : t2.write 0 [100, 101] = (t3, 0) := rfl
theorem e4 : t3.crash 1 = t4 := rfl
theorem r4 : t4.read 0 = ([97, 98, 99, 100], 0) := rfl
theorem e5 : t4.write 1 [120] = (t5, 0) := rfl
theorem e6 : t5.trim 1 0 = (t6, 0) := rfl
theorem e7 : t6.write 1 [121] = (t7, 0) := rfl
theorem e8 : t7.crash 2 = t8 := rfl
theorem r8 : t8.read 1 = ([], 0) := rfl
theorem e9 : t8.fuse 1 = (t9, 0) := rfl
theorem e10 : t9.write 0 [120] = (t10, 0) := rfl
theorem e11 : t10.sync.2 = 40 := rfl
end TpL
theorem conv_byt16 {w : World} {B : Nat} {A : Option Addr} {l : List UInt8} {n c : Nat} (h : Byt w B A l) (hl : l.length = n) : (convert 28 9 (.slice A n c)).run Try.prog w = .ok (.string ⟨l.toArray⟩) w := by
  subst hl
  rcases A with _ | ad
  · obtain rfl : l = [] := by
      rcases Nat.eq_zero_or_pos l.length with h0 | h0
      · exact List.eq_nil_of_length_eq_zero h0
      · obtain ⟨_, h1, _⟩ := h h0
        cases h1
    exact Lib.run_convert_nil_bytes w 28 9 5 c Try.underlying28 Try.underlying5 Try.underlying9
  · exact run_convert_bytes_back w 28 9 5 ad c l Try.underlying28 Try.underlying5 Try.underlying9 (fun j hj => h.cells rfl j _ (by simp [bv, hj]))
set_option maxHeartbeats 8000000 in
theorem lives_any (w : World) : Calls Try.prog 13 #[] w fun er w' => er = .returned (.bool true) ∧ Below w.heap.size w w' := by
  have HN := hid (LT.new w w (Below.refl _ _) (fun _ => False) (fun _ h => h.elim))
  have kc := fun (w : World) (C : Array Value) (n c : Nat) => Lib.run_convert_bytes_const (P := Try.prog) w 28 5 C n c Try.underlying28 Try.underlying5
  go_enter Try.func13, Try.ntmps13
  go_wp2_with fail
  refine HN.out.mono ?_
  rintro er w0 ⟨g, rfl, l0, -⟩
  have L0 := hid l0
  clear l0
  go_wp2_with fail
  have XL := L0.out.lit [97, 98, 99] 5 (3, 4)
  refine (XL.1.write (by decide) 0 (n := 3) (c := 3) rfl (by omega) (by omega) XL.2.2).mono ?_
  rintro er w1 ⟨rfl, l1, s1⟩
  rw [TpL.e1] at l1 ⊢
  have L1 := hid (l1.less (M := (fun _ => False)) (fun x hx => .inl hx))
  clear XL l1 s1
  go_wp2_with fail
  refine (L1.out.sync (by decide)).mono ?_
  rintro er w2 ⟨rfl, l2, s2⟩
  rw [TpL.e2] at l2 ⊢
  have L2 := hid l2
  clear l2 s2
  go_wp2_with fail
  have XL := L2.out.lit [100, 101] 5 (2, 3)
  refine (XL.1.write (by decide) 0 (n := 2) (c := 2) rfl (by omega) (by omega) XL.2.2).mono ?_
  rintro er w3 ⟨rfl, l3, s3⟩
  rw [TpL.e3] at l3 ⊢
  have L3 := hid (l3.less (M := (fun _ => False)) (fun x hx => .inl hx))
  clear XL l3 s3
  go_wp2_with fail
  refine (L3.out.crash (by decide) 1 (by omega) (by omega)).mono ?_
  rintro er w4 ⟨rfl, l4, s4⟩
  rw [TpL.e4] at l4
  have L4 := hid l4
  clear l4 s4
  go_wp2_with fail
  refine (L4.out.read (by decide) 0).mono ?_
  rintro er w5 ⟨Ab, nb, cb, rfl, hcb, hb, ob, l5, s5⟩
  rw [TpL.r4] at hb ob ⊢
  obtain rfl : nb = 4 := hb.symm
  have ML := l5
  obtain ⟨N, hN⟩ : ∃ N : Nat → Prop, N = (fun x => False ∨ (w4.heap.size ≤ x ∧ x < w5.heap.size)) := ⟨_, rfl⟩
  rw [← hN] at l5
  have L5 := hid l5
  have Y5 := hid (show BytQ w5 N Ab [97, 98, 99, 100] from BytQ.of_own ob (fun x h1 h2 => by rw [hN]; exact .inr ⟨h1, h2⟩))
  clear hb ob l5 s5 ML hN hcb
  go_wp2_with fail
  have XL := L5.out.lit [120] 5 (1, 2)
  refine (XL.1.write (by decide) 1 (n := 1) (c := 1) rfl (by omega) (by omega) XL.2.2).mono ?_
  rintro er w6 ⟨rfl, l6, s6⟩
  rw [TpL.e5] at l6 ⊢
  have L6 := hid (l6.less (M := N) (fun x hx => .inl hx))
  have Y6 := hid ((Y5.out.std XL.2.1).std ⟨fun x hx => s6.1 x (.inl hx), s6.2⟩)
  clear XL l6 s6
  go_wp2_with fail
  refine (L6.out.clear (by decide) 1).mono ?_
  rintro er w7 ⟨rfl, l7, s7⟩
  rw [TpL.e6] at l7 ⊢
  have L7 := hid l7
  have Y7 := hid (Y6.out.std s7)
  clear l7 s7
  go_wp2_with fail
  have XL := L7.out.lit [121] 5 (1, 2)
  refine (XL.1.write (by decide) 1 (n := 1) (c := 1) rfl (by omega) (by omega) XL.2.2).mono ?_
  rintro er w8 ⟨rfl, l8, s8⟩
  rw [TpL.e7] at l8 ⊢
  have L8 := hid (l8.less (M := N) (fun x hx => .inl hx))
  have Y8 := hid ((Y7.out.std XL.2.1).std ⟨fun x hx => s8.1 x (.inl hx), s8.2⟩)
  clear XL l8 s8
  go_wp2_with fail
  refine (L8.out.crash (by decide) 2 (by omega) (by omega)).mono ?_
  rintro er w9 ⟨rfl, l9, s9⟩
  rw [TpL.e8] at l9
  have L9 := hid l9
  have Y9 := hid (Y8.out.std s9)
  clear l9 s9
  go_wp2_with fail
  refine (L9.out.read (by decide) 1).mono ?_
  rintro er w10 ⟨Ac, nc, cc, rfl, hcc, hc, oc, l10, s10⟩
  rw [TpL.r8] at hc oc ⊢
  obtain rfl : nc = 0 := hc.symm
  have L10 := hid (l10.less (M := N) (fun x hx => .inl hx))
  have Y10 := hid (Y9.out.std s10)
  clear hc oc l10 s10 hcc
  go_wp2_with fail
  refine (L10.out.fuse 1 (by omega) (by omega)).mono ?_
  rintro er w11 ⟨rfl, l11, s11⟩
  rw [TpL.e9] at l11 ⊢
  have L11 := hid l11
  have Y11 := hid (Y10.out.std s11)
  clear l11 s11
  go_wp2_with fail
  have XL := L11.out.lit [120] 5 (1, 2)
  refine (XL.1.write (by decide) 0 (n := 1) (c := 1) rfl (by omega) (by omega) XL.2.2).mono ?_
  rintro er w12 ⟨rfl, l12, s12⟩
  rw [TpL.e10] at l12 ⊢
  have L12 := hid (l12.less (M := N) (fun x hx => .inl hx))
  have Y12 := hid ((Y11.out.std XL.2.1).std ⟨fun x hx => s12.1 x (.inl hx), s12.2⟩)
  clear XL l12 s12
  clear kc
  have hcv : (convert 28 9 (.slice Ab 4 cb)).run Try.prog w12 = .ok (.string ⟨#[97, 98, 99, 100]⟩) w12 := conv_byt16 Y12.out.byt rfl
  go_wp2_with fail
  refine (L12.out.sync (by decide)).mono ?_
  rintro er w13 ⟨rfl, l13, s13⟩
  rw [TpL.e11]
  have HB := hid l13.bel
  clear l13 s13
  go_wp2
  go_ret
  exact ⟨rfl, HB.out⟩
end Go.Proofs.Ytdigfbgjefffiaa.Sh
