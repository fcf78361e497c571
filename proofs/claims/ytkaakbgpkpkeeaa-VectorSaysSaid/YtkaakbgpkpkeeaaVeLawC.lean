/-
  The walk of VectorPuts (the contract of lives is its premise).
-/
import Derived.Test.YtkaakbgpkpkeeaaVeLawB
import Derived.Test.YtkaakbgpkpkeeaaBaSame
namespace Go.Proofs.Ytkaakbgpkpkeeaa.Sh
open Go Go.RowKit

set_option linter.unusedSimpArgs false
set_option linter.unusedVariables false
theorem encV_len {l : List Int} (h : Nrm l) : (encV l).length ≤ 1000 := by
  unfold encV
  rw [List.length_append]
  have h1 := enc_len9 (n := l.length) (by have := h.len; omega)
  have h2 := flat_len l h.rng
  have := h.len
  omega
theorem sameE_any (A B : Option Addr) (l : List UInt8) (n c d : Nat) (hn : l.length = n) (hm : n ≤ 1099511627776) (w : World) (h : Byt w w.heap.size A l) (h' : Byt w w.heap.size B l) :
    Calls Try.prog 27 #[.slice A n c, .slice B n d] w fun e w' => e = .returned (.bool true) ∧ Below w.heap.size w w' :=
  (same_eq A B l n c d hn hm w h h').mono fun _ _ ⟨h1, k, h2⟩ => ⟨h1, by subst h2; exact below_drewN (Below.refl _ _) k⟩
set_option maxHeartbeats 4000000 in
theorem vectorPuts_walk (hlv : Lives10) (bA vA : Option Addr) (bl : List UInt8) (vl : List Int) (bn bc vn vc : Nat) (hb : bl.length = bn) (hbc : bn ≤ bc) (hbm : bc ≤ 9223372036854775807) (hv : vl.length = vn) (hvc : vn ≤ vc) (hvm : vc ≤ 9223372036854775807) (wS : World) (hEb : Byt wS wS.heap.size bA bl) (hEv : Els encN wS wS.heap.size vA vl) :
    Calls Try.prog 7 #[.slice bA bn bc, .slice vA vn vc] wS fun e w' => e = .returned (.bool true) ∧ Below wS.heap.size wS w' := by
  have HLV := hid hlv
  have HF := hid (few10_any vA vl vn vc hv hvc hvm wS hEv)
  have HEB := hid hEb
  have HBL := hid hb
  clear hlv hEv hv hEb hb
  go_enter Try.func7, Try.ntmps7
  go_wp2_with fail
  refine HF.out.mono ?_
  rintro er wq ⟨m, rfl, h1, h2, h3, h4, hw⟩
  have hw2 : wS = wq := hw.symm
  subst hw2
  have HV := hid h4
  obtain ⟨v, hx⟩ : ∃ y, vl.take 20 = y := ⟨_, rfl⟩
  rw [hx] at HV h1
  have HN := hid h1
  clear h1 h3 h4 hx hw
  by_cases h20 : 20 < bn
  · have h20i : (20 : Int) < (bn : Int) := by omega
    have h20c : 20 ≤ bc := by omega
    obtain ⟨x, hx⟩ : ∃ y, bl.take 20 = y := ⟨_, rfl⟩
    have HXL : Hid (x.length = 20) := hid (by rw [← hx, List.length_take, HBL.out]; omega)
    have HX : Hid (Byt wS wS.heap.size bA x) := hid (by rw [← hx]; exact HEB.out.head (hi := 20))
    clear hx HEB
    go_wp2_with fail
    refine (put10_any bA x 20 bc HXL.out (by omega) vA v m vc HN.out (by omega) _ HX.out HV.out).mono ?_
    rintro er w1 ⟨hr, hb⟩
    have HB1 := hid hb
    have HX1 := hid ((HX.out.below hb).more hb.size)
    have HV1 := hid ((HV.out.below hb).more hb.size)
    clear hb HX HV
    rcases hr with ⟨hno, rfl⟩ | ⟨hyes, A1, N1, c1, rfl, hN1, ho⟩
    · have HNO := hid hno
      clear hno
      go_wp2_with fail
      refine (refPut10_any bA x 20 bc HXL.out (by omega) vA v m vc HN.out (by omega) _ HX1.out HV1.out).mono ?_
      rintro er w2 ⟨hr, hb⟩
      have HB2 := hid (HB1.out.trans (hb.mono HB1.out.size))
      clear hb
      obtain ⟨-, rfl⟩ : ¬ Nrm v ∧ er = .returned (.tuple #[.slice none 0 0, .int .i64 1]) := by
        rcases hr with h | h
        · exact h
        · exact absurd h.1 HNO.out
      clear hr
      go_wp2_with fail
      refine (sameE_any none none [] 0 0 0 rfl (by omega) _ Byt.nil Byt.nil).mono ?_
      rintro er w3 ⟨rfl, hb⟩
      have HB3 := hid (HB2.out.trans (hb.mono HB2.out.size))
      clear hb
      go_wp2_with fail
      refine (HLV.out _).mono ?_
      rintro er w4 ⟨rfl, hb⟩
      have HB4 := hid (HB3.out.trans (hb.mono HB3.out.size))
      clear hb
      go_wp2_with fail
      go_ret
      exact ⟨rfl, HB4.out⟩
    · have HYES := hid hyes
      have HN1 := hid hN1
      have HO1 := hid ho.byt
      have hle : N1 ≤ 1020 := by have h1 := encV_len hyes; rw [List.length_append] at hN1; have := HXL.out; omega
      clear hyes hN1 ho
      go_wp2_with fail
      refine (refPut10_any bA x 20 bc HXL.out (by omega) vA v m vc HN.out (by omega) _ HX1.out HV1.out).mono ?_
      rintro er w2 ⟨hr, hb⟩
      have HB2 := hid (HB1.out.trans (hb.mono HB1.out.size))
      have HO2 := hid ((HO1.out.below hb).more hb.size)
      clear hb
      obtain ⟨A2, N2, c2, rfl, hN2, ho2⟩ : ∃ (A' : Option Addr) (N c' : Nat), er = .returned (.tuple #[.slice A' N c', .int .i64 0]) ∧ (x ++ encV v).length = N ∧ OwnB w2 w1.heap.size (.slice A' N c') N (x ++ encV v) := by
        rcases hr with h | h
        · exact absurd HYES.out h.1
        · exact h.2
      obtain rfl : N1 = N2 := HN1.out.symm.trans hN2
      have HP2 := hid ho2.byt
      clear hr ho2 hN2
      go_wp2_with fail
      refine (sameE_any A1 A2 (x ++ encV v) N1 c1 c2 HN1.out (by omega) _ HO2.out HP2.out).mono ?_
      rintro er w3 ⟨rfl, hb⟩
      have HB3 := hid (HB2.out.trans (hb.mono HB2.out.size))
      clear hb
      go_wp2_with fail
      refine (HLV.out _).mono ?_
      rintro er w4 ⟨rfl, hb⟩
      have HB4 := hid (HB3.out.trans (hb.mono HB3.out.size))
      clear hb
      go_wp2_with fail
      go_ret
      exact ⟨rfl, HB4.out⟩
  · have h20i : ¬ (20 : Int) < (bn : Int) := by omega
    obtain ⟨x, hx⟩ : ∃ y, bl = y := ⟨_, rfl⟩
    rw [hx] at HBL HEB
    have HXL := HBL
    have HX := HEB
    clear hx HEB HBL
    go_wp2_with fail
    refine (put10_any bA x bn bc HXL.out (by omega) vA v m vc HN.out (by omega) _ HX.out HV.out).mono ?_
    rintro er w1 ⟨hr, hb⟩
    have HB1 := hid hb
    have HX1 := hid ((HX.out.below hb).more hb.size)
    have HV1 := hid ((HV.out.below hb).more hb.size)
    clear hb HX HV
    rcases hr with ⟨hno, rfl⟩ | ⟨hyes, A1, N1, c1, rfl, hN1, ho⟩
    · have HNO := hid hno
      clear hno
      go_wp2_with fail
      refine (refPut10_any bA x bn bc HXL.out (by omega) vA v m vc HN.out (by omega) _ HX1.out HV1.out).mono ?_
      rintro er w2 ⟨hr, hb⟩
      have HB2 := hid (HB1.out.trans (hb.mono HB1.out.size))
      clear hb
      obtain ⟨-, rfl⟩ : ¬ Nrm v ∧ er = .returned (.tuple #[.slice none 0 0, .int .i64 1]) := by
        rcases hr with h | h
        · exact h
        · exact absurd h.1 HNO.out
      clear hr
      go_wp2_with fail
      refine (sameE_any none none [] 0 0 0 rfl (by omega) _ Byt.nil Byt.nil).mono ?_
      rintro er w3 ⟨rfl, hb⟩
      have HB3 := hid (HB2.out.trans (hb.mono HB2.out.size))
      clear hb
      go_wp2_with fail
      refine (HLV.out _).mono ?_
      rintro er w4 ⟨rfl, hb⟩
      have HB4 := hid (HB3.out.trans (hb.mono HB3.out.size))
      clear hb
      go_wp2_with fail
      go_ret
      exact ⟨rfl, HB4.out⟩
    · have HYES := hid hyes
      have HN1 := hid hN1
      have HO1 := hid ho.byt
      have hle : N1 ≤ 1020 := by have h1 := encV_len hyes; rw [List.length_append] at hN1; have := HXL.out; omega
      clear hyes hN1 ho
      go_wp2_with fail
      refine (refPut10_any bA x bn bc HXL.out (by omega) vA v m vc HN.out (by omega) _ HX1.out HV1.out).mono ?_
      rintro er w2 ⟨hr, hb⟩
      have HB2 := hid (HB1.out.trans (hb.mono HB1.out.size))
      have HO2 := hid ((HO1.out.below hb).more hb.size)
      clear hb
      obtain ⟨A2, N2, c2, rfl, hN2, ho2⟩ : ∃ (A' : Option Addr) (N c' : Nat), er = .returned (.tuple #[.slice A' N c', .int .i64 0]) ∧ (x ++ encV v).length = N ∧ OwnB w2 w1.heap.size (.slice A' N c') N (x ++ encV v) := by
        rcases hr with h | h
        · exact absurd HYES.out h.1
        · exact h.2
      obtain rfl : N1 = N2 := HN1.out.symm.trans hN2
      have HP2 := hid ho2.byt
      clear hr ho2 hN2
      go_wp2_with fail
      refine (sameE_any A1 A2 (x ++ encV v) N1 c1 c2 HN1.out (by omega) _ HO2.out HP2.out).mono ?_
      rintro er w3 ⟨rfl, hb⟩
      have HB3 := hid (HB2.out.trans (hb.mono HB2.out.size))
      clear hb
      go_wp2_with fail
      refine (HLV.out _).mono ?_
      rintro er w4 ⟨rfl, hb⟩
      have HB4 := hid (HB3.out.trans (hb.mono HB3.out.size))
      clear hb
      go_wp2_with fail
      go_ret
      exact ⟨rfl, HB4.out⟩
end Go.Proofs.Ytkaakbgpkpkeeaa.Sh
