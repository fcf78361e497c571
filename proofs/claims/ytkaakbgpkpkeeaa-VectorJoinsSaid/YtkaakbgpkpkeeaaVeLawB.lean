/-
  The walks of VectorLeast, VectorOrder and VectorSays (the contract of lives is their premise). Written by mk_velaw.py.
-/
import Derived.Test.YtkaakbgpkpkeeaaVeLawA
namespace Go.Proofs.Ytkaakbgpkpkeeaa.Sh
open Go Go.RowKit

set_option linter.unusedSimpArgs false
set_option linter.unusedVariables false
theorem bel_same {P : Program} {f : FuncId} {args : Array Value} {w : World} {v : Value} (h : Calls P f args w fun e w' => e = .returned v ∧ w = w') : Calls P f args w fun e w' => e = .returned v ∧ Below w.heap.size w w' :=
  h.mono fun _ _ ⟨a, b⟩ => ⟨a, by subst b; exact Below.refl _ _⟩
theorem joinV_lens (v : List Int) (h : Nrm v) : v.length ≤ 16 := h.len
set_option maxHeartbeats 4000000 in
theorem vectorLeast_walk (hlv : Lives10) (aA : Option Addr) (al : List Int) (an ac : Nat) (ha : al.length = an) (hca : an ≤ ac) (hma : ac ≤ 9223372036854775807) (bA : Option Addr) (bl : List Int) (bn bc : Nat) (hb : bl.length = bn) (hcb : bn ≤ bc) (hmb : bc ≤ 9223372036854775807) (cA : Option Addr) (cl : List Int) (cn cc : Nat) (hc : cl.length = cn) (hcc : cn ≤ cc) (hmc : cc ≤ 9223372036854775807) (wS : World) (hEa : Els encN wS wS.heap.size aA al) (hEb : Els encN wS wS.heap.size bA bl) (hEc : Els encN wS wS.heap.size cA cl) :
    Calls Try.prog 5 #[.slice aA an ac, .slice bA bn bc, .slice cA cn cc] wS fun e w' => e = .returned (.bool true) ∧ Below wS.heap.size wS w' := by
  have HLV := hid hlv
  have HaL := hid ha
  have HaC := hid (And.intro hca hma)
  have Ha0 := hid hEa
  have HbL := hid hb
  have HbC := hid (And.intro hcb hmb)
  have Hb0 := hid hEb
  have HcL := hid hc
  have HcC := hid (And.intro hcc hmc)
  have Hc0 := hid hEc
  clear hlv ha hEa hb hEb hc hEc
  go_enter Try.func5, Try.ntmps5
  go_wp2_with fail
  refine (few10_any aA al an ac HaL.out HaC.out.1 HaC.out.2 _ Ha0.out).mono ?_
  rintro er wq ⟨am, rfl, h1, h2a, h3, h4, hw⟩
  have hw2 : wS = wq := hw.symm
  subst hw2
  have HaE := hid h4
  obtain ⟨a, hx⟩ : ∃ y, al.take 20 = y := ⟨_, rfl⟩
  rw [hx] at HaE h1
  have HaN := hid h1
  clear h1 h3 h4 hx hw
  go_wp2_with fail
  refine (few10_any bA bl bn bc HbL.out HbC.out.1 HbC.out.2 _ Hb0.out).mono ?_
  rintro er wq ⟨bm, rfl, h1, h2b, h3, h4, hw⟩
  have hw2 : wS = wq := hw.symm
  subst hw2
  have HbE := hid h4
  obtain ⟨b, hx⟩ : ∃ y, bl.take 20 = y := ⟨_, rfl⟩
  rw [hx] at HbE h1
  have HbN := hid h1
  clear h1 h3 h4 hx hw
  go_wp2_with fail
  refine (few10_any cA cl cn cc HcL.out HcC.out.1 HcC.out.2 _ Hc0.out).mono ?_
  rintro er wq ⟨cm, rfl, h1, h2c, h3, h4, hw⟩
  have hw2 : wS = wq := hw.symm
  subst hw2
  have HcE := hid h4
  obtain ⟨c, hx⟩ : ∃ y, cl.take 20 = y := ⟨_, rfl⟩
  rw [hx] at HcE h1
  have HcN := hid h1
  clear h1 h3 h4 hx hw
  go_wp2_with fail
  have Ha_0 := HaE
  have Hb_0 := HbE
  have Hc_0 := HcE
  have HB_0 := hid (Below.refl wS.heap.size wS)
  refine (join_any aA bA (a) (b) _ _ ac bc HaN.out HbN.out (by omega) (by omega) _ Ha_0.out Hb_0.out).mono ?_
  rintro er w1 ⟨Aj, cj, rfl, ho, hb⟩
  have HB_1 := hid (HB_0.out.trans (hb.mono HB_0.out.size))
  have Ha_1 := hid ((Ha_0.out.below hb).more hb.size)
  have Hb_1 := hid ((Hb_0.out.below hb).more hb.size)
  have Hc_1 := hid ((Hc_0.out.below hb).more hb.size)
  have Hj_1 := hid (ho.els1)
  clear ho
  clear hb HB_0 Ha_0 Hb_0 Hc_0
  go_wp2_with fail
  refine (covers_any Aj aA (joinV a b) (a) _ _ cj ac rfl HaN.out (by have := (joinV_lens (joinV a b) (joinV_nrm _ _)); omega) (by omega) _ Hj_1.out Ha_1.out).mono ?_
  rintro er w2 ⟨rfl, hb⟩
  have HB_2 := hid (HB_1.out.trans (hb.mono HB_1.out.size))
  have Ha_2 := hid ((Ha_1.out.below hb).more hb.size)
  have Hb_2 := hid ((Hb_1.out.below hb).more hb.size)
  have Hc_2 := hid ((Hc_1.out.below hb).more hb.size)
  have Hj_2 := hid ((Hj_1.out.below hb).more hb.size)
  clear hb HB_1 Ha_1 Hb_1 Hc_1 Hj_1
  rw [joinV_left a b]
  go_wp2_with fail
  refine (covers_any Aj bA (joinV a b) (b) _ _ cj bc rfl HbN.out (by have := (joinV_lens (joinV a b) (joinV_nrm _ _)); omega) (by omega) _ Hj_2.out Hb_2.out).mono ?_
  rintro er w3 ⟨rfl, hb⟩
  have HB_3 := hid (HB_2.out.trans (hb.mono HB_2.out.size))
  have Ha_3 := hid ((Ha_2.out.below hb).more hb.size)
  have Hb_3 := hid ((Hb_2.out.below hb).more hb.size)
  have Hc_3 := hid ((Hc_2.out.below hb).more hb.size)
  have Hj_3 := hid ((Hj_2.out.below hb).more hb.size)
  clear hb HB_2 Ha_2 Hb_2 Hc_2 Hj_2
  rw [joinV_right a b]
  go_wp2_with fail
  have HLE := hid (joinV_least a b c)
  obtain ⟨x1, hx1⟩ : ∃ x, coverV c a = x := ⟨_, rfl⟩
  obtain ⟨x2, hx2⟩ : ∃ x, coverV c b = x := ⟨_, rfl⟩
  rw [hx1, hx2] at HLE
  have HX1 := hid hx1
  have HX2 := hid hx2
  clear hx1 hx2
  refine (covers_any cA Aj (c) (joinV a b) _ _ cc cj HcN.out rfl (by omega) (by have := (joinV_lens (joinV a b) (joinV_nrm _ _)); omega) _ Hc_3.out Hj_3.out).mono ?_
  rintro er w4 ⟨rfl, hb⟩
  have HB_4 := hid (HB_3.out.trans (hb.mono HB_3.out.size))
  have Ha_4 := hid ((Ha_3.out.below hb).more hb.size)
  have Hb_4 := hid ((Hb_3.out.below hb).more hb.size)
  have Hc_4 := hid ((Hc_3.out.below hb).more hb.size)
  have Hj_4 := hid ((Hj_3.out.below hb).more hb.size)
  clear hb HB_3 Ha_3 Hb_3 Hc_3 Hj_3
  rw [HLE.out]
  go_wp2_with fail
  refine (covers_any cA aA (c) (a) _ _ cc ac HcN.out HaN.out (by omega) (by omega) _ Hc_4.out Ha_4.out).mono ?_
  rintro er w5 ⟨rfl, hb⟩
  have HB_5 := hid (HB_4.out.trans (hb.mono HB_4.out.size))
  have Ha_5 := hid ((Ha_4.out.below hb).more hb.size)
  have Hb_5 := hid ((Hb_4.out.below hb).more hb.size)
  have Hc_5 := hid ((Hc_4.out.below hb).more hb.size)
  have Hj_5 := hid ((Hj_4.out.below hb).more hb.size)
  clear hb HB_4 Ha_4 Hb_4 Hc_4 Hj_4
  rw [HX1.out]
  cases x1
  · go_wp2_with fail
    refine (HLV.out _).mono ?_
    rintro er w6 ⟨rfl, hb⟩
    have HB_6 := hid (HB_5.out.trans (hb.mono HB_5.out.size))
    have Ha_6 := hid ((Ha_5.out.below hb).more hb.size)
    have Hb_6 := hid ((Hb_5.out.below hb).more hb.size)
    have Hc_6 := hid ((Hc_5.out.below hb).more hb.size)
    have Hj_6 := hid ((Hj_5.out.below hb).more hb.size)
    clear hb HB_5 Ha_5 Hb_5 Hc_5 Hj_5
    go_wp2_with fail
    go_ret
    exact ⟨rfl, HB_6.out⟩
  · go_wp2_with fail
    refine (covers_any cA bA (c) (b) _ _ cc bc HcN.out HbN.out (by omega) (by omega) _ Hc_5.out Hb_5.out).mono ?_
    rintro er w6 ⟨rfl, hb⟩
    have HB_6 := hid (HB_5.out.trans (hb.mono HB_5.out.size))
    have Ha_6 := hid ((Ha_5.out.below hb).more hb.size)
    have Hb_6 := hid ((Hb_5.out.below hb).more hb.size)
    have Hc_6 := hid ((Hc_5.out.below hb).more hb.size)
    have Hj_6 := hid ((Hj_5.out.below hb).more hb.size)
    clear hb HB_5 Ha_5 Hb_5 Hc_5 Hj_5
    rw [HX2.out]
    cases x2
    · go_wp2_with fail
      refine (HLV.out _).mono ?_
      rintro er w7 ⟨rfl, hb⟩
      have HB_7 := hid (HB_6.out.trans (hb.mono HB_6.out.size))
      have Ha_7 := hid ((Ha_6.out.below hb).more hb.size)
      have Hb_7 := hid ((Hb_6.out.below hb).more hb.size)
      have Hc_7 := hid ((Hc_6.out.below hb).more hb.size)
      have Hj_7 := hid ((Hj_6.out.below hb).more hb.size)
      clear hb HB_6 Ha_6 Hb_6 Hc_6 Hj_6
      go_wp2_with fail
      go_ret
      exact ⟨rfl, HB_7.out⟩
    · go_wp2_with fail
      refine (HLV.out _).mono ?_
      rintro er w7 ⟨rfl, hb⟩
      have HB_7 := hid (HB_6.out.trans (hb.mono HB_6.out.size))
      have Ha_7 := hid ((Ha_6.out.below hb).more hb.size)
      have Hb_7 := hid ((Hb_6.out.below hb).more hb.size)
      have Hc_7 := hid ((Hc_6.out.below hb).more hb.size)
      have Hj_7 := hid ((Hj_6.out.below hb).more hb.size)
      clear hb HB_6 Ha_6 Hb_6 Hc_6 Hj_6
      go_wp2_with fail
      go_ret
      exact ⟨rfl, HB_7.out⟩
set_option maxHeartbeats 4000000 in
theorem vectorOrder_walk (hlv : Lives10) (aA : Option Addr) (al : List Int) (an ac : Nat) (ha : al.length = an) (hca : an ≤ ac) (hma : ac ≤ 9223372036854775807) (bA : Option Addr) (bl : List Int) (bn bc : Nat) (hb : bl.length = bn) (hcb : bn ≤ bc) (hmb : bc ≤ 9223372036854775807) (cA : Option Addr) (cl : List Int) (cn cc : Nat) (hc : cl.length = cn) (hcc : cn ≤ cc) (hmc : cc ≤ 9223372036854775807) (wS : World) (hEa : Els encN wS wS.heap.size aA al) (hEb : Els encN wS wS.heap.size bA bl) (hEc : Els encN wS wS.heap.size cA cl) :
    Calls Try.prog 6 #[.slice aA an ac, .slice bA bn bc, .slice cA cn cc] wS fun e w' => e = .returned (.bool true) ∧ Below wS.heap.size wS w' := by
  have HLV := hid hlv
  have HaL := hid ha
  have HaC := hid (And.intro hca hma)
  have Ha0 := hid hEa
  have HbL := hid hb
  have HbC := hid (And.intro hcb hmb)
  have Hb0 := hid hEb
  have HcL := hid hc
  have HcC := hid (And.intro hcc hmc)
  have Hc0 := hid hEc
  clear hlv ha hEa hb hEb hc hEc
  go_enter Try.func6, Try.ntmps6
  go_wp2_with fail
  refine (few10_any aA al an ac HaL.out HaC.out.1 HaC.out.2 _ Ha0.out).mono ?_
  rintro er wq ⟨am, rfl, h1, h2a, h3, h4, hw⟩
  have hw2 : wS = wq := hw.symm
  subst hw2
  have HaE := hid h4
  obtain ⟨a, hx⟩ : ∃ y, al.take 20 = y := ⟨_, rfl⟩
  rw [hx] at HaE h1
  have HaN := hid h1
  clear h1 h3 h4 hx hw
  go_wp2_with fail
  refine (few10_any bA bl bn bc HbL.out HbC.out.1 HbC.out.2 _ Hb0.out).mono ?_
  rintro er wq ⟨bm, rfl, h1, h2b, h3, h4, hw⟩
  have hw2 : wS = wq := hw.symm
  subst hw2
  have HbE := hid h4
  obtain ⟨b, hx⟩ : ∃ y, bl.take 20 = y := ⟨_, rfl⟩
  rw [hx] at HbE h1
  have HbN := hid h1
  clear h1 h3 h4 hx hw
  go_wp2_with fail
  refine (few10_any cA cl cn cc HcL.out HcC.out.1 HcC.out.2 _ Hc0.out).mono ?_
  rintro er wq ⟨cm, rfl, h1, h2c, h3, h4, hw⟩
  have hw2 : wS = wq := hw.symm
  subst hw2
  have HcE := hid h4
  obtain ⟨c, hx⟩ : ∃ y, cl.take 20 = y := ⟨_, rfl⟩
  rw [hx] at HcE h1
  have HcN := hid h1
  clear h1 h3 h4 hx hw
  go_wp2_with fail
  have Ha_0 := HaE
  have Hb_0 := HbE
  have Hc_0 := HcE
  have HB_0 := hid (Below.refl wS.heap.size wS)
  refine (join_any aA bA (a) (b) _ _ ac bc HaN.out HbN.out (by omega) (by omega) _ Ha_0.out Hb_0.out).mono ?_
  rintro er w1 ⟨Ap, cp, rfl, ho, hb⟩
  have HB_1 := hid (HB_0.out.trans (hb.mono HB_0.out.size))
  have Ha_1 := hid ((Ha_0.out.below hb).more hb.size)
  have Hb_1 := hid ((Hb_0.out.below hb).more hb.size)
  have Hc_1 := hid ((Hc_0.out.below hb).more hb.size)
  have Hp_1 := hid (ho.els1)
  clear ho
  clear hb HB_0 Ha_0 Hb_0 Hc_0
  go_wp2_with fail
  refine (join_any bA aA (b) (a) _ _ bc ac HbN.out HaN.out (by omega) (by omega) _ Hb_1.out Ha_1.out).mono ?_
  rintro er w2 ⟨Aq, cq, rfl, ho, hb⟩
  have HB_2 := hid (HB_1.out.trans (hb.mono HB_1.out.size))
  have Ha_2 := hid ((Ha_1.out.below hb).more hb.size)
  have Hb_2 := hid ((Hb_1.out.below hb).more hb.size)
  have Hc_2 := hid ((Hc_1.out.below hb).more hb.size)
  have Hp_2 := hid ((Hp_1.out.below hb).more hb.size)
  have Hq_2 := hid (ho.els1)
  clear ho
  clear hb HB_1 Ha_1 Hb_1 Hc_1 Hp_1
  go_wp2_with fail
  refine (sameB_any Ap Aq (joinV a b) (joinV b a) _ _ cp cq rfl rfl (by have := (joinV_lens (joinV a b) (joinV_nrm _ _)); omega) (by have := (joinV_lens (joinV b a) (joinV_nrm _ _)); omega) _ Hp_2.out Hq_2.out).mono ?_
  rintro er w3 ⟨rfl, hb⟩
  have HB_3 := hid (HB_2.out.trans (hb.mono HB_2.out.size))
  have Ha_3 := hid ((Ha_2.out.below hb).more hb.size)
  have Hb_3 := hid ((Hb_2.out.below hb).more hb.size)
  have Hc_3 := hid ((Hc_2.out.below hb).more hb.size)
  have Hp_3 := hid ((Hp_2.out.below hb).more hb.size)
  have Hq_3 := hid ((Hq_2.out.below hb).more hb.size)
  clear hb HB_2 Ha_2 Hb_2 Hc_2 Hp_2 Hq_2
  rw [show decide (joinV a b = joinV b a) = true from decide_eq_true (joinV_comm a b)]
  go_wp2_with fail
  refine (join_any aA bA (a) (b) _ _ ac bc HaN.out HbN.out (by omega) (by omega) _ Ha_3.out Hb_3.out).mono ?_
  rintro er w4 ⟨Ar, cr, rfl, ho, hb⟩
  have HB_4 := hid (HB_3.out.trans (hb.mono HB_3.out.size))
  have Ha_4 := hid ((Ha_3.out.below hb).more hb.size)
  have Hb_4 := hid ((Hb_3.out.below hb).more hb.size)
  have Hc_4 := hid ((Hc_3.out.below hb).more hb.size)
  have Hp_4 := hid ((Hp_3.out.below hb).more hb.size)
  have Hq_4 := hid ((Hq_3.out.below hb).more hb.size)
  have Hr_4 := hid (ho.els1)
  clear ho
  clear hb HB_3 Ha_3 Hb_3 Hc_3 Hp_3 Hq_3
  go_wp2_with fail
  refine (join_any Ar cA (joinV a b) (c) _ _ cr cc rfl HcN.out (by have := (joinV_lens (joinV a b) (joinV_nrm _ _)); omega) (by omega) _ Hr_4.out Hc_4.out).mono ?_
  rintro er w5 ⟨As, cs, rfl, ho, hb⟩
  have HB_5 := hid (HB_4.out.trans (hb.mono HB_4.out.size))
  have Ha_5 := hid ((Ha_4.out.below hb).more hb.size)
  have Hb_5 := hid ((Hb_4.out.below hb).more hb.size)
  have Hc_5 := hid ((Hc_4.out.below hb).more hb.size)
  have Hp_5 := hid ((Hp_4.out.below hb).more hb.size)
  have Hq_5 := hid ((Hq_4.out.below hb).more hb.size)
  have Hr_5 := hid ((Hr_4.out.below hb).more hb.size)
  have Hs_5 := hid (ho.els1)
  clear ho
  clear hb HB_4 Ha_4 Hb_4 Hc_4 Hp_4 Hq_4 Hr_4
  go_wp2_with fail
  refine (join_any bA cA (b) (c) _ _ bc cc HbN.out HcN.out (by omega) (by omega) _ Hb_5.out Hc_5.out).mono ?_
  rintro er w6 ⟨At, ct, rfl, ho, hb⟩
  have HB_6 := hid (HB_5.out.trans (hb.mono HB_5.out.size))
  have Ha_6 := hid ((Ha_5.out.below hb).more hb.size)
  have Hb_6 := hid ((Hb_5.out.below hb).more hb.size)
  have Hc_6 := hid ((Hc_5.out.below hb).more hb.size)
  have Hp_6 := hid ((Hp_5.out.below hb).more hb.size)
  have Hq_6 := hid ((Hq_5.out.below hb).more hb.size)
  have Hr_6 := hid ((Hr_5.out.below hb).more hb.size)
  have Hs_6 := hid ((Hs_5.out.below hb).more hb.size)
  have Ht_6 := hid (ho.els1)
  clear ho
  clear hb HB_5 Ha_5 Hb_5 Hc_5 Hp_5 Hq_5 Hr_5 Hs_5
  go_wp2_with fail
  refine (join_any aA At (a) (joinV b c) _ _ ac ct HaN.out rfl (by omega) (by have := (joinV_lens (joinV b c) (joinV_nrm _ _)); omega) _ Ha_6.out Ht_6.out).mono ?_
  rintro er w7 ⟨Au, cu, rfl, ho, hb⟩
  have HB_7 := hid (HB_6.out.trans (hb.mono HB_6.out.size))
  have Ha_7 := hid ((Ha_6.out.below hb).more hb.size)
  have Hb_7 := hid ((Hb_6.out.below hb).more hb.size)
  have Hc_7 := hid ((Hc_6.out.below hb).more hb.size)
  have Hp_7 := hid ((Hp_6.out.below hb).more hb.size)
  have Hq_7 := hid ((Hq_6.out.below hb).more hb.size)
  have Hr_7 := hid ((Hr_6.out.below hb).more hb.size)
  have Hs_7 := hid ((Hs_6.out.below hb).more hb.size)
  have Ht_7 := hid ((Ht_6.out.below hb).more hb.size)
  have Hu_7 := hid (ho.els1)
  clear ho
  clear hb HB_6 Ha_6 Hb_6 Hc_6 Hp_6 Hq_6 Hr_6 Hs_6 Ht_6
  go_wp2_with fail
  refine (sameB_any As Au (joinV (joinV a b) c) (joinV a (joinV b c)) _ _ cs cu rfl rfl (by have := (joinV_lens (joinV (joinV a b) c) (joinV_nrm _ _)); omega) (by have := (joinV_lens (joinV a (joinV b c)) (joinV_nrm _ _)); omega) _ Hs_7.out Hu_7.out).mono ?_
  rintro er w8 ⟨rfl, hb⟩
  have HB_8 := hid (HB_7.out.trans (hb.mono HB_7.out.size))
  have Ha_8 := hid ((Ha_7.out.below hb).more hb.size)
  have Hb_8 := hid ((Hb_7.out.below hb).more hb.size)
  have Hc_8 := hid ((Hc_7.out.below hb).more hb.size)
  have Hp_8 := hid ((Hp_7.out.below hb).more hb.size)
  have Hq_8 := hid ((Hq_7.out.below hb).more hb.size)
  have Hr_8 := hid ((Hr_7.out.below hb).more hb.size)
  have Hs_8 := hid ((Hs_7.out.below hb).more hb.size)
  have Ht_8 := hid ((Ht_7.out.below hb).more hb.size)
  have Hu_8 := hid ((Hu_7.out.below hb).more hb.size)
  clear hb HB_7 Ha_7 Hb_7 Hc_7 Hp_7 Hq_7 Hr_7 Hs_7 Ht_7 Hu_7
  rw [show decide (joinV (joinV a b) c = joinV a (joinV b c)) = true from decide_eq_true (joinV_assoc a b c)]
  go_wp2_with fail
  refine (join_any aA aA (a) (a) _ _ ac ac HaN.out HaN.out (by omega) (by omega) _ Ha_8.out Ha_8.out).mono ?_
  rintro er w9 ⟨Av, cv, rfl, ho, hb⟩
  have HB_9 := hid (HB_8.out.trans (hb.mono HB_8.out.size))
  have Ha_9 := hid ((Ha_8.out.below hb).more hb.size)
  have Hb_9 := hid ((Hb_8.out.below hb).more hb.size)
  have Hc_9 := hid ((Hc_8.out.below hb).more hb.size)
  have Hp_9 := hid ((Hp_8.out.below hb).more hb.size)
  have Hq_9 := hid ((Hq_8.out.below hb).more hb.size)
  have Hr_9 := hid ((Hr_8.out.below hb).more hb.size)
  have Hs_9 := hid ((Hs_8.out.below hb).more hb.size)
  have Ht_9 := hid ((Ht_8.out.below hb).more hb.size)
  have Hu_9 := hid ((Hu_8.out.below hb).more hb.size)
  have Hv_9 := hid (ho.els1)
  clear ho
  clear hb HB_8 Ha_8 Hb_8 Hc_8 Hp_8 Hq_8 Hr_8 Hs_8 Ht_8 Hu_8
  go_wp2_with fail
  refine (bare_any aA a am ac HaN.out (by omega) _ Ha_9.out).mono ?_
  rintro er w10 ⟨Ay, cy, rfl, ho, hb⟩
  have HB_10 := hid (HB_9.out.trans (hb.mono HB_9.out.size))
  have Ha_10 := hid ((Ha_9.out.below hb).more hb.size)
  have Hb_10 := hid ((Hb_9.out.below hb).more hb.size)
  have Hc_10 := hid ((Hc_9.out.below hb).more hb.size)
  have Hp_10 := hid ((Hp_9.out.below hb).more hb.size)
  have Hq_10 := hid ((Hq_9.out.below hb).more hb.size)
  have Hr_10 := hid ((Hr_9.out.below hb).more hb.size)
  have Hs_10 := hid ((Hs_9.out.below hb).more hb.size)
  have Ht_10 := hid ((Ht_9.out.below hb).more hb.size)
  have Hu_10 := hid ((Hu_9.out.below hb).more hb.size)
  have Hv_10 := hid ((Hv_9.out.below hb).more hb.size)
  have Hy_10 := hid (ho.els1)
  clear ho
  clear hb HB_9 Ha_9 Hb_9 Hc_9 Hp_9 Hq_9 Hr_9 Hs_9 Ht_9 Hu_9 Hv_9
  go_wp2_with fail
  refine (sameB_any Av Ay (joinV a a) (bareV a) _ _ cv cy rfl rfl (by have := (joinV_lens (joinV a a) (joinV_nrm _ _)); omega) (by have := (joinV_lens (bareV a) (bareV_nrm _)); omega) _ Hv_10.out Hy_10.out).mono ?_
  rintro er w11 ⟨rfl, hb⟩
  have HB_11 := hid (HB_10.out.trans (hb.mono HB_10.out.size))
  have Ha_11 := hid ((Ha_10.out.below hb).more hb.size)
  have Hb_11 := hid ((Hb_10.out.below hb).more hb.size)
  have Hc_11 := hid ((Hc_10.out.below hb).more hb.size)
  have Hp_11 := hid ((Hp_10.out.below hb).more hb.size)
  have Hq_11 := hid ((Hq_10.out.below hb).more hb.size)
  have Hr_11 := hid ((Hr_10.out.below hb).more hb.size)
  have Hs_11 := hid ((Hs_10.out.below hb).more hb.size)
  have Ht_11 := hid ((Ht_10.out.below hb).more hb.size)
  have Hu_11 := hid ((Hu_10.out.below hb).more hb.size)
  have Hv_11 := hid ((Hv_10.out.below hb).more hb.size)
  have Hy_11 := hid ((Hy_10.out.below hb).more hb.size)
  clear hb HB_10 Ha_10 Hb_10 Hc_10 Hp_10 Hq_10 Hr_10 Hs_10 Ht_10 Hu_10 Hv_10 Hy_10
  rw [show decide (joinV a a = bareV a) = true from decide_eq_true (joinV_self a)]
  go_wp2_with fail
  refine (HLV.out _).mono ?_
  rintro er w12 ⟨rfl, hb⟩
  have HB_12 := hid (HB_11.out.trans (hb.mono HB_11.out.size))
  have Ha_12 := hid ((Ha_11.out.below hb).more hb.size)
  have Hb_12 := hid ((Hb_11.out.below hb).more hb.size)
  have Hc_12 := hid ((Hc_11.out.below hb).more hb.size)
  have Hp_12 := hid ((Hp_11.out.below hb).more hb.size)
  have Hq_12 := hid ((Hq_11.out.below hb).more hb.size)
  have Hr_12 := hid ((Hr_11.out.below hb).more hb.size)
  have Hs_12 := hid ((Hs_11.out.below hb).more hb.size)
  have Ht_12 := hid ((Ht_11.out.below hb).more hb.size)
  have Hu_12 := hid ((Hu_11.out.below hb).more hb.size)
  have Hv_12 := hid ((Hv_11.out.below hb).more hb.size)
  have Hy_12 := hid ((Hy_11.out.below hb).more hb.size)
  clear hb HB_11 Ha_11 Hb_11 Hc_11 Hp_11 Hq_11 Hr_11 Hs_11 Ht_11 Hu_11 Hv_11 Hy_11
  go_wp2_with fail
  go_ret
  exact ⟨rfl, HB_12.out⟩
set_option maxHeartbeats 4000000 in
theorem vectorSays_walk (hlv : Lives10) (vA : Option Addr) (vl : List Int) (vn vc : Nat) (hv : vl.length = vn) (hcv : vn ≤ vc) (hmv : vc ≤ 9223372036854775807) (d z : Int) (hd : -9223372036854775808 ≤ d) (wS : World) (hEv : Els encN wS wS.heap.size vA vl) :
    Calls Try.prog 3 #[.slice vA vn vc, .int .i64 d, .int .i64 z] wS fun e w' => e = .returned (.bool true) ∧ Below wS.heap.size wS w' := by
  have HLV := hid hlv
  have HvL := hid hv
  have HvC := hid (And.intro hcv hmv)
  have Hv0 := hid hEv
  clear hlv hv hEv
  go_enter Try.func3, Try.ntmps3
  go_wp2_with fail
  refine (few10_any vA vl vn vc HvL.out HvC.out.1 HvC.out.2 _ Hv0.out).mono ?_
  rintro er wq ⟨vm, rfl, h1, h2v, h3, h4, hw⟩
  have hw2 : wS = wq := hw.symm
  subst hw2
  have HvE := hid h4
  obtain ⟨v, hx⟩ : ∃ y, vl.take 20 = y := ⟨_, rfl⟩
  rw [hx] at HvE h1
  have HvN := hid h1
  clear h1 h3 h4 hx hw
  go_wp2_with fail
  have Hv_0 := HvE
  have HB_0 := hid (Below.refl wS.heap.size wS)
  refine (bare_any vA v vm vc HvN.out (by omega) _ Hv_0.out).mono ?_
  rintro er w1 ⟨Ap, cp, rfl, ho, hb⟩
  have HB_1 := hid (HB_0.out.trans (hb.mono HB_0.out.size))
  have Hv_1 := hid ((Hv_0.out.below hb).more hb.size)
  have Hp_1 := hid (ho.els1)
  clear ho
  clear hb HB_0 Hv_0
  go_wp2_with fail
  refine (refBare_any vA v vm vc HvN.out (by omega) _ Hv_1.out).mono ?_
  rintro er w2 ⟨Aq, cq, rfl, ho, hb⟩
  have HB_2 := hid (HB_1.out.trans (hb.mono HB_1.out.size))
  have Hv_2 := hid ((Hv_1.out.below hb).more hb.size)
  have Hp_2 := hid ((Hp_1.out.below hb).more hb.size)
  have Hq_2 := hid (ho.els1)
  clear ho
  clear hb HB_1 Hv_1 Hp_1
  go_wp2_with fail
  refine (sameB_any Ap Aq (bareV v) (bareV v) _ _ cp cq rfl rfl (by have := (joinV_lens (bareV v) (bareV_nrm _)); omega) (by have := (joinV_lens (bareV v) (bareV_nrm _)); omega) _ Hp_2.out Hq_2.out).mono ?_
  rintro er w3 ⟨rfl, hb⟩
  have HB_3 := hid (HB_2.out.trans (hb.mono HB_2.out.size))
  have Hv_3 := hid ((Hv_2.out.below hb).more hb.size)
  have Hp_3 := hid ((Hp_2.out.below hb).more hb.size)
  have Hq_3 := hid ((Hq_2.out.below hb).more hb.size)
  clear hb HB_2 Hv_2 Hp_2 Hq_2
  rw [show decide (bareV v = bareV v) = true from decide_eq_true (rfl)]
  go_wp2_with fail
  refine (with_any vA v vm vc HvN.out (by omega) d z _ Hv_3.out).mono ?_
  rintro er w4 ⟨Ar, cr, rfl, ho, hb⟩
  have HB_4 := hid (HB_3.out.trans (hb.mono HB_3.out.size))
  have Hv_4 := hid ((Hv_3.out.below hb).more hb.size)
  have Hp_4 := hid ((Hp_3.out.below hb).more hb.size)
  have Hq_4 := hid ((Hq_3.out.below hb).more hb.size)
  have Hr_4 := hid (ho.els1)
  clear ho
  clear hb HB_3 Hv_3 Hp_3 Hq_3
  go_wp2_with fail
  refine (refWith_any vA v vm vc HvN.out (by omega) d z _ Hv_4.out).mono ?_
  rintro er w5 ⟨As, cs, rfl, ho, hb⟩
  have HB_5 := hid (HB_4.out.trans (hb.mono HB_4.out.size))
  have Hv_5 := hid ((Hv_4.out.below hb).more hb.size)
  have Hp_5 := hid ((Hp_4.out.below hb).more hb.size)
  have Hq_5 := hid ((Hq_4.out.below hb).more hb.size)
  have Hr_5 := hid ((Hr_4.out.below hb).more hb.size)
  have Hs_5 := hid (ho.els1)
  clear ho
  clear hb HB_4 Hv_4 Hp_4 Hq_4 Hr_4
  go_wp2_with fail
  refine (sameB_any Ar As (withV v d z) (withV v d z) _ _ cr cs rfl rfl (by have := (joinV_lens (withV v d z) (withV_nrm _ _ _)); omega) (by have := (joinV_lens (withV v d z) (withV_nrm _ _ _)); omega) _ Hr_5.out Hs_5.out).mono ?_
  rintro er w6 ⟨rfl, hb⟩
  have HB_6 := hid (HB_5.out.trans (hb.mono HB_5.out.size))
  have Hv_6 := hid ((Hv_5.out.below hb).more hb.size)
  have Hp_6 := hid ((Hp_5.out.below hb).more hb.size)
  have Hq_6 := hid ((Hq_5.out.below hb).more hb.size)
  have Hr_6 := hid ((Hr_5.out.below hb).more hb.size)
  have Hs_6 := hid ((Hs_5.out.below hb).more hb.size)
  clear hb HB_5 Hv_5 Hp_5 Hq_5 Hr_5 Hs_5
  rw [show decide (withV v d z = withV v d z) = true from decide_eq_true (rfl)]
  go_wp2_with fail
  obtain ⟨y, hy⟩ : ∃ y, @decide (Nrm v) (Classical.propDecidable _) = y := ⟨_, rfl⟩
  have HY := hid hy
  clear hy
  refine (may_any vA v vm vc HvN.out (by omega) _ Hv_6.out).mono ?_
  rintro er w7 ⟨rfl, hb⟩
  have HB_7 := hid (HB_6.out.trans (hb.mono HB_6.out.size))
  have Hv_7 := hid ((Hv_6.out.below hb).more hb.size)
  have Hp_7 := hid ((Hp_6.out.below hb).more hb.size)
  have Hq_7 := hid ((Hq_6.out.below hb).more hb.size)
  have Hr_7 := hid ((Hr_6.out.below hb).more hb.size)
  have Hs_7 := hid ((Hs_6.out.below hb).more hb.size)
  clear hb HB_6 Hv_6 Hp_6 Hq_6 Hr_6 Hs_6
  rw [HY.out]
  go_wp2_with fail
  refine (refMay_any vA v vm vc HvN.out (by omega) _ Hv_7.out).mono ?_
  rintro er w8 ⟨rfl, hb⟩
  have HB_8 := hid (HB_7.out.trans (hb.mono HB_7.out.size))
  have Hv_8 := hid ((Hv_7.out.below hb).more hb.size)
  have Hp_8 := hid ((Hp_7.out.below hb).more hb.size)
  have Hq_8 := hid ((Hq_7.out.below hb).more hb.size)
  have Hr_8 := hid ((Hr_7.out.below hb).more hb.size)
  have Hs_8 := hid ((Hs_7.out.below hb).more hb.size)
  clear hb HB_7 Hv_7 Hp_7 Hq_7 Hr_7 Hs_7
  rw [HY.out]
  go_wp2_with fail
  obtain ⟨y2, hy⟩ : ∃ y, vget v d = y := ⟨_, rfl⟩
  have HY2 := hid hy
  clear hy
  refine (get_any vA v vm vc HvN.out (by omega) d hd _ Hv_8.out).mono ?_
  rintro er w9 ⟨rfl, hb⟩
  have HB_9 := hid (HB_8.out.trans (hb.mono HB_8.out.size))
  have Hv_9 := hid ((Hv_8.out.below hb).more hb.size)
  have Hp_9 := hid ((Hp_8.out.below hb).more hb.size)
  have Hq_9 := hid ((Hq_8.out.below hb).more hb.size)
  have Hr_9 := hid ((Hr_8.out.below hb).more hb.size)
  have Hs_9 := hid ((Hs_8.out.below hb).more hb.size)
  clear hb HB_8 Hv_8 Hp_8 Hq_8 Hr_8 Hs_8
  rw [HY2.out]
  go_wp2_with fail
  refine (bel_same (refGet_any vA v vm vc HvN.out (by omega) d hd _ Hv_9.out)).mono ?_
  rintro er w10 ⟨rfl, hb⟩
  have HB_10 := hid (HB_9.out.trans (hb.mono HB_9.out.size))
  have Hv_10 := hid ((Hv_9.out.below hb).more hb.size)
  have Hp_10 := hid ((Hp_9.out.below hb).more hb.size)
  have Hq_10 := hid ((Hq_9.out.below hb).more hb.size)
  have Hr_10 := hid ((Hr_9.out.below hb).more hb.size)
  have Hs_10 := hid ((Hs_9.out.below hb).more hb.size)
  clear hb HB_9 Hv_9 Hp_9 Hq_9 Hr_9 Hs_9
  rw [HY2.out]
  go_wp2_with fail
  refine (HLV.out _).mono ?_
  rintro er w11 ⟨rfl, hb⟩
  have HB_11 := hid (HB_10.out.trans (hb.mono HB_10.out.size))
  have Hv_11 := hid ((Hv_10.out.below hb).more hb.size)
  have Hp_11 := hid ((Hp_10.out.below hb).more hb.size)
  have Hq_11 := hid ((Hq_10.out.below hb).more hb.size)
  have Hr_11 := hid ((Hr_10.out.below hb).more hb.size)
  have Hs_11 := hid ((Hs_10.out.below hb).more hb.size)
  clear hb HB_10 Hv_10 Hp_10 Hq_10 Hr_10 Hs_10
  go_wp2_with fail
  go_ret
  exact ⟨rfl, HB_11.out⟩
end Go.Proofs.Ytkaakbgpkpkeeaa.Sh
