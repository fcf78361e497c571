/-
  The walks of VectorJoins and VectorLeast (the contract of lives is their premise).
-/
import Derived.Test.YtkaakbgpkpkeeaaVePg
import Derived.Test.YtkaakbgpkpkeeaaVeFew
namespace Go.Proofs.Ytkaakbgpkpkeeaa.Sh
open Go Go.RowKit

set_option linter.unusedSimpArgs false
set_option linter.unusedVariables false
def Lives10 : Prop := ∀ w : World, Calls Try.prog 20 #[] w fun e w' => e = .returned (.bool true) ∧ Below w.heap.size w w'
theorem joinV_len (a b : List Int) : (joinV a b).length ≤ 16 := (joinV_nrm a b).len
theorem sameB_any (A B : Option Addr) (xs ys : List Int) (n m c d : Nat) (hn : xs.length = n) (hm : ys.length = m) (hs : n ≤ 1099511627776) (hs2 : m ≤ 1099511627776) (w : World) (h : Els encN w w.heap.size A xs) (h' : Els encN w w.heap.size B ys) :
    Calls Try.prog 11 #[.slice A n c, .slice B m d] w fun e w' => e = .returned (.bool (decide (xs = ys))) ∧ Below w.heap.size w w' :=
  (sameN_any A B xs ys n m c d hn hm hs hs2 w h h').mono fun _ _ ⟨h1, k, h2⟩ => ⟨h1, by subst h2; exact below_drewN (Below.refl _ _) k⟩
set_option maxHeartbeats 4000000 in
theorem vectorJoins_walk (hlv : Lives10) (A B : Option Addr) (l l' : List Int) (n n' c c' : Nat) (hn : l.length = n) (hn' : l'.length = n') (hc : n ≤ c) (hc' : n' ≤ c') (hm : c ≤ 9223372036854775807) (hm' : c' ≤ 9223372036854775807) (w : World) (h : Els encN w w.heap.size A l) (h' : Els encN w w.heap.size B l') :
    Calls Try.prog 4 #[.slice A n c, .slice B n' c'] w fun e w' => e = .returned (.bool true) ∧ Below w.heap.size w w' := by
  have HF := hid (few10_any A l n c hn hc hm w h)
  have HG := hid (few10_any B l' n' c' hn' hc' hm' w h')
  have HLV := hid hlv
  clear h h' hn hn' hlv
  go_enter Try.func4, Try.ntmps4
  go_wp2_with fail
  refine HF.out.mono ?_
  rintro er w' ⟨m, rfl, h1, h2, h3, h4, rfl⟩
  have HA := hid h4
  obtain ⟨a, ha⟩ : ∃ a, l.take 20 = a := ⟨_, rfl⟩
  rw [ha] at HA h1
  have HAN := hid h1
  clear h1 h3 h4 ha
  go_wp2_with fail
  refine HG.out.mono ?_
  rintro er w' ⟨m', rfl, h1, h5, h3, h4, rfl⟩
  have HB := hid h4
  obtain ⟨b, hb⟩ : ∃ b, l'.take 20 = b := ⟨_, rfl⟩
  rw [hb] at HB h1
  have HBN := hid h1
  clear h1 h3 h4 hb
  go_wp2_with fail
  refine (join_any A B a b m m' c c' HAN.out HBN.out (by omega) (by omega) _ HA.out HB.out).mono ?_
  rintro er w2 ⟨A2, c2, rfl, ho, hb⟩
  have HO := hid (ho.els1)
  have HB2 := hid hb
  have HA2 := hid ((HA.out.below hb).more hb.size)
  have HBB2 := hid ((HB.out.below hb).more hb.size)
  clear ho hb
  go_wp2_with fail
  refine (refJoin_any A B a b m m' c c' HAN.out HBN.out (by omega) (by omega) _ HA2.out HBB2.out).mono ?_
  rintro er w3 ⟨A3, c3, rfl, ho, hb⟩
  have HO3 := hid (ho.els1)
  have HB3 := hid (HB2.out.trans (hb.mono HB2.out.size))
  have HO2 := hid ((HO.out.below hb).more hb.size)
  have HA3 := hid ((HA2.out.below hb).more hb.size)
  have HBB3 := hid ((HBB2.out.below hb).more hb.size)
  clear ho hb
  go_wp2_with fail
  have hjl := joinV_len a b
  refine (sameB_any A2 A3 _ _ _ _ c2 c3 rfl rfl (by omega) (by omega) _ HO2.out HO3.out).mono ?_
  rintro er w4 ⟨rfl, hb⟩
  rw [show decide (joinV a b = joinV a b) = true from decide_eq_true rfl]
  have HB4 := hid (HB3.out.trans (hb.mono HB3.out.size))
  have HA4 := hid ((HA3.out.below hb).more hb.size)
  have HBB4 := hid ((HBB3.out.below hb).more hb.size)
  clear hjl hb HO HO2 HO3
  go_wp2_with fail
  refine (covers_any A B a b m m' c c' HAN.out HBN.out (by omega) (by omega) _ HA4.out HBB4.out).mono ?_
  rintro er w5 ⟨rfl, hb⟩
  have HB5 := hid (HB4.out.trans (hb.mono HB4.out.size))
  have HA5 := hid ((HA4.out.below hb).more hb.size)
  have HBB5 := hid ((HBB4.out.below hb).more hb.size)
  clear hb
  go_wp2_with fail
  refine (refCovers_any A B a b m m' c c' HAN.out HBN.out (by omega) (by omega) _ HA5.out HBB5.out).mono ?_
  rintro er w6 ⟨rfl, rfl⟩
  go_wp2_with fail
  refine (HLV.out _).mono ?_
  rintro er w7 ⟨rfl, hb⟩
  have HB7 := hid (HB5.out.trans (hb.mono HB5.out.size))
  clear hb
  go_wp2_with fail
  go_ret
  exact ⟨rfl, HB7.out⟩
end Go.Proofs.Ytkaakbgpkpkeeaa.Sh
