/-
  The program's own Put of a vector, by contract.
-/
import Derived.Test.YtkaakbgpkpkeeaaVePgC
import Derived.Test.YtkaakbgpkpkeeaaVePut
import Derived.Test.YtkaakbgpkpkeeaaBaCat
namespace Go.Proofs.Ytkaakbgpkpkeeaa.Sh
open Go Go.RowKit

set_option linter.unusedSimpArgs false
set_option linter.unusedVariables false
theorem sls_pair (w : World) (s t : Sl) (hs : s.l.length = s.n) (ht : t.l.length = t.n) (h1 : Byt w w.heap.size s.A s.l) (h2 : Byt w w.heap.size t.A t.l) (e : TypeId) :
    Sls (w.alloc (.cells #[s.val, t.val] e)) (w.alloc (.cells #[s.val, t.val] e)).heap.size (some ⟨w.heap.size, 0, none⟩) [s, t] := fun _ => by
  have hb : Below w.heap.size w (w.alloc (.cells #[s.val, t.val] e)) := (Below.refl _ _).alloc (Nat.le_refl _) _
  refine ⟨_, rfl, by simp, fun j x hx => ?_⟩
  rw [addr_rowN, cell_of_row _ _ j _ _ (0, 0) (heap_alloc_new w _)]
  match j, hx with
  | 0, hx =>
    obtain rfl : s = x := by simpa using hx
    exact ⟨rfl, hs, (h1.below hb).more hb.size⟩
  | 1, hx =>
    obtain rfl : t = x := by simpa using hx
    exact ⟨rfl, ht, (h2.below hb).more hb.size⟩
set_option maxHeartbeats 4000000 in
theorem put10_any (A0 : Option Addr) (ahead : List UInt8) (n0 c0 : Nat) (h0 : ahead.length = n0) (hL : n0 ≤ 1000000) (A : Option Addr) (l : List Int) (n c : Nat) (hn : l.length = n) (hs : n ≤ 1099511627776) (w : World) (hb : Byt w w.heap.size A0 ahead) (h : Els encN w w.heap.size A l) :
    Calls Try.prog 25 #[.slice A0 n0 c0, .slice A n c] w fun e w' => ((¬ Nrm l ∧ e = .returned (.tuple #[.slice none 0 0, .int .i64 1])) ∨ (Nrm l ∧ ∃ (A' : Option Addr) (N c' : Nat), e = .returned (.tuple #[.slice A' N c', .int .i64 0]) ∧ (ahead ++ encV l).length = N ∧ OwnB w' w.heap.size (.slice A' N c') N (ahead ++ encV l))) ∧ Below w.heap.size w w' := by
  have HM := hid (may_any A l n c hn hs w h)
  have HEL := hid (fun W (hW : Below w.heap.size w W) => (h.below hW).more hW.size)
  have HBY := hid (fun W (hW : Below w.heap.size w W) => (hb.below hW).more hW.size)
  have HN := hid hn
  have H0 := hid h0
  by_cases hN : Nrm l
  · have HNL := hid hN
    rw [show @decide (Nrm l) (Classical.propDecidable _) = true from @decide_eq_true _ (Classical.propDecidable _) hN] at HM
    have hn16 : n ≤ 16 := by rw [← hn]; exact hN.len
    clear hb h hn h0 hN
    go_enter Try.func25, Try.ntmps25
    go_wp2_with fail
    refine HM.out.mono ?_
    rintro er w1 ⟨rfl, hb1⟩
    have HB1 := hid hb1
    have HP := hid (number_any none [] (n : Int) 0 0 rfl (by omega) (by omega) (by omega) w1 Byt.nil)
    clear hb1
    go_wp2_with fail
    refine HP.out.mono ?_
    rintro er w2 ⟨A2, c2, N2, rfl, hN2, hc2, hc2', o2, b2⟩
    have HO2 : Hid (OwnB w2 w.heap.size (.slice A2 N2 c2) N2 (enc n)) := hid (by have := own_mono' o2 HB1.out.size; simpa [OwnB] using this)
    have HB2 : Hid (Below w.heap.size w w2) := hid (HB1.out.trans (b2.mono HB1.out.size))
    have HL2 : Hid (N2 = (enc n).length) := hid (by rw [hN2]; simp)
    clear hN2 hc2 hc2' o2 b2
    go_wp2_with fail
    go_loopw [6, 17] (fun v i wr => ∃ (A3 : Option Addr) (N3 c3 j : Nat), v = .slice A3 N3 c3 ∧ i = .int .i64 (j : Int) ∧ j ≤ n ∧ Hid (N3 = (enc n).length + ((l.take j).flatMap fun z => enc z.toNat).length) ∧ Hid (OwnB wr w.heap.size (.slice A3 N3 c3) N3 (enc n ++ (l.take j).flatMap fun z => enc z.toNat)) ∧ Hid (Below w.heap.size w wr)) (fun _ i _ => n - (intOf i).toNat)
    case atStart => exact ⟨A2, N2, c2, 0, rfl, rfl, Nat.zero_le _, hid (by rw [HL2.out]; simp), hid (by simpa using HO2.out), HB2⟩
    case round =>
      obtain ⟨wj, hwj⟩ : ∃ x, x = wr := ⟨_, rfl⟩
      subst hwj
      obtain ⟨A3, N3, c3, j, rfl, rfl, hj, HN3, HO3, HB3⟩ := hrel
      have hj0 : (0 : Int) ≤ (j : Int) := Int.natCast_nonneg _
      have hsm' : Hid (N3 ≤ 1000) := hid (by
        have h1 := flat_len (l.take j) (fun y hy => HNL.out.rng y (List.mem_of_mem_take hy))
        have h2 := enc_len9 (n := n) (by omega)
        have h3 := HN3.out
        rw [List.length_take] at h1
        omega)
      by_cases hlt : j < n
      · obtain ⟨z, hz⟩ : ∃ z, l[j]? = some z := ⟨_, List.getElem?_eq_getElem (by rw [HN.out]; exact hlt)⟩
        obtain ⟨ad, rfl, hab, ha⟩ := (HEL.out _ HB3.out).num hz
        have hzr := HNL.out.rng z (List.mem_of_getElem? hz)
        have hj1 : (j : Int) < (n : Int) := by omega
        have hsm : N3 ≤ 1099511627776 := by have := hsm'.out; omega
        have HL3 : Hid ((enc n ++ (l.take j).flatMap fun z => enc z.toNat).length = N3) := hid (by rw [HN3.out, List.length_append])
        have HP3 := hid (number_any A3 _ z N3 c3 HL3.out hsm (by omega) (by omega) wj HO3.out.byt)
        have HFS : Hid (((l.take (j + 1)).flatMap fun z => enc z.toNat) = ((l.take j).flatMap fun z => enc z.toNat) ++ enc z.toNat) := hid (flat_snoc l j hz)
        clear hz hab hzr hsm
        go_wp2_with fail
        refine HP3.out.mono ?_
        rintro er w4 ⟨A4, c4, N4, rfl, hN4, hc4, hc4', o4, b4⟩
        have HO4 : Hid (OwnB w4 w.heap.size (.slice A4 N4 c4) N4 (enc n ++ (l.take (j + 1)).flatMap fun z => enc z.toNat)) := hid (by rw [HFS.out, ← List.append_assoc]; exact own_mono' o4 HB3.out.size)
        have HB4 : Hid (Below w.heap.size w w4) := hid (HB3.out.trans (b4.mono HB3.out.size))
        have HL4 : Hid (N4 = (enc n).length + ((l.take (j + 1)).flatMap fun z => enc z.toNat).length) := hid (by have h3 := HL3.out; have h4 := HN3.out; rw [hN4, HFS.out]; simp only [List.length_append] at h3 h4 ⊢; omega)
        clear hN4 hc4 hc4' o4 b4
        go_wp2_with fail
        go_roundw
        case rel => exact ⟨A4, N4, c4, j + 1, rfl, by go_num, by omega, HL4, HO4, HB4⟩
        case measure => simp [intOf]; omega
      · obtain rfl : j = n := by omega
        have HT : Hid (l.take j = l) := hid (List.take_of_length_le (by rw [HN.out]; exact Nat.le_refl _))
        rw [HT.out] at HN3 HO3
        have HEV : Hid (encV l = enc j ++ l.flatMap fun z => enc z.toNat) := hid (by unfold encV; rw [HN.out])
        rw [← HEV.out] at HO3
        have HLE : Hid ((encV l).length = N3) := hid (by rw [HEV.out, List.length_append, HN3.out])
        obtain ⟨w5, hw5⟩ : ∃ x, x = wj.alloc (.cells #[.slice A0 n0 c0, .slice A3 N3 c3] 32) := ⟨_, rfl⟩
        have HB5 : Hid (Below w.heap.size w w5) := hid (by rw [hw5]; exact HB3.out.alloc HB3.out.size _)
        have HSL : Hid (Sls w5 w5.heap.size (some ⟨wj.heap.size, 0, none⟩) [⟨A0, n0, c0, ahead⟩, ⟨A3, N3, c3, encV l⟩]) := hid (by
          rw [hw5]
          exact sls_pair wj ⟨A0, n0, c0, ahead⟩ ⟨A3, N3, c3, encV l⟩ H0.out HLE.out (HBY.out _ HB3.out) HO3.out.byt _)
        have hsum : sumN [⟨A0, n0, c0, ahead⟩, ⟨A3, N3, c3, encV l⟩] = n0 + N3 := by simp [sumN]
        have hcat : catL [⟨A0, n0, c0, ahead⟩, ⟨A3, N3, c3, encV l⟩] = ahead ++ encV l := by simp [catL]
        have HC := hid (concat_any (some ⟨wj.heap.size, 0, none⟩) _ 2 2 rfl (by omega) (by rw [hsum]; have := hsm'.out; omega) w5 HSL.out)
        rw [hsum, hcat] at HC
        have HW5 := hid hw5
        clear hw5 hsum hcat HSL
        go_wp2_with fail
        rw [← HW5.out]
        refine HC.out.mono ?_
        rintro er w6 ⟨A6, c6, rfl, o6, b6⟩
        have HO6 := hid (own_mono' o6 HB5.out.size)
        have HB6 := hid (HB5.out.trans (b6.mono HB5.out.size))
        clear o6 b6
        go_wp2_with fail
        go_ret2
        exact ⟨.inr ⟨HNL.out, A6, n0 + N3, c6, rfl, by rw [List.length_append, H0.out, HLE.out], HO6.out⟩, HB6.out⟩
  · have HNL := hid hN
    rw [show @decide (Nrm l) (Classical.propDecidable _) = false from @decide_eq_false _ (Classical.propDecidable _) hN] at HM
    clear hb h hn h0 hN
    go_enter Try.func25, Try.ntmps25
    go_wp2_with fail
    refine HM.out.mono ?_
    rintro er w1 ⟨rfl, hb1⟩
    go_wp2_with fail
    go_ret2
    exact ⟨.inl ⟨HNL.out, rfl⟩, hb1⟩
end Go.Proofs.Ytkaakbgpkpkeeaa.Sh
