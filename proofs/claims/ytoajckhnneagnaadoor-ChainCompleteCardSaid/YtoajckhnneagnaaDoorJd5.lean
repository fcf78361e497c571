/-
  The program's own Number, by contract.
-/
import Derived.Test.YtoajckhnneagnaaDoorJd4
import Derived.Test.YtoajckhnneagnaaDoorJd2
import Derived.Test.YtoajckhnneagnaaDoorJd3
set_option linter.unusedVariables false
set_option linter.unusedSimpArgs false
namespace Go.Proofs.YtoajckhnneagnaaDoor.Sh
open Go Go.RowKit

set_option maxHeartbeats 2000000 in
theorem nnum_any (s : ByteArray) (w : World) : Calls Tryd.prog 80 #[.string s] w fun e w' => e = .returned (.int .i64 (numL s.data.toList : Int)) ∧ Below w.heap.size w w' := by
  obtain ⟨l, hl⟩ : ∃ l, s.data.toList = l := ⟨_, rfl⟩
  have hsz := size_list s
  rw [hl] at hsz ⊢
  have HL := hid hl
  have HSZ := hid hsz
  clear hl hsz
  go_enter Tryd.func80, Tryd.ntmps80
  go_wp2
  go_loopw [3] (fun n wr => ∃ k m : Nat, n = .int .i64 (m : Int) ∧ k ≤ s.size ∧ m ≤ 16 ∧ Hid (numAt l k m) ∧ wr = w.iter s k) (fun _ wr => s.size - wr.iterPos w.heap.size)
  case atStart => exact ⟨0, 0, rfl, by omega, by omega, hid (.inl ⟨rfl, rfl⟩), rfl⟩
  case round =>
    obtain ⟨k, m, rfl, hk, hm, HA, rfl⟩ := hrel
    by_cases hlt : k < s.size
    · obtain ⟨x, hx⟩ : ∃ x, l[k]? = some x := ⟨_, List.getElem?_eq_getElem (by rw [HSZ.out]; exact hlt)⟩
      obtain ⟨R, Z, hN, hkZ, hZ, hR, hlow, hhigh, _⟩ := next_at s (k := k) (x := x) (by rw [HL.out]; exact hx)
      have hnx := hN Tryd.prog w
      have HX := hid hx
      have hk00 : (0 : Int) ≤ (k : Int) := Int.natCast_nonneg _
      by_cases hk0 : k = 0
      · subst hk0
        have hm0 : m = 0 := by rcases HA.out with h | h | h | h <;> omega
        subst hm0
        by_cases h100 : x.toNat = 100
        · obtain ⟨e1, e2⟩ := hlow (by omega)
          subst e2
          have hRi : (R : Int) = 100 := by omega
          have HO : Hid (numAt l 1 0) := hid (.inr (.inl ⟨rfl, rfl, by rw [HX.out]; congr 1; exact UInt8.toNat_inj.1 h100⟩))
          clear hlow hhigh hN hx
          go_wp2
          go_roundw
          case rel => exact ⟨1, 0, by first | rfl | go_num, by omega, by omega, HO, rfl⟩
          case measure => simp [World.iterPos_iter]; omega
        · have hRi : ¬ (R : Int) = 100 := by
            rcases Nat.lt_or_ge x.toNat 128 with h | h
            · rw [(hlow h).1]; omega
            · have := hhigh h; omega
          have HF : Hid (numL l = 0) := hid (num_bad0 HX.out h100)
          clear hlow hhigh hN hx
          go_wp2
          go_ret
          exact ⟨by rw [HF.out]; rfl, iter_below _ _ _⟩
      · have hk0' : ¬ (k : Int) = 0 := by omega
        have h2 := digN_of (fun h => (hlow h).1) hhigh
        obtain ⟨b2, hb2⟩ : ∃ b, digit x = b := ⟨_, rfl⟩
        have C2 : Hid (∀ w, Calls Tryd.prog 89 #[.int .i32 (R : Int)] w fun e w' => e = .returned (.bool b2) ∧ w = w') := hid (fun w => by rw [← hb2, ← h2]; exact digit_any R hR w)
        have HB2 := hid hb2
        have HLOW := hid hlow
        clear hx h2 hb2 hlow hhigh hN
        go_wp2_with fail
        refine (C2.out _).mono ?_
        rintro er w2 ⟨rfl, rfl⟩
        cases b2 with
        | false =>
          have HF : Hid (numL l = 0) := hid (num_bad HA.out (by omega) HX.out HB2.out)
          go_wp2
          go_ret
          exact ⟨by rw [HF.out]; rfl, iter_below _ _ _⟩
        | true =>
          have hxd : 48 ≤ x.toNat ∧ x.toNat ≤ 57 := by have := HB2.out; unfold digit at this; simp at this; omega
          obtain ⟨e1, e2⟩ := HLOW.out (by omega)
          subst e2 e1
          obtain ⟨hs1, hs2⟩ := num_step HA.out (by omega) HX.out HB2.out
          have hr1 : 48 ≤ (x.toNat : Int) := by omega
          have hr2 : (x.toNat : Int) ≤ 57 := by omega
          have hm' : (0 : Int) ≤ (m : Int) := Int.natCast_nonneg _
          have hm16 : (m : Int) ≤ 16 := by omega
          by_cases hz : 10 * m + (x.toNat - 48) = 0
          · have HF : Hid (numL l = 0) := hid (hs1 (.inl hz))
            have hz' : 10 * (m : Int) + ((x.toNat : Int) - 48) = 0 := by omega
            clear hs1 hs2 HLOW
            go_wp2
            go_ret
            exact ⟨by rw [HF.out]; rfl, iter_below _ _ _⟩
          · have hz' : ¬ 10 * (m : Int) + ((x.toNat : Int) - 48) = 0 := by omega
            by_cases hbig : 16 < 10 * m + (x.toNat - 48)
            · have HF : Hid (numL l = 0) := hid (hs1 (.inr hbig))
              have hb' : 16 < 10 * (m : Int) + ((x.toNat : Int) - 48) := by omega
              clear hs1 hs2 HLOW
              go_wp2
              go_ret
              exact ⟨by rw [HF.out]; rfl, iter_below _ _ _⟩
            · have hb' : ¬ 16 < 10 * (m : Int) + ((x.toNat : Int) - 48) := by omega
              have HO : Hid (numAt l (k + 1) (10 * m + (x.toNat - 48))) := hid (hs2 hz (by omega))
              have hzb : (10 * (m : Int) + ((x.toNat : Int) - 48) == 0) = false := beq_eq_false_iff_ne.2 hz'
              have HV : Hid (((10 * m + (x.toNat - 48) : Nat) : Int) = 10 * (m : Int) + ((x.toNat : Int) - 48)) := hid (by omega)
              clear hs1 hs2 HLOW
              go_wp2
              go_roundw
              case rel => exact ⟨k + 1, 10 * m + (x.toNat - 48), by rw [HV.out], by omega, by omega, HO, rfl⟩
              case measure => simp [World.iterPos_iter]; omega
    · obtain rfl : k = s.size := by omega
      have hnx := fun ty => run_next_end (P := Tryd.prog) w s s.size ty hlt
      have HF : Hid (numL l = m) := hid (numAt_end (by rw [HSZ.out]; exact HA.out))
      go_wp2
      go_ret
      exact ⟨by rw [HF.out]; rfl, iter_below _ _ _⟩
end Go.Proofs.YtoajckhnneagnaaDoor.Sh
namespace Go.Proofs.YtoajckhnneagnaaDoor.Sh
open Go Go.RowKit

def digB (n : Int) : ByteArray := ⟨(if n < 10 then [UInt8.ofNat (48 + n.toNat)] else [49, UInt8.ofNat (38 + n.toNat)]).toArray⟩
theorem upto16 {n : Int} (h1 : 1 ≤ n) (h2 : n ≤ 16) : n = 1 ∨ n = 2 ∨ n = 3 ∨ n = 4 ∨ n = 5 ∨ n = 6 ∨ n = 7 ∨ n = 8 ∨ n = 9 ∨ n = 10 ∨ n = 11 ∨ n = 12 ∨ n = 13 ∨ n = 14 ∨ n = 15 ∨ n = 16 := by omega
set_option maxRecDepth 100000 in
theorem small_any (n : Int) (h1 : 1 ≤ n) (h2 : n ≤ 16) (w : World) : Calls Tryd.prog 96 #[.int .i64 n] w fun e w' => e = .returned (.string (digB n)) ∧ w = w' := by
  rcases upto16 h1 h2 with rfl | rfl | rfl | rfl | rfl | rfl | rfl | rfl | rfl | rfl | rfl | rfl | rfl | rfl | rfl | rfl
  all_goals
    go_enter Tryd.func96, Tryd.ntmps96
    go_wp2
    go_ret
    exact ⟨by kernel_rfl, rfl⟩
theorem formatInt_any (n : Int) (h1 : 1 ≤ n) (h2 : n ≤ 16) (w : World) : Calls Tryd.prog 93 #[.int .i64 n, .int .i64 10] w fun e w' => e = .returned (.string (digB n)) ∧ w = w' := by
  have HS := hid (small_any n h1 h2)
  have g1 : 0 ≤ n := by omega
  have g2 : n < 100 := by omega
  go_enter Tryd.func93, Tryd.ntmps93
  go_wp2_with fail
  refine (HS.out _).mono ?_
  rintro er w2 ⟨rfl, rfl⟩
  go_wp2
  go_ret
  exact ⟨rfl, rfl⟩
theorem itoaIn_any (n : Int) (h1 : 1 ≤ n) (h2 : n ≤ 16) (w : World) : Calls Tryd.prog 81 #[.int .i64 n] w fun e w' => e = .returned (.string (digB n)) ∧ w = w' := by
  have HS := hid (formatInt_any n h1 h2)
  go_enter Tryd.func81, Tryd.ntmps81
  go_wp2_with fail
  refine (HS.out _).mono ?_
  rintro er w2 ⟨rfl, rfl⟩
  go_wp2
  go_ret
  exact ⟨rfl, rfl⟩
theorem itoa_any (n : Int) (h1 : 1 ≤ n) (h2 : n ≤ 16) (w : World) : Calls Tryd.prog 64 #[.int .i64 n] w fun e w' => e = .returned (.string (digB n)) ∧ w = w' := by
  have HS := hid (itoaIn_any n h1 h2)
  go_enter Tryd.func64, Tryd.ntmps64
  go_wp2_with fail
  refine (HS.out _).mono ?_
  rintro er w2 ⟨rfl, rfl⟩
  go_wp2
  go_ret
  exact ⟨rfl, rfl⟩
theorem digB_dom {n : Int} (h1 : 1 ≤ n) (h2 : n ≤ 16) : (⟨#[100]⟩ : ByteArray) ++ digB n = ⟨(domL n).toArray⟩ := by
  rcases upto16 h1 h2 with rfl | rfl | rfl | rfl | rfl | rfl | rfl | rfl | rfl | rfl | rfl | rfl | rfl | rfl | rfl | rfl
  all_goals kernel_rfl
theorem digB_size (n : Int) : (digB n).size ≤ 2 := by
  unfold digB
  split <;> simp [ByteArray.size]
theorem domain_any (n : Int) (h0 : -9223372036854775808 ≤ n) (h1 : n < 9223372036854775808) (w : World) :
    Calls Tryd.prog 43 #[.int .i64 n] w fun e w' => e = .returned (.string ⟨(domL n).toArray⟩) ∧ Below w.heap.size w w' := by
  by_cases hlo : n < 1
  · have HE := hid (domL_none n (.inl hlo))
    go_enter Tryd.func43, Tryd.ntmps43
    go_wp2
    go_ret
    exact ⟨by rw [HE.out]; rfl, Below.refl _ _⟩
  by_cases hhi : 16 < n
  · have HE := hid (domL_none n (.inr hhi))
    go_enter Tryd.func43, Tryd.ntmps43
    go_wp2
    go_ret
    exact ⟨by rw [HE.out]; rfl, Below.refl _ _⟩
  have HS := hid (itoa_any n (by omega) (by omega))
  have HD := hid (digB_dom (n := n) (by omega) (by omega))
  have hz := digB_size n
  obtain ⟨D, hD⟩ : ∃ D, digB n = D := ⟨_, rfl⟩
  rw [hD] at HS HD hz
  clear hD
  have hz' : (D.size : Int) ≤ 2 := by omega
  go_enter Tryd.func43, Tryd.ntmps43
  go_wp2_with fail
  refine (HS.out _).mono ?_
  rintro er w2 ⟨rfl, rfl⟩
  go_wp2
  go_ret
  exact ⟨by rw [← HD.out]; rfl, Below.refl _ _⟩
theorem role_any (o n : ByteArray) (w : World) :
    Calls Tryd.prog 91 #[.agg #[.string o, .string n]] w fun e w' => e = .returned (.bool (roleL o.data.toList n.data.toList)) ∧ Below w.heap.size w w' := by
  have HM := hid (fun w => may_any n w)
  have HN := hid (fun w => nnum_any o w)
  obtain ⟨m, hm⟩ : ∃ m, mayL n.data.toList = m := ⟨_, rfl⟩
  obtain ⟨k, hk⟩ : ∃ k, numL o.data.toList = k := ⟨_, rfl⟩
  rw [hm] at HM
  rw [hk] at HN
  have HR : Hid (roleL o.data.toList n.data.toList = (m && decide (k ≠ 0))) := hid (by unfold roleL; rw [hm, hk])
  clear hm hk
  go_enter Tryd.func91, Tryd.ntmps91
  obtain ⟨w0, hw0⟩ : ∃ w0, w0 = w.alloc (.cells #[.string o, .string n] 24) := ⟨_, rfl⟩
  have hr0 : w0.heap[w.heap.size]? = some (.cells #[.string o, .string n] 24 (0, 0)) := by rw [hw0]; exact heap_alloc_new w _
  have b0 : Below w.heap.size w w0 := by rw [hw0]; exact (Below.refl _ _).alloc (Nat.le_refl _) _
  go_wp2_with fail
  rw [← hw0]
  clear hw0
  refine (HN.out w0).mono ?_
  rintro er w1 ⟨rfl, bb⟩
  have hr1 := (bb.block w.heap.size (Array.getElem?_eq_some_iff.1 hr0).1).trans hr0
  have b1 := b0.trans (bb.mono b0.size)
  have c1 : w1.cell? ⟨w.heap.size, 1, none⟩ = some (.string n) := by rw [cell_of_row w1 _ 1 _ _ (0, 0) hr1]; rfl
  clear bb b0 hr0 hr1
  by_cases hk : k = 0
  · subst hk
    have HF : Hid (roleL o.data.toList n.data.toList = false) := hid (by rw [HR.out]; simp)
    go_wp2
    go_ret
    exact ⟨by rw [HF.out]; rfl, b1⟩
  · have hk' : (0 : Int) < (k : Int) := by omega
    have HF : Hid (roleL o.data.toList n.data.toList = m) := hid (by rw [HR.out]; simp [hk])
    go_wp2_with fail
    refine (HM.out _).mono ?_
    rintro er w2 ⟨rfl, bb⟩
    have b2 := b1.trans (bb.mono b1.size)
    clear bb b1 c1
    go_wp2
    go_ret
    exact ⟨by rw [HF.out]; rfl, b2⟩
end Go.Proofs.YtoajckhnneagnaaDoor.Sh
namespace Go.Proofs.YtoajckhnneagnaaDoor.Sh
open Go Go.RowKit

theorem between_any (n m : Int) (w : World) : Calls Tryd.prog 72 #[.int .i64 n, .int .i64 m] w fun e w' => e = .returned (.bool (decide (1 ≤ n ∧ n ≤ m))) ∧ w = w' := by
  by_cases h1 : 1 ≤ n
  · by_cases h2 : n ≤ m
    · rw [decide_eq_true (show 1 ≤ n ∧ n ≤ m from ⟨h1, h2⟩)]
      go_enter Tryd.func72, Tryd.ntmps72
      go_wp2
      go_ret
      exact ⟨rfl, rfl⟩
    · rw [decide_eq_false (show ¬ (1 ≤ n ∧ n ≤ m) from fun h => h2 h.2)]
      go_enter Tryd.func72, Tryd.ntmps72
      go_wp2
      go_ret
      exact ⟨rfl, rfl⟩
  · rw [decide_eq_false (show ¬ (1 ≤ n ∧ n ≤ m) from fun h => h1 h.1)]
    go_enter Tryd.func72, Tryd.ntmps72
    go_wp2
    go_ret
    exact ⟨rfl, rfl⟩
theorem local_any (o n : ByteArray) (w : World) :
    Calls Tryd.prog 90 #[.agg #[.string o, .string n]] w fun e w' => e = .returned (.bool (mayB n && decide (o = E0))) ∧ Below w.heap.size w w' := by
  have HM := hid (fun w => may_any n w)
  obtain ⟨m, hm⟩ : ∃ m, mayL n.data.toList = m := ⟨_, rfl⟩
  rw [hm] at HM
  have hm' : mayB n = m := hm
  rw [hm']
  clear hm hm'
  obtain ⟨w0, hw0⟩ : ∃ w0, w0 = w.alloc (.cells #[.string o, .string n] 24) := ⟨_, rfl⟩
  have r0 : RoleAt w0 w.heap.size o n := by rw [hw0]; exact RoleAt.new w o n
  have b0 : Below w.heap.size w w0 := by rw [hw0]; exact below_box w o n
  have z0 := r0.c0
  have z1 := r0.c1
  have R0 := hid r0
  have B0 := hid b0
  clear r0 b0
  by_cases ho : o = E0
  · subst ho
    rw [show (m && decide (E0 = E0)) = m by simp]
    unfold E0 at hw0 z0 ⊢
    go_enter Tryd.func90, Tryd.ntmps90
    rw [hw0] at z0 z1
    go_wp2_with fail
    rw [← hw0] at z0 z1 ⊢
    refine (HM.out _).mono ?_
    rintro er w2 ⟨rfl, bb⟩
    have B2 := hid (B0.out.trans (bb.mono B0.out.size))
    clear bb z0 z1
    go_wp2
    go_ret
    exact ⟨rfl, B2.out⟩
  · obtain ⟨s1, s2, s3, s4⟩ := sne ho
    rw [show (m && decide (o = E0)) = false by simp [ho]]
    clear ho
    go_enter Tryd.func90, Tryd.ntmps90
    rw [hw0] at z0 z1
    go_wp2
    rw [← hw0] at z0 z1 ⊢
    go_ret
    exact ⟨rfl, B0.out⟩

theorem kind_1 {d q : Int} {nm wh ao an bo bn : ByteArray} : kindOk ⟨d, q, nm, 1, wh, ao, an, bo, bn⟩ = (mayB wh && decide (ao = E0 ∧ an = E0) && decide (bo = E0 ∧ bn = E0)) := rfl
theorem kind_2 {d q : Int} {nm wh ao an bo bn : ByteArray} : kindOk ⟨d, q, nm, 2, wh, ao, an, bo, bn⟩ = (decide (wh = E0) && (roleB ao an && decide (bo = E0 ∧ bn = E0))) := rfl
theorem kind_3 {d q : Int} {nm wh ao an bo bn : ByteArray} : kindOk ⟨d, q, nm, 3, wh, ao, an, bo, bn⟩ = (decide (wh = E0) && ((mayB an && decide (ao = E0)) && (mayB bn && decide (bo = E0)))) := rfl
theorem kind_4 {d q : Int} {nm wh ao an bo bn : ByteArray} : kindOk ⟨d, q, nm, 4, wh, ao, an, bo, bn⟩ = (decide (wh = E0) && (roleB ao an && roleB bo bn)) := rfl
theorem kind_5 {d q kd : Int} {nm wh ao an bo bn : ByteArray} (h1 : kd ≠ 1) (h2 : kd ≠ 2) (h3 : kd ≠ 3) (h4 : kd ≠ 4) : kindOk ⟨d, q, nm, kd, wh, ao, an, bo, bn⟩ = false := by
  unfold kindOk
  simp only
  rw [if_neg h1, if_neg h2, if_neg h3, if_neg h4, Bool.and_false]
structure Fl (w w1 : World) (x : Crd) : Prop where
  row : CrAt w1 w.heap.size x
  none : RoleAt w1 (w.heap.size + 1) ⟨#[]⟩ ⟨#[]⟩
  bel : Below w.heap.size w w1
theorem Fl.kept {w w1 w2 : World} {x : Crd} (h : Fl w w1 x) (b : Below w1.heap.size w1 w2) : Fl w w2 x := ⟨h.row.kept b, h.none.kept b, h.bel.trans (b.mono h.bel.size)⟩
theorem Fl.new (w : World) (x : Crd) : Fl w ((w.alloc (.cells x.cells.toArray 55)).alloc (.cells #[.string ⟨#[]⟩, .string ⟨#[]⟩] 24)) x :=
  ⟨(CrAt.new w _).kept (below_box _ _ _), by have := RoleAt.new (w.alloc (.cells x.cells.toArray 55)) ⟨#[]⟩ ⟨#[]⟩; rwa [World.size_alloc] at this, (below_cr w _).alloc (by rw [World.size_alloc]; exact Nat.le_succ _) _⟩

set_option maxHeartbeats 4000000 in
theorem filled_any (c : Crd) (w : World) :
    Calls Tryd.prog 74 #[.agg c.cells.toArray] w fun e w' => e = .returned (.bool (kindOk c)) ∧ Below w.heap.size w w' := by
  obtain ⟨w1, hw1⟩ : ∃ w1, w1 = (w.alloc (.cells c.cells.toArray 55)).alloc (.cells #[.string ⟨#[]⟩, .string ⟨#[]⟩] 24) := ⟨_, rfl⟩
  have HF1 := hid (hw1 ▸ Fl.new w c)
  obtain ⟨d, q, nm, kd, wh, ao, an, bo, bn⟩ := c
  have HM2 := hid (fun w => may_any wh w)
  have HM3 := hid (fun w => role_any ao an w)
  have HM4 := hid (fun w => role_any bo bn w)
  have HM5 := hid (fun w => local_any ao an w)
  have HM6 := hid (fun w => local_any bo bn w)
  have K1 := @kind_1 d q nm wh ao an bo bn
  have K2 := @kind_2 d q nm wh ao an bo bn
  have K3 := @kind_3 d q nm wh ao an bo bn
  have K4 := @kind_4 d q nm wh ao an bo bn
  unfold mayB at K1
  unfold roleB at K2 K4
  obtain ⟨b2, hb2⟩ : ∃ b, mayL wh.data.toList = b := ⟨_, rfl⟩
  obtain ⟨b3, hb3⟩ : ∃ b, roleL ao.data.toList an.data.toList = b := ⟨_, rfl⟩
  obtain ⟨b4, hb4⟩ : ∃ b, roleL bo.data.toList bn.data.toList = b := ⟨_, rfl⟩
  obtain ⟨b5, hb5⟩ : ∃ b, (mayB an && decide (ao = E0)) = b := ⟨_, rfl⟩
  obtain ⟨b6, hb6⟩ : ∃ b, (mayB bn && decide (bo = E0)) = b := ⟨_, rfl⟩
  rw [hb2] at HM2 K1
  rw [hb3] at HM3 K2 K4
  rw [hb4] at HM4 K4
  rw [hb5] at HM5 K3
  rw [hb6] at HM6 K3
  clear hb2 hb3 hb4 hb5 hb6
  have K1 := hid K1
  have K2 := hid K2
  have K3 := hid K3
  have K4 := hid K4
  unfold Crd.cells at hw1 ⊢
  simp only at hw1 ⊢
  obtain ⟨c0, c1, c2, c3, c4, c5, c6, c7, c8⟩ := HF1.out.row.all
  have z0 := HF1.out.none.c0
  have z1 := HF1.out.none.c1
  by_cases k1 : kd = 1
  · subst k1
    go_enter Tryd.func74, Tryd.ntmps74
    rw [hw1] at c0 c1 c2 c3 c4 c5 c6 c7 c8 z0 z1
    go_wp2_with fail
    rw [← hw1] at c0 c1 c2 c3 c4 c5 c6 c7 c8 z0 z1 ⊢
    clear hw1
    refine (HM2.out _).mono ?_
    rintro er w2 ⟨rfl, bb⟩
    have HF2 := hid (HF1.out.kept bb)
    clear bb c0 c1 c2 c3 c4 c5 c6 c7 c8 z0 z1
    obtain ⟨c0, c1, c2, c3, c4, c5, c6, c7, c8⟩ := HF2.out.row.all
    have z0 := HF2.out.none.c0
    have z1 := HF2.out.none.c1
    cases b2 with
    | false =>
      have HF : Hid (kindOk ⟨d, q, nm, 1, wh, ao, an, bo, bn⟩ = false) := hid (by rw [K1.out]; simp [E0])
      go_wp2
      go_ret
      exact ⟨by rw [HF.out]; rfl, HF2.out.bel⟩
    | true =>
      by_cases zao : ao = E0
      · obtain rfl : ao = ⟨#[]⟩ := zao
        by_cases zan : an = E0
        · obtain rfl : an = ⟨#[]⟩ := zan
          by_cases zbo : bo = E0
          · obtain rfl : bo = ⟨#[]⟩ := zbo
            by_cases zbn : bn = E0
            · obtain rfl : bn = ⟨#[]⟩ := zbn
              have HF : Hid (kindOk ⟨d, q, nm, 1, wh, ⟨#[]⟩, ⟨#[]⟩, ⟨#[]⟩, ⟨#[]⟩⟩ = true) := hid (by rw [K1.out]; simp [E0])
              go_wp2
              go_ret
              exact ⟨by rw [HF.out]; rfl, HF2.out.bel⟩
            · obtain ⟨s1, s2, s3, s4⟩ := sne zbn
              have HF : Hid (kindOk ⟨d, q, nm, 1, wh, ⟨#[]⟩, ⟨#[]⟩, ⟨#[]⟩, bn⟩ = false) := hid (by rw [K1.out]; simp [E0, s4])
              clear zbn
              go_wp2
              go_ret
              exact ⟨by rw [HF.out]; rfl, HF2.out.bel⟩
          · obtain ⟨s1, s2, s3, s4⟩ := sne zbo
            have HF : Hid (kindOk ⟨d, q, nm, 1, wh, ⟨#[]⟩, ⟨#[]⟩, bo, bn⟩ = false) := hid (by rw [K1.out]; simp [E0, s4])
            clear zbo
            go_wp2
            go_ret
            exact ⟨by rw [HF.out]; rfl, HF2.out.bel⟩
        · obtain ⟨s1, s2, s3, s4⟩ := sne zan
          have HF : Hid (kindOk ⟨d, q, nm, 1, wh, ⟨#[]⟩, an, bo, bn⟩ = false) := hid (by rw [K1.out]; simp [E0, s4])
          clear zan
          go_wp2
          go_ret
          exact ⟨by rw [HF.out]; rfl, HF2.out.bel⟩
      · obtain ⟨s1, s2, s3, s4⟩ := sne zao
        have HF : Hid (kindOk ⟨d, q, nm, 1, wh, ao, an, bo, bn⟩ = false) := hid (by rw [K1.out]; simp [E0, s4])
        clear zao
        go_wp2
        go_ret
        exact ⟨by rw [HF.out]; rfl, HF2.out.bel⟩
  by_cases k2 : kd = 2
  · subst k2
    clear k1
    by_cases zwh : wh = E0
    · obtain rfl : wh = ⟨#[]⟩ := zwh
      go_enter Tryd.func74, Tryd.ntmps74
      rw [hw1] at c0 c1 c2 c3 c4 c5 c6 c7 c8 z0 z1
      go_wp2_with fail
      rw [← hw1] at c0 c1 c2 c3 c4 c5 c6 c7 c8 z0 z1 ⊢
      clear hw1
      refine (HM3.out _).mono ?_
      rintro er w2 ⟨rfl, bb⟩
      have HF2 := hid (HF1.out.kept bb)
      clear bb c0 c1 c2 c3 c4 c5 c6 c7 c8 z0 z1
      obtain ⟨c0, c1, c2, c3, c4, c5, c6, c7, c8⟩ := HF2.out.row.all
      have z0 := HF2.out.none.c0
      have z1 := HF2.out.none.c1
      cases b3 with
      | false =>
        have HF : Hid (kindOk ⟨d, q, nm, 2, ⟨#[]⟩, ao, an, bo, bn⟩ = false) := hid (by rw [K2.out]; simp [E0])
        go_wp2
        go_ret
        exact ⟨by rw [HF.out]; rfl, HF2.out.bel⟩
      | true =>
        by_cases zbo : bo = E0
        · obtain rfl : bo = ⟨#[]⟩ := zbo
          by_cases zbn : bn = E0
          · obtain rfl : bn = ⟨#[]⟩ := zbn
            have HF : Hid (kindOk ⟨d, q, nm, 2, ⟨#[]⟩, ao, an, ⟨#[]⟩, ⟨#[]⟩⟩ = true) := hid (by rw [K2.out]; simp [E0])
            go_wp2
            go_ret
            exact ⟨by rw [HF.out]; rfl, HF2.out.bel⟩
          · obtain ⟨s1, s2, s3, s4⟩ := sne zbn
            have HF : Hid (kindOk ⟨d, q, nm, 2, ⟨#[]⟩, ao, an, ⟨#[]⟩, bn⟩ = false) := hid (by rw [K2.out]; simp [E0, s4])
            clear zbn
            go_wp2
            go_ret
            exact ⟨by rw [HF.out]; rfl, HF2.out.bel⟩
        · obtain ⟨s1, s2, s3, s4⟩ := sne zbo
          have HF : Hid (kindOk ⟨d, q, nm, 2, ⟨#[]⟩, ao, an, bo, bn⟩ = false) := hid (by rw [K2.out]; simp [E0, s4])
          clear zbo
          go_wp2
          go_ret
          exact ⟨by rw [HF.out]; rfl, HF2.out.bel⟩
    · obtain ⟨s1, s2, s3, s4⟩ := sne zwh
      have HF : Hid (kindOk ⟨d, q, nm, 2, wh, ao, an, bo, bn⟩ = false) := hid (by rw [K2.out]; simp [E0, s4])
      clear zwh
      go_enter Tryd.func74, Tryd.ntmps74
      rw [hw1] at c0 c1 c2 c3 c4 c5 c6 c7 c8 z0 z1
      go_wp2
      rw [← hw1]
      go_ret
      exact ⟨by rw [HF.out]; rfl, HF1.out.bel⟩
  by_cases k3 : kd = 3
  · subst k3
    clear k1 k2
    by_cases zwh : wh = E0
    · obtain rfl : wh = ⟨#[]⟩ := zwh
      go_enter Tryd.func74, Tryd.ntmps74
      rw [hw1] at c0 c1 c2 c3 c4 c5 c6 c7 c8 z0 z1
      go_wp2_with fail
      rw [← hw1] at c0 c1 c2 c3 c4 c5 c6 c7 c8 z0 z1 ⊢
      clear hw1
      refine (HM5.out _).mono ?_
      rintro er w2 ⟨rfl, bb⟩
      have HF2 := hid (HF1.out.kept bb)
      clear bb c0 c1 c2 c3 c4 c5 c6 c7 c8 z0 z1
      obtain ⟨c0, c1, c2, c3, c4, c5, c6, c7, c8⟩ := HF2.out.row.all
      have z0 := HF2.out.none.c0
      have z1 := HF2.out.none.c1
      cases b5 with
      | false =>
        have HF : Hid (kindOk ⟨d, q, nm, 3, ⟨#[]⟩, ao, an, bo, bn⟩ = false) := hid (by rw [K3.out]; simp [E0])
        go_wp2
        go_ret
        exact ⟨by rw [HF.out]; rfl, HF2.out.bel⟩
      | true =>
        go_wp2_with fail
        refine (HM6.out _).mono ?_
        rintro er w3 ⟨rfl, bb⟩
        have HF3 := hid (HF2.out.kept bb)
        clear bb c0 c1 c2 c3 c4 c5 c6 c7 c8 z0 z1
        obtain ⟨c0, c1, c2, c3, c4, c5, c6, c7, c8⟩ := HF3.out.row.all
        have z0 := HF3.out.none.c0
        have z1 := HF3.out.none.c1
        have HF : Hid (kindOk ⟨d, q, nm, 3, ⟨#[]⟩, ao, an, bo, bn⟩ = b6) := hid (by rw [K3.out]; simp [E0])
        go_wp2
        go_ret
        exact ⟨by rw [HF.out]; rfl, HF3.out.bel⟩
    · obtain ⟨s1, s2, s3, s4⟩ := sne zwh
      have HF : Hid (kindOk ⟨d, q, nm, 3, wh, ao, an, bo, bn⟩ = false) := hid (by rw [K3.out]; simp [E0, s4])
      clear zwh
      go_enter Tryd.func74, Tryd.ntmps74
      rw [hw1] at c0 c1 c2 c3 c4 c5 c6 c7 c8 z0 z1
      go_wp2
      rw [← hw1]
      go_ret
      exact ⟨by rw [HF.out]; rfl, HF1.out.bel⟩
  by_cases k4 : kd = 4
  · subst k4
    clear k1 k2 k3
    go_enter Tryd.func74, Tryd.ntmps74
    rw [hw1] at c0 c1 c2 c3 c4 c5 c6 c7 c8 z0 z1
    go_wp2_with fail
    rw [← hw1] at c0 c1 c2 c3 c4 c5 c6 c7 c8 z0 z1 ⊢
    clear hw1
    refine (HM4.out _).mono ?_
    rintro er w2 ⟨rfl, bb⟩
    have HF2 := hid (HF1.out.kept bb)
    clear bb c0 c1 c2 c3 c4 c5 c6 c7 c8 z0 z1
    obtain ⟨c0, c1, c2, c3, c4, c5, c6, c7, c8⟩ := HF2.out.row.all
    have z0 := HF2.out.none.c0
    have z1 := HF2.out.none.c1
    cases b4 with
    | false =>
      have HF : Hid (kindOk ⟨d, q, nm, 4, wh, ao, an, bo, bn⟩ = false) := hid (by rw [K4.out]; simp [E0])
      go_wp2
      go_ret
      exact ⟨by rw [HF.out]; rfl, HF2.out.bel⟩
    | true =>
      have f7 := HF2.out.row.f 7
      have f8 := HF2.out.row.f 8
      have hF3 : Fl w ((w2.setCell ⟨w.heap.size, 7, none⟩ (.string ⟨#[]⟩)).setCell ⟨w.heap.size, 8, none⟩ (.string ⟨#[]⟩)) ⟨d, q, nm, 4, wh, ao, an, ⟨#[]⟩, ⟨#[]⟩⟩ :=
        ⟨(HF2.out.row.set7 ⟨#[]⟩).set8 ⟨#[]⟩, by
          have g1 := grown_set w2 w.heap.size 7 (.string ⟨#[]⟩)
          have g2 := grown_set (w2.setCell ⟨w.heap.size, 7, none⟩ (.string ⟨#[]⟩)) w.heap.size 8 (.string ⟨#[]⟩)
          have e1 : RoleAt (w2.setCell ⟨w.heap.size, 7, none⟩ (.string ⟨#[]⟩)) (w.heap.size + 1) ⟨#[]⟩ ⟨#[]⟩ := (g1.block _ HF2.out.none.lt (fun e => by injection e with e; omega)).trans HF2.out.none
          exact (g2.block _ e1.lt (fun e => by injection e with e; omega)).trans e1, (HF2.out.bel.setCell (Nat.le_refl _) _).setCell (Nat.le_refl _) _⟩
      have HF3 := hid hF3
      clear hF3
      by_cases zwh : wh = E0
      · obtain rfl : wh = ⟨#[]⟩ := zwh
        go_wp2_with fail
        refine (HM3.out _).mono ?_
        rintro er w4 ⟨rfl, bb⟩
        have HF4 := hid (HF3.out.kept bb)
        clear bb c0 c1 c2 c3 c4 c5 c6 c7 c8 z0 z1 f7 f8
        obtain ⟨c0, c1, c2, c3, c4, c5, c6, c7, c8⟩ := HF4.out.row.all
        have z0 := HF4.out.none.c0
        have z1 := HF4.out.none.c1
        cases b3 with
        | false =>
          have HF : Hid (kindOk ⟨d, q, nm, 4, ⟨#[]⟩, ao, an, bo, bn⟩ = false) := hid (by rw [K4.out]; simp [E0])
          go_wp2
          go_ret
          exact ⟨by rw [HF.out]; rfl, HF4.out.bel⟩
        | true =>
          have HF : Hid (kindOk ⟨d, q, nm, 4, ⟨#[]⟩, ao, an, bo, bn⟩ = true) := hid (by rw [K4.out]; simp [E0])
          go_wp2
          go_ret
          exact ⟨by rw [HF.out]; rfl, HF4.out.bel⟩
      · obtain ⟨s1, s2, s3, s4⟩ := sne zwh
        have HF : Hid (kindOk ⟨d, q, nm, 4, wh, ao, an, bo, bn⟩ = false) := hid (by rw [K4.out]; simp [E0, s4])
        clear zwh
        go_wp2
        go_ret
        exact ⟨by rw [HF.out]; rfl, HF3.out.bel⟩
  · have HF : Hid (kindOk ⟨d, q, nm, kd, wh, ao, an, bo, bn⟩ = false) := hid (kind_5 k1 k2 k3 k4)
    go_enter Tryd.func74, Tryd.ntmps74
    rw [hw1] at c0 c1 c2 c3 c4 c5 c6 c7 c8 z0 z1
    go_wp2
    rw [← hw1]
    go_ret
    exact ⟨by rw [HF.out]; rfl, HF1.out.bel⟩
end Go.Proofs.YtoajckhnneagnaaDoor.Sh
namespace Go.Proofs.YtoajckhnneagnaaDoor.Sh
open Go Go.RowKit

theorem below_id (w : World) (d q : Int) : Below w.heap.size w (w.alloc (.cells #[.int .i64 d, .int .i64 q] 27)) := (Below.refl _ _).alloc (Nat.le_refl _) _
theorem below_id2 (w : World) (d q d' q' : Int) : Below w.heap.size w ((w.alloc (.cells #[.int .i64 d, .int .i64 q] 27)).alloc (.cells #[.int .i64 d', .int .i64 q'] 27)) :=
  (below_id w d q).trans ((below_id _ d' q').mono (by rw [World.size_alloc]; exact Nat.le_succ _))
def beforeI (d q d' q' : Int) : Bool := decide (d < d' ∨ (d = d' ∧ q < q'))
theorem beforeI_trans {d q d' q' d'' q'' : Int} (h1 : beforeI d q d' q' = true) (h2 : beforeI d' q' d'' q'' = true) : beforeI d q d'' q'' = true := by
  unfold beforeI at *
  simp only [decide_eq_true_eq] at *
  omega
theorem refBefore_any (d q d' q' : Int) (w : World) : Calls Tryd.prog 49 #[.agg #[.int .i64 d, .int .i64 q], .agg #[.int .i64 d', .int .i64 q']] w fun er w' => er = .returned (.bool (beforeI d q d' q')) ∧ Below w.heap.size w w' := by
  by_cases h : d = d'
  · subst h
    have hb : (d == d) = true := by simp
    by_cases hq : q < q'
    · have HE : Hid (beforeI d q d q' = true) := hid (by unfold beforeI; simp; omega)
      go_enter Tryd.func49, Tryd.ntmps49
      go_wp2
      go_ret
      exact ⟨by rw [HE.out]; rfl, below_id2 _ _ _ _ _⟩
    · have HE : Hid (beforeI d q d q' = false) := hid (by unfold beforeI; simp; omega)
      go_enter Tryd.func49, Tryd.ntmps49
      go_wp2
      go_ret
      exact ⟨by rw [HE.out]; rfl, below_id2 _ _ _ _ _⟩
  · have hb : (d == d') = false := beq_eq_false_iff_ne.2 h
    by_cases hq : d < d'
    · have HE : Hid (beforeI d q d' q' = true) := hid (by unfold beforeI; simp; omega)
      go_enter Tryd.func49, Tryd.ntmps49
      go_wp2
      go_ret
      exact ⟨by rw [HE.out]; rfl, below_id2 _ _ _ _ _⟩
    · have HE : Hid (beforeI d q d' q' = false) := hid (by unfold beforeI; simp; omega)
      go_enter Tryd.func49, Tryd.ntmps49
      go_wp2
      go_ret
      exact ⟨by rw [HE.out]; rfl, below_id2 _ _ _ _ _⟩

end Go.Proofs.YtoajckhnneagnaaDoor.Sh
namespace Go.Proofs.YtoajckhnneagnaaDoor.Sh
open Go Go.RowKit

theorem mayC_parts (c : Crd) : mayC c = ((decide (1 ≤ c.d ∧ c.d ≤ 16) && decide (1 ≤ c.q ∧ c.q ≤ 4000)) && mayL c.nm.data.toList && kindOk c) := by
  unfold mayC headOk mayB
  have h : decide (1 ≤ c.d ∧ c.d ≤ 16 ∧ 1 ≤ c.q ∧ c.q ≤ 4000) = (decide (1 ≤ c.d ∧ c.d ≤ 16) && decide (1 ≤ c.q ∧ c.q ≤ 4000)) := by
    rw [Bool.eq_iff_iff]; simp only [decide_eq_true_eq, Bool.and_eq_true]; omega
  rw [h]
set_option maxHeartbeats 2000000 in
theorem mayC_any (c : Crd) (w : World) : Calls Tryd.prog 54 #[.agg c.cells.toArray] w fun e w' => e = .returned (.bool (mayC c)) ∧ Below w.heap.size w w' := by
  have HMC := hid (mayC_parts c)
  obtain ⟨w0, hw0⟩ : ∃ w0, w0 = w.alloc (.cells c.cells.toArray 55) := ⟨_, rfl⟩
  have HR0 : Hid (CrAt w0 w.heap.size c) := hid (by rw [hw0]; exact CrAt.new w c)
  have HB0 : Hid (Below w.heap.size w w0) := hid (by rw [hw0]; exact below_cr w c)
  have HFL := hid (fun w => filled_any c w)
  obtain ⟨d, q, nm, kd, wh, ao, an, bo, bn⟩ := c
  have H1 := hid (fun w => between_any d 16 w)
  have H2 := hid (fun w => between_any q 4000 w)
  have H3 := hid (fun w => may_any nm w)
  simp only at HMC
  obtain ⟨B1, hB1⟩ : ∃ B, decide (1 ≤ d ∧ d ≤ 16) = B := ⟨_, rfl⟩
  obtain ⟨B2, hB2⟩ : ∃ B, decide (1 ≤ q ∧ q ≤ 4000) = B := ⟨_, rfl⟩
  obtain ⟨B3, hB3⟩ : ∃ B, mayL nm.data.toList = B := ⟨_, rfl⟩
  obtain ⟨B4, hB4⟩ : ∃ B, kindOk ⟨d, q, nm, kd, wh, ao, an, bo, bn⟩ = B := ⟨_, rfl⟩
  rw [hB1] at H1 HMC
  rw [hB2] at H2 HMC
  rw [hB3] at H3 HMC
  rw [hB4] at HFL HMC
  clear hB1 hB2 hB3 hB4
  unfold Crd.cells at hw0 HFL ⊢
  simp only at hw0 HFL ⊢
  obtain ⟨c0, c1, c2, c3, c4, c5, c6, c7, c8⟩ := HR0.out.all
  go_enter Tryd.func54, Tryd.ntmps54
  rw [hw0] at c0 c1 c2 c3 c4 c5 c6 c7 c8
  go_wp2_with fail
  rw [← hw0] at c0 c1 c2 c3 c4 c5 c6 c7 c8 ⊢
  clear hw0
  refine (H1.out _).mono ?_
  rintro er w1 ⟨rfl, rfl⟩
  cases B1 with
  | false =>
    have HF : Hid (mayC ⟨d, q, nm, kd, wh, ao, an, bo, bn⟩ = false) := hid (by rw [HMC.out]; simp)
    go_wp2
    go_ret
    exact ⟨by rw [HF.out]; rfl, HB0.out⟩
  | true =>
  go_wp2_with fail
  refine (H2.out _).mono ?_
  rintro er w1 ⟨rfl, rfl⟩
  cases B2 with
  | false =>
    have HF : Hid (mayC ⟨d, q, nm, kd, wh, ao, an, bo, bn⟩ = false) := hid (by rw [HMC.out]; simp)
    go_wp2
    go_ret
    exact ⟨by rw [HF.out]; rfl, HB0.out⟩
  | true =>
  go_wp2_with fail
  refine (H3.out _).mono ?_
  rintro er w1 ⟨rfl, bb⟩
  have HR1 := hid (HR0.out.kept bb)
  have HB1 := hid (HB0.out.trans (bb.mono HB0.out.size))
  clear bb c0 c1 c2 c3 c4 c5 c6 c7 c8
  obtain ⟨c0, c1, c2, c3, c4, c5, c6, c7, c8⟩ := HR1.out.all
  cases B3 with
  | false =>
    have HF : Hid (mayC ⟨d, q, nm, kd, wh, ao, an, bo, bn⟩ = false) := hid (by rw [HMC.out]; simp)
    go_wp2
    go_ret
    exact ⟨by rw [HF.out]; rfl, HB1.out⟩
  | true =>
  have HF : Hid (mayC ⟨d, q, nm, kd, wh, ao, an, bo, bn⟩ = B4) := hid (by rw [HMC.out]; simp)
  go_wp2_with fail
  refine (HFL.out _).mono ?_
  rintro er w2 ⟨rfl, bb⟩
  have HB2 := hid (HB1.out.trans (bb.mono HB1.out.size))
  clear bb c0 c1 c2 c3 c4 c5 c6 c7 c8
  go_wp2
  go_ret
  exact ⟨by rw [HF.out]; rfl, HB2.out⟩

set_option maxHeartbeats 2000000 in
theorem roleC_any (c : Crd) (h0 : -9223372036854775808 ≤ c.d) (h1 : c.d < 9223372036854775808) (w : World) :
    Calls Tryd.prog 58 #[.agg c.cells.toArray] w fun e w' => e = .returned (.agg #[.string (domB c.d), .string c.nm]) ∧ Below w.heap.size w w' := by
  obtain ⟨d, q, nm, kd, wh, ao, an, bo, bn⟩ := c
  simp only at h0 h1 ⊢
  obtain ⟨D, hD⟩ : ∃ D, domB d = D := ⟨_, rfl⟩
  have HD0 : Hid (∀ w, Calls Tryd.prog 43 #[.int .i64 d] w fun e w' => e = .returned (.string D) ∧ Below w.heap.size w w') := hid (fun w => by rw [← hD]; exact domain_any d h0 h1 w)
  rw [hD]
  clear hD
  obtain ⟨w1, hw1⟩ : ∃ w1, w1 = (w.alloc (.cells (Crd.cells ⟨d, q, nm, kd, wh, ao, an, bo, bn⟩).toArray 55)).alloc (.cells #[.string ⟨#[]⟩, .string ⟨#[]⟩] 24) := ⟨_, rfl⟩
  obtain ⟨r1, s1, b1⟩ : Fl w w1 ⟨d, q, nm, kd, wh, ao, an, bo, bn⟩ := by rw [hw1]; exact Fl.new w _
  unfold Crd.cells at hw1 ⊢
  simp only at hw1 ⊢
  go_enter Tryd.func58, Tryd.ntmps58
  go_wp2_with fail
  rw [← hw1]
  clear hw1
  have HK := hid (fun W (hW : Below w1.heap.size w1 W) => (⟨(r1.kept hW).cell 0 _ rfl, (r1.kept hW).cell 2 _ rfl, (s1.kept hW).c0, (s1.kept hW).c1, (s1.kept hW).f 0, (s1.kept hW).f 1⟩ :
    W.cell? ⟨w.heap.size, 0, none⟩ = some (.int .i64 d) ∧ W.cell? ⟨w.heap.size, 2, none⟩ = some (.string nm) ∧ W.cell? ⟨w.heap.size + 1, 0, none⟩ = some (.string ⟨#[]⟩) ∧ W.cell? ⟨w.heap.size + 1, 1, none⟩ = some (.string ⟨#[]⟩) ∧ W.frozen? ⟨w.heap.size + 1, 0, none⟩ = false ∧ W.frozen? ⟨w.heap.size + 1, 1, none⟩ = false))
  have HS := hid (fun W (hW : Below w1.heap.size w1 W) => s1.kept hW)
  have HD := hid (Below.refl w1.heap.size w1).drew
  have H0 := hid b1
  clear r1 s1 b1
  obtain ⟨k1, k2, k3, k4, k5, k6⟩ := HK.out _ (Below.refl _ _)
  go_region_with ((go_at_call 43; (refine (HD0.out _).mono ?_); rintro er w5 ⟨rfl, bb⟩; have B1 := hid (kept_trans HD.out HD.out.size bb); (obtain ⟨j1, j2, j3, j4, j5, j6⟩ := HK.out _ B1.out); clear bb))
  all_goals
    go_wp2
    refine bodyPost_ret (results_mid (h := Tryd.results58) _ _ (w.heap.size + 1) 0 [.string D, .string nm] _ rfl (range_row (pair_set (HS.out _ B1.out))) Tryd.underlying24 rfl info_role) rfl
      ⟨rfl, ((H0.out.trans (B1.out.mono H0.out.size)).setCell (Nat.le_succ _) _).setCell (Nat.le_succ _) _⟩

theorem before_any (d q d' q' : Int) (w : World) : Calls Tryd.prog 77 #[.agg #[.int .i64 d, .int .i64 q], .agg #[.int .i64 d', .int .i64 q']] w fun er w' => er = .returned (.bool (beforeI d q d' q')) ∧ Below w.heap.size w w' := by
  by_cases h : d = d'
  · subst h
    have hb : (d == d) = true := by simp
    by_cases hq : q < q'
    · have HE : Hid (beforeI d q d q' = true) := hid (by unfold beforeI; simp; omega)
      go_enter Tryd.func77, Tryd.ntmps77
      go_wp2
      go_ret
      exact ⟨by rw [HE.out]; rfl, below_id2 _ _ _ _ _⟩
    · have HE : Hid (beforeI d q d q' = false) := hid (by unfold beforeI; simp; omega)
      go_enter Tryd.func77, Tryd.ntmps77
      go_wp2
      go_ret
      exact ⟨by rw [HE.out]; rfl, below_id2 _ _ _ _ _⟩
  · have hb : (d == d') = false := beq_eq_false_iff_ne.2 h
    by_cases hq : d < d'
    · have HE : Hid (beforeI d q d' q' = true) := hid (by unfold beforeI; simp; omega)
      go_enter Tryd.func77, Tryd.ntmps77
      go_wp2
      go_ret
      exact ⟨by rw [HE.out]; rfl, below_id2 _ _ _ _ _⟩
    · have HE : Hid (beforeI d q d' q' = false) := hid (by unfold beforeI; simp; omega)
      go_enter Tryd.func77, Tryd.ntmps77
      go_wp2
      go_ret
      exact ⟨by rw [HE.out]; rfl, below_id2 _ _ _ _ _⟩

end Go.Proofs.YtoajckhnneagnaaDoor.Sh
namespace Go.Proofs.YtoajckhnneagnaaDoor.Sh
open Go Go.RowKit
open Go.Maps (Keyed)

section
variable {B sb b0 b1 b2 b3 b4 : Nat} {vF : Value} {col : Col} {s : St} {w : World}
end
end Go.Proofs.YtoajckhnneagnaaDoor.Sh
