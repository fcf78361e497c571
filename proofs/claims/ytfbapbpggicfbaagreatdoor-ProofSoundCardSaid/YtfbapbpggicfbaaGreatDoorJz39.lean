/-
  The program's both, by contract.
-/
import Derived.Test.YtfbapbpggicfbaaGreatDoorJz33
import Derived.Test.YtfbapbpggicfbaaGreatDoorJz38
set_option linter.unusedVariables false
set_option linter.unusedSimpArgs false
namespace Go.Proofs.YtfbapbpggicfbaaGreatDoor.Sh
open Go Go.RowKit
open Go.Maps (Keyed)

theorem bothO_no {q : Pr} {s : St} {b : Rl × Rl} (h : (b.1, q.2) ∉ s.kn) : St.bothO q s b = s := if_neg h
theorem bothO_yes {q : Pr} {s : St} {b : Rl × Rl} (h : (b.1, q.2) ∈ s.kn) : St.bothO q s b = s.add (b.2, q.2) := if_pos h
theorem boths_len (q : Pr) : ∀ (l : List (Rl × Rl)) (s : St), (l.foldl (St.bothO q) s).kn.length ≤ s.kn.length + l.length ∧ (l.foldl (St.bothO q) s).fr.length ≤ s.fr.length + l.length
  | [], s => ⟨Nat.le_refl _, Nat.le_refl _⟩
  | r :: l, s => by
    have := boths_len q l (St.bothO q s r)
    have h2 : (St.bothO q s r).kn.length ≤ s.kn.length + 1 ∧ (St.bothO q s r).fr.length ≤ s.fr.length + 1 := by
      unfold St.bothO
      split
      · unfold St.add; split <;> simp
      · omega
    simp only [List.foldl_cons, List.length_cons]
    omega
set_option maxHeartbeats 4000000 in
theorem both_any {B sb b0 b1 b2 b3 b4 : Nat} {vF : Value} {col : Col} {s : St} {w : World} (h : Sol w B sb b0 b1 b2 b3 b4 vF col s) (p : Pr) (hp : okP p) (hn : s.kn.length + s.ic ≤ 100000000000) (hf : s.fr.length + s.ic ≤ 100000000000) :
    Calls Tryz.prog 41 #[.pointer (some ⟨sb, 0, none⟩), .agg #[.string p.1.1, .string p.1.2, .string p.2]] w fun e w' => e = .returned (.tuple #[]) ∧ ∃ vF' col', Sol w' B sb b0 b1 b2 b3 b4 vF' col' (s.both p) ∧ Ext Ma w w' col col' := by
  obtain ⟨⟨o, n⟩, who⟩ := p
  obtain ⟨v, hlook, hown, hlen, hvc⟩ := h.bth.look lawR Tryz.underlying77 so_z88 hp.1 (keyR hp.1)
  unfold rV at hlook
  simp only at hlook
  obtain ⟨A, c, rfl, hNc, hc63, hels⟩ := hown.els
  obtain ⟨l, hl⟩ : ∃ l, s.bth (o, n) = l := ⟨_, rfl⟩
  rw [hl] at hown hlen hlook hNc hels hvc
  obtain ⟨N, hN⟩ : ∃ N, l.length = N := ⟨_, rfl⟩
  obtain ⟨w1, hw1⟩ : ∃ w1, w1 = w.alloc (.cells #[.string o, .string n, .string who] 55) := ⟨_, rfl⟩
  have q1 : Below w.heap.size w w1 := by rw [hw1]; exact (Below.refl _ _).alloc (Nat.le_refl _) _
  have s1 := h.below q1
  have p0 : w1.heap[w.heap.size]? = some (.cells #[.string o, .string n, .string who] 55 (0, 0)) := by rw [hw1]; exact heap_alloc_new w _
  have hp1 : w.heap.size < w1.heap.size := (Array.getElem?_eq_some_iff.1 p0).1
  have hfree : col w.heap.size = none := h.free (Nat.le_refl _)
  have HK := hid (fun W (hW : Below w1.heap.size w1 W) => (⟨(s1.below hW).cell.2.2.1, by rw [cell_of_row W _ 0 _ _ (0, 0) ((hW.block _ hp1).trans p0)]; rfl, by rw [cell_of_row W _ 1 _ _ (0, 0) ((hW.block _ hp1).trans p0)]; rfl,
      by rw [← hN]; exact hlook W (by rw [hW.block _ (s1.dom _ _ s1.b2col), q1.block _ (h.dom _ _ h.b2col)])⟩ :
    W.cell? ⟨sb, 2, none⟩ = some (.map (some b2)) ∧ W.cell? ⟨w.heap.size, 0, none⟩ = some (.string o) ∧ W.cell? ⟨w.heap.size, 1, none⟩ = some (.string n) ∧
      (Instr.lookup 77 (.map (some b2)) (.agg #[.string o, .string n]) false).run Tryz.prog W = .ok (.slice A N c) W))
  have HS1 := hid s1
  have HQ1 := hid q1
  have HP0 := hid p0
  have HE1 := hid (hels.below q1)
  have HVC := hid hvc
  have HP := hid hp
  have HLN := hid hN
  have HSZ : Hid (∀ b ∈ l, okR b.1 ∧ okR b.2) := hid (fun r hr => h.sz.bth (o, n) r (by rw [hl]; exact hr))
  have HNN : Hid (s.kn.length + N ≤ 100000000000 ∧ s.fr.length + N ≤ 100000000000) := hid ⟨by omega, by omega⟩
  have HBND : Hid (N ≤ 100000000000) := hid (by omega)
  have HFR := hid hfree
  have hii : s.both ((o, n), who) = l.foldl (St.bothO ((o, n), who)) s := by unfold St.both; rw [hl]
  rw [hii]
  rw [hN] at hNc
  have hN63 : N ≤ 9223372036854775807 := by omega
  clear h hp hown hlook hvc hels q1 s1 p0 hl hN hii hfree hlen hn hf
  simp only
  go_enter Tryz.func41, Tryz.ntmps41
  go_wp2_with fail
  rw [← hw1]
  clear hw1
  obtain ⟨k1, k2, k3, k4⟩ := HK.out _ (Below.refl _ _)
  go_region_held3 (fun w' => w'.cell? ⟨sb, 2, none⟩ = some (.map (some b2)) ∧ w'.cell? ⟨w.heap.size, 0, none⟩ = some (.string o) ∧ w'.cell? ⟨w.heap.size, 1, none⟩ = some (.string n) ∧
      (Instr.lookup 77 (.map (some b2)) (.agg #[.string o, .string n]) false).run Tryz.prog w' = .ok (.slice A N c) w')
    (exact HK.out _ (Below.refl _ _).drew) (fail)
  go_wp2_with fail
  clear k1 k2 k3 k4 HK
  go_loopw [14] (fun i wr => ∃ (k : Nat) (vK : Value) (cK : Col), i = .int .i64 (k : Int) ∧ k ≤ N ∧ Hid (Sol wr B sb b0 b1 b2 b3 b4 vK cK ((l.take k).foldl (St.bothO ((o, n), who)) s)) ∧ Hid (Ext Ma w1 wr col cK)) (fun i _ => N - (intOf i).toNat)
  case atStart => exact ⟨0, vF, col, rfl, Nat.zero_le _, hid (HS1.out.below (Below.refl _ _).drew), hid (Ext.of_below Ma col (Below.refl _ _).drew)⟩
  case round =>
    obtain ⟨k, vK, cK, rfl, hk, HS, HX⟩ := hrel
    by_cases hlt : k < N
    · obtain ⟨⟨⟨ro, rn⟩, ⟨go, gn⟩⟩, hx⟩ : ∃ x, l[k]? = some x := ⟨_, List.getElem?_eq_getElem (by rw [HLN.out]; exact hlt)⟩
      have hel : Els encB wr w.heap.size A l := HE1.out.keep (fun ad e hb => HX.out.block _ (Nat.lt_of_lt_of_le hb HQ1.out.size) (fun c hc => by
        have := HVC.out ad.block (by rw [e]; rfl)
        rw [this] at hc
        cases hc
        unfold Ma
        omega))
      obtain ⟨ad, aj, rfl, hab, ea, hbj, a0, ai⟩ := hel.get hx
      have a0 := a0 _ rfl
      have a1 := ai 1 _ (by omega) rfl
      have a2 := ai 2 _ (by omega) rfl
      have a3 := ai 3 _ (by omega) rfl
      have k4 : wr.cell? ⟨w.heap.size, 2, none⟩ = some (.string who) := by rw [cell_of_row wr _ 2 _ _ (0, 0) ((HX.out.free hp1 HFR.out).trans HP0.out)]; rfl
      have hk0 : (0 : Int) ≤ (k : Int) := Int.natCast_nonneg _
      have hk1 : (k : Int) < (N : Int) := by omega
      have hlen := boths_len ((o, n), who) (l.take k) s
      have htk : (l.take k).length = k := by rw [List.length_take, HLN.out]; omega
      have hnx := foldl_take_succ (St.bothO ((o, n), who)) s hx
      have HS0 := hid (HSZ.out _ (List.mem_of_getElem? hx))
      have HPW := hid ((HX.out.free hp1 HFR.out).trans HP0.out)
      have HPL : Hid (w.heap.size < wr.heap.size) := hid (Nat.lt_of_lt_of_le hp1 HX.out.size)
      obtain ⟨w2, hw2⟩ : ∃ w2, w2 = wr.alloc (.cells #[.string ro, .string rn, .string go, .string gn] 107) := ⟨_, rfl⟩
      have q2 : Below wr.heap.size wr w2 := by rw [hw2]; exact (Below.refl _ _).alloc (Nat.le_refl _) _
      have r2 : w2.heap[wr.heap.size]? = some (.cells #[.string ro, .string rn, .string go, .string gn] 107 (0, 0)) := by rw [hw2]; exact heap_alloc_new wr _
      have hr2 : wr.heap.size < w2.heap.size := (Array.getElem?_eq_some_iff.1 r2).1
      have HK := hid (fun W (hW : Below w2.heap.size w2 W) => (⟨by rw [cell_of_row W _ 0 _ _ (0, 0) ((hW.block _ hr2).trans r2)]; rfl, by rw [cell_of_row W _ 1 _ _ (0, 0) ((hW.block _ hr2).trans r2)]; rfl, by rw [cell_of_row W _ 2 _ _ (0, 0) ((hW.block _ hr2).trans r2)]; rfl, by rw [cell_of_row W _ 3 _ _ (0, 0) ((hW.block _ hr2).trans r2)]; rfl,
          by rw [cell_of_row W _ 2 _ _ (0, 0) ((hW.block _ (Nat.lt_trans HPL.out hr2)).trans ((q2.block _ HPL.out).trans HPW.out))]; rfl⟩ :
        W.cell? ⟨wr.heap.size, 0, none⟩ = some (.string ro) ∧ W.cell? ⟨wr.heap.size, 1, none⟩ = some (.string rn) ∧ W.cell? ⟨wr.heap.size, 2, none⟩ = some (.string go) ∧ W.cell? ⟨wr.heap.size, 3, none⟩ = some (.string gn) ∧ W.cell? ⟨w.heap.size, 2, none⟩ = some (.string who)))
      obtain ⟨kb, hkb⟩ : ∃ kb, decide (((ro, rn), who) ∈ ((l.take k).foldl (St.bothO ((o, n), who)) s).kn) = kb := ⟨_, rfl⟩
      have HKN := hid (fun W (hW : Below w2.heap.size w2 W) => by
        have := knows_any (HS.out.below (q2.trans (hW.mono q2.size))) ((ro, rn), who) ⟨HS0.out.1, HP.out.2⟩
        rw [hkb] at this
        exact this)
      have HA := hid (fun W (hW : Below w2.heap.size w2 W) => (add_any (HS.out.below (q2.trans (hW.mono q2.size))) ((go, gn), who) ⟨HS0.out.2, HP.out.2⟩ (by have := HNN.out; omega) (by have := HNN.out; omega)).mono
        (fun e w' hh => (⟨hh.1, by
          obtain ⟨-, v5, c5, h5, h6⟩ := hh
          exact ⟨v5, c5, hid h5, hid (HX.out.trans ((Ext.of_below Ma cK (q2.trans (hW.mono q2.size))).trans h6))⟩⟩ : e = .returned (.tuple #[]) ∧ ∃ v5 c5, Hid (Sol w' B sb b0 b1 b2 b3 b4 v5 c5 (((l.take k).foldl (St.bothO ((o, n), who)) s).add ((go, gn), who))) ∧ Hid (Ext Ma w1 w' col c5))))
      have HNX := hid hnx
      have HKB := hid hkb
      have HQ2 := hid q2
      simp only at HA HKN
      obtain ⟨j0, j1, j2, j3, j4⟩ := HK.out w2 (Below.refl _ _)
      have k4a := j4
      rw [hw2] at k4a
      have ea : ad.add (k * 4) = aj := ea
      clear hx hel hab hbj ai hlen htk hnx q2 r2 hkb
      cases kb with
      | false =>
        go_wp2_with (first | (go_at_call 20; (try rw [← hw2]); (refine (HKN.out _ (Below.refl _ _)).mono ?_); rintro er w4 ⟨rfl, b4w⟩) | fail)
        go_roundw
        case rel => exact ⟨k + 1, vK, cK, by go_num, by omega, hid (by
          rw [HNX.out, bothO_no (of_decide_eq_false HKB.out)]
          exact HS.out.below (HQ2.out.trans (b4w.mono HQ2.out.size))), hid (HX.out.trans (Ext.of_below Ma cK (HQ2.out.trans (b4w.mono HQ2.out.size))))⟩
        case measure => simp [intOf]; omega
      | true =>
        go_wp2_with (first | (go_at_call 20; (try rw [← hw2]); (refine (HKN.out _ (Below.refl _ _)).mono ?_); rintro er w4 ⟨rfl, b4w⟩; (obtain ⟨j0, j1, j2, j3, j4⟩ := HK.out w4 b4w); have B4 := hid b4w; clear b4w) | (go_at_call 58; (refine (HA.out _ B4.out).mono ?_); rintro er w5 ⟨rfl, v5, c5, HS5, HX5⟩))
        go_roundw
        case rel => exact ⟨k + 1, v5, c5, by go_num, by omega, hid (by
          rw [HNX.out, bothO_yes (of_decide_eq_true HKB.out)]
          exact HS5.out), HX5⟩
        case measure => simp [intOf]; omega
    · obtain rfl : N = k := by omega
      go_wp2
      go_end0
      have e1 : l.take N = l := List.take_of_length_le (by rw [HLN.out]; exact Nat.le_refl _)
      exact ⟨rfl, vK, cK, by have := HS.out; rwa [e1] at this, (Ext.of_below Ma col HQ1.out).trans HX.out⟩
end Go.Proofs.YtfbapbpggicfbaaGreatDoor.Sh
/-
  The program's include, by contract.
-/
namespace Go.Proofs.YtfbapbpggicfbaaGreatDoor.Sh
open Go Go.RowKit
open Go.Maps (Keyed)

set_option maxHeartbeats 4000000 in
theorem include_any {B sb b0 b1 b2 b3 b4 : Nat} {vF : Value} {col : Col} {s : St} {w : World} (h : Sol w B sb b0 b1 b2 b3 b4 vF col s) (p : Pr) (hp : okP p) (hn : s.kn.length + s.ic ≤ 100000000000) (hf : s.fr.length + s.ic ≤ 100000000000) :
    Calls Tryz.prog 40 #[.pointer (some ⟨sb, 0, none⟩), .agg #[.string p.1.1, .string p.1.2, .string p.2]] w fun e w' => e = .returned (.tuple #[]) ∧ ∃ vF' col', Sol w' B sb b0 b1 b2 b3 b4 vF' col' (s.include p) ∧ Ext Ma w w' col col' := by
  obtain ⟨⟨o, n⟩, who⟩ := p
  obtain ⟨v, hlook, hown, hlen, hvc⟩ := h.inc.look lawR Tryz.underlying76 so_z84 hp.1 (keyR hp.1)
  unfold rV at hlook
  simp only at hlook
  obtain ⟨A, c, rfl, hNc, hc63, hels⟩ := hown.els
  obtain ⟨l, hl⟩ : ∃ l, s.inc (o, n) = l := ⟨_, rfl⟩
  rw [hl] at hown hlen hlook hNc hels hvc
  obtain ⟨N, hN⟩ : ∃ N, l.length = N := ⟨_, rfl⟩
  obtain ⟨w1, hw1⟩ : ∃ w1, w1 = w.alloc (.cells #[.string o, .string n, .string who] 55) := ⟨_, rfl⟩
  have q1 : Below w.heap.size w w1 := by rw [hw1]; exact (Below.refl _ _).alloc (Nat.le_refl _) _
  have s1 := h.below q1
  have p0 : w1.heap[w.heap.size]? = some (.cells #[.string o, .string n, .string who] 55 (0, 0)) := by rw [hw1]; exact heap_alloc_new w _
  have hp1 : w.heap.size < w1.heap.size := (Array.getElem?_eq_some_iff.1 p0).1
  have hfree : col w.heap.size = none := h.free (Nat.le_refl _)
  have HK := hid (fun W (hW : Below w1.heap.size w1 W) => (⟨(s1.below hW).cell.2.1, by rw [cell_of_row W _ 0 _ _ (0, 0) ((hW.block _ hp1).trans p0)]; rfl, by rw [cell_of_row W _ 1 _ _ (0, 0) ((hW.block _ hp1).trans p0)]; rfl,
      by rw [← hN]; exact hlook W (by rw [hW.block _ (s1.dom _ _ s1.b1col), q1.block _ (h.dom _ _ h.b1col)])⟩ :
    W.cell? ⟨sb, 1, none⟩ = some (.map (some b1)) ∧ W.cell? ⟨w.heap.size, 0, none⟩ = some (.string o) ∧ W.cell? ⟨w.heap.size, 1, none⟩ = some (.string n) ∧
      (Instr.lookup 76 (.map (some b1)) (.agg #[.string o, .string n]) false).run Tryz.prog W = .ok (.slice A N c) W))
  have HS1 := hid s1
  have HQ1 := hid q1
  have HP0 := hid p0
  have HE1 := hid (hels.below q1)
  have HVC := hid hvc
  have HP := hid hp
  have HLN := hid hN
  have HSZ : Hid (∀ r ∈ l, okR r) := hid (fun r hr => h.sz.inc (o, n) r (by rw [hl]; exact hr))
  have HNN : Hid (s.kn.length + N ≤ 100000000000 ∧ s.fr.length + N ≤ 100000000000) := hid ⟨by omega, by omega⟩
  have HBND : Hid (N ≤ 100000000000) := hid (by omega)
  have HFR := hid hfree
  have hii : s.include ((o, n), who) = l.foldl (fun s r => s.add (r, who)) s := by unfold St.include; rw [hl]
  rw [hii]
  rw [hN] at hNc
  have hN63 : N ≤ 9223372036854775807 := by omega
  clear h hp hown hlook hvc hels q1 s1 p0 hl hN hii hfree hlen hn hf
  simp only
  go_enter Tryz.func40, Tryz.ntmps40
  go_wp2_with fail
  rw [← hw1]
  clear hw1
  obtain ⟨k1, k2, k3, k4⟩ := HK.out _ (Below.refl _ _)
  go_region_held3 (fun w' => w'.cell? ⟨sb, 1, none⟩ = some (.map (some b1)) ∧ w'.cell? ⟨w.heap.size, 0, none⟩ = some (.string o) ∧ w'.cell? ⟨w.heap.size, 1, none⟩ = some (.string n) ∧
      (Instr.lookup 76 (.map (some b1)) (.agg #[.string o, .string n]) false).run Tryz.prog w' = .ok (.slice A N c) w')
    (exact HK.out _ (Below.refl _ _).drew) (fail)
  go_wp2_with fail
  clear k1 k2 k3 k4 HK
  go_loopw [14] (fun i wr => ∃ (k : Nat) (vK : Value) (cK : Col), i = .int .i64 (k : Int) ∧ k ≤ N ∧ Hid (Sol wr B sb b0 b1 b2 b3 b4 vK cK ((l.take k).foldl (fun s r => s.add (r, who)) s)) ∧ Hid (Ext Ma w1 wr col cK)) (fun i _ => N - (intOf i).toNat)
  case atStart => exact ⟨0, vF, col, rfl, Nat.zero_le _, hid (HS1.out.below (Below.refl _ _).drew), hid (Ext.of_below Ma col (Below.refl _ _).drew)⟩
  case round =>
    obtain ⟨k, vK, cK, rfl, hk, HS, HX⟩ := hrel
    by_cases hlt : k < N
    · obtain ⟨⟨ro, rn⟩, hx⟩ : ∃ x, l[k]? = some x := ⟨_, List.getElem?_eq_getElem (by rw [HLN.out]; exact hlt)⟩
      have hel : Els encR wr w.heap.size A l := HE1.out.keep (fun ad e hb => HX.out.block _ (Nat.lt_of_lt_of_le hb HQ1.out.size) (fun c hc => by
        have := HVC.out ad.block (by rw [e]; rfl)
        rw [this] at hc
        cases hc
        unfold Ma
        omega))
      obtain ⟨ad, aj, rfl, hab, ea, hbj, a0, ai⟩ := hel.get hx
      have a0 := a0 _ rfl
      have a1 := ai 1 _ (by omega) rfl
      have k4 : wr.cell? ⟨w.heap.size, 2, none⟩ = some (.string who) := by rw [cell_of_row wr _ 2 _ _ (0, 0) ((HX.out.free hp1 HFR.out).trans HP0.out)]; rfl
      have hk0 : (0 : Int) ≤ (k : Int) := Int.natCast_nonneg _
      have hk1 : (k : Int) < (N : Int) := by omega
      have hlen := adds_len who (l.take k) s
      have htk : (l.take k).length = k := by rw [List.length_take, HLN.out]; omega
      have hnx := foldl_take_succ (fun (s : St) (r : Rl) => s.add (r, who)) s hx
      have HA := hid (fun W (hW : Below wr.heap.size wr W) => (add_any (HS.out.below hW) ((ro, rn), who) ⟨HSZ.out _ (List.mem_of_getElem? hx), HP.out.2⟩ (by have := HNN.out; omega) (by have := HNN.out; omega)).mono
        (fun e w' hh => (⟨hh.1, by
          obtain ⟨-, v5, c5, h5, h6⟩ := hh
          exact ⟨v5, c5, hid (by rw [hnx]; exact h5), hid (HX.out.trans ((Ext.of_below Ma cK hW).trans h6))⟩⟩ : e = .returned (.tuple #[]) ∧ ∃ v5 c5, Hid (Sol w' B sb b0 b1 b2 b3 b4 v5 c5 ((l.take (k + 1)).foldl (fun s r => s.add (r, who)) s)) ∧ Hid (Ext Ma w1 w' col c5))))
      have ea : ad.add (k * 2) = aj := ea
      have k4a : (wr.alloc (.cells #[.string ro, .string rn] 24)).cell? ⟨w.heap.size, 2, none⟩ = some (.string who) := by
        rw [cell_of_row _ _ 2 _ _ (0, 0) (((MapKept.heap_alloc wr _).2 _ (Nat.lt_of_lt_of_le hp1 HX.out.size)).trans ((HX.out.free hp1 HFR.out).trans HP0.out))]; rfl
      simp only at HA
      clear hx hel hab hbj ai hlen htk hnx HS HX
      go_wp2_with (go_at_call 58; (refine (HA.out _ (by first | exact (Below.refl _ _).alloc (Nat.le_refl _) _)).mono ?_); rintro er w5 ⟨rfl, v5, c5, HS5, HX5⟩)
      go_roundw
      case rel => exact ⟨k + 1, v5, c5, by go_num, by omega, HS5, HX5⟩
      case measure => simp [intOf]; omega
    · obtain rfl : N = k := by omega
      go_wp2
      go_end0
      have e1 : l.take N = l := List.take_of_length_le (by rw [HLN.out]; exact Nat.le_refl _)
      exact ⟨rfl, vK, cK, by have := HS.out; rwa [e1] at this, (Ext.of_below Ma col HQ1.out).trans HX.out⟩
end Go.Proofs.YtfbapbpggicfbaaGreatDoor.Sh
/-
  The second spreading's turns; how much a turn makes. Pure.
-/
namespace Go.Proofs.YtfbapbpggicfbaaGreatDoor.Sh
open Go Go.RowKit

def tru : Pr → Prop := fun _ => True
section
variable {S : Crd → Prop} {X : ByteArray → Prop} {s : St} {q : Pr} {f0 : List Pr}
theorem Spr.pop2 (h : Spr S X none' none' tru s) (hf : s.fr = f0 ++ [q]) : Spr S X (· = q) (· = q) tru s.pop ∧ Imp S q ∧ X q.2 := by
  have hp := popped_pop h.fnd h.sub hf
  have hq := h.snd q (h.sub q (by rw [hf]; simp))
  refine ⟨⟨?_, ?_, ?_, ?_, ?_, ?_, ?_, ?_, ?_, ?_, ?_⟩, hq⟩
  · rw [pop_last hf]; exact h.nd
  · rw [pop_last hf]; have := h.fnd; rw [hf] at this; exact (List.nodup_append.1 this).1
  · rw [pop_last hf]; exact fun p hp => h.sub p (by rw [hf]; simp [show p ∈ f0 from hp])
  · rw [pop_last hf]; exact h.snd
  · rw [pop_last hf]; exact h.incS
  · rw [pop_last hf]; exact h.bthS
  · rw [pop_last hf]; exact h.lnkS
  · intro p hpp hE
    rcases (hp p).1 hpp with h1 | h1
    · rw [pop_last hf]; exact h.dI p h1 id
    · exact absurd h1 hE
  · intro p hpp hE b hb hb1 hE1
    rcases (hp p).1 hpp with h1 | h1
    · rcases (hp _).1 hb1 with h2 | h2
      · rw [pop_last hf] at hb ⊢; exact h.dB p h1 id b hb h2 id
      · exact absurd h2 hE1
    · exact absurd h1 hE
  · rw [pop_last hf]; exact h.bsym
  · exact fun p hpp hE => absurd trivial hE
/-- The first two rules. -/
theorem two_spr2 (h : Spr S X none' none' tru s) (hf : s.fr = f0 ++ [q]) :
    Spr S X none' none' tru ((s.pop.include q).both q) ∧ Grew s.pop ((s.pop.include q).both q) ∧ ((s.pop.include q).both q).ic = s.ic ∧ Imp S q ∧ X q.2 := by
  obtain ⟨h1, hq, hX⟩ := h.pop2 hf
  obtain ⟨a1, a2, a3, a4, a5⟩ := adds_spr q.2 hX (s.pop.inc q.1) h1 (fun r hr => h1.incS q.1 r hr q.2 hq)
  have ei : s.pop.include q = (s.pop.inc q.1).foldl (fun s r => s.add (r, q.2)) s.pop := rfl
  rw [← ei] at a1 a2 a3 a4 a5
  obtain ⟨b1, b2, b3, b4, b5⟩ := boths_spr q hX hq ((s.pop.include q).bth q.1) a1 (fun b hb => hb)
  have eb : (s.pop.include q).both q = ((s.pop.include q).bth q.1).foldl (St.bothO q) (s.pop.include q) := rfl
  rw [← eb] at b1 b2 b3 b4 b5
  have ic0 : s.pop.ic = s.ic := rfl
  have hqp : q ∈ s.pop.kn := h.sub q (by rw [hf]; simp)
  refine ⟨⟨b1.nd, b1.fnd, b1.sub, b1.snd, b1.incS, b1.bthS, b1.lnkS, ?_, ?_, b1.bsym, b1.dL⟩, a2.trans b2, by rw [b4, a4, ic0], hq, hX⟩
  · intro p hp _ g hg
    by_cases e : p = q
    · subst e
      rw [b3, a3] at hg
      exact b2.kn _ (a5 g hg)
    · exact b1.dI p hp e g hg
  · intro p hp _ b hb hb1 _
    by_cases e : p = q
    · subst e
      rw [b2.same.bth] at hb
      exact b5 b hb ((b2.pop _).1 hb1).1
    · by_cases e1 : (b.1, p.2) = q
      · have hs := b1.bsym p.1 b hb
        rw [b2.same.bth] at hs
        have e2 : b.1 = q.1 := by rw [← e1]
        have e3 : p.2 = q.2 := by rw [← e1]
        rw [e2] at hs
        have := b5 (p.1, b.2) hs (by rw [← e3]; exact ((b2.pop _).1 hp).1)
        rwa [← e3] at this
      · exact b1.dB p hp e b hb hb1 e1
end

theorem include_ic (s : St) (q : Pr) : (s.include q).ic = s.ic := by
  have : ∀ (l : List Rl) (s : St), (l.foldl (fun s r => s.add (r, q.2)) s).ic = s.ic := by
    intro l
    induction l with
    | nil => exact fun _ => rfl
    | cons r l ih => exact fun s => (ih _).trans (add_ic _ _)
  exact this _ _
theorem both_ic (s : St) (q : Pr) : (s.both q).ic = s.ic := by
  have : ∀ (l : List (Rl × Rl)) (s : St), (l.foldl (St.bothO q) s).ic = s.ic := by
    intro l
    induction l with
    | nil => exact fun _ => rfl
    | cons r l ih =>
      intro s
      refine (ih _).trans ?_
      unfold St.bothO
      split
      · exact add_ic _ _
      · rfl
  exact this _ _
section
variable {w : World} {B sb b0 b1 b2 b3 b4 : Nat} {vF : Value} {col : Col} {s : St}
open Go.Maps (Keyed)
theorem Sol.incl (h : Sol w B sb b0 b1 b2 b3 b4 vF col s) {r : Rl} (hr : okR r) : (s.inc r).length ≤ s.ic := by
  obtain ⟨D, hD⟩ := h.inc
  obtain ⟨_, _, _, h2, _⟩ := hD.val r hr
  exact h2
theorem Sol.bthl (h : Sol w B sb b0 b1 b2 b3 b4 vF col s) {r : Rl} (hr : okR r) : (s.bth r).length ≤ s.ic := by
  obtain ⟨D, hD⟩ := h.bth
  obtain ⟨_, _, _, h2, _⟩ := hD.val r hr
  exact h2
/-- The last fresh pair taken off. -/
theorem Sol.popped {A : Option Addr} {c : Nat} (h : Sol w B sb b0 b1 b2 b3 b4 (.slice A s.fr.length c) col s) : Sol (w.setCell ⟨sb, 5, none⟩ (.slice A (s.fr.length - 1) c)) B sb b0 b1 b2 b3 b4 (.slice A (s.fr.length - 1) c) col s.pop ∧
    Ext Ma w (w.setCell ⟨sb, 5, none⟩ (.slice A (s.fr.length - 1) c)) col col := by
  have hs : (w.setCell ⟨sb, 5, none⟩ (.slice A (s.fr.length - 1) c)).heap.size = w.heap.size := by simp
  have hfar : ∀ g (k : Nat × Lit), col g = some k → k.1 ≠ 0 → (w.setCell ⟨sb, 5, none⟩ (.slice A (s.fr.length - 1) c)).heap[g]? = w.heap[g]? := fun g k e hk =>
    Below.heap_setCell w ⟨sb, 5, none⟩ _ g (fun e' => hk (by simp only at e'; rw [e', h.csb] at e; cases e; rfl))
  have hF : ∀ (j : Nat), j = 1 ∨ j = 2 ∨ j = 3 ∨ j = 4 → ∀ g (k : Nat × Lit), col g = some k → k.1 = j ∨ k.1 = j + 10 → (w.setCell ⟨sb, 5, none⟩ (.slice A (s.fr.length - 1) c)).heap[g]? = w.heap[g]? := fun j hj g k e hk => hfar g k e (by omega)
  have hown : Own (E := encP) w B 55 (.slice A (s.fr.length - 1) c) (s.fr.take (s.fr.length - 1)) := h.fr.short (by omega)
  refine ⟨⟨row6 h.row, h.csb, h.giv.frame (hF 1 (by omega)) (fun _ _ => rfl) (Nat.le_refl _), h.inc.frame (hF 2 (by omega)) (fun _ _ => rfl) (Nat.le_refl _), h.bth.frame (hF 3 (by omega)) (fun _ _ => rfl) (Nat.le_refl _), h.lnk.frame (hF 4 (by omega)) (fun _ _ => rfl) (Nat.le_refl _),
    h.kn.frame (fun g e => hfar g _ e (by simp)) (fun _ _ => rfl), hown.kept (fun g e => hfar g _ (h.cfr g (by cases A <;> exact e)) (by simp)), fun g e => h.cfr g (by cases A <;> exact e), h.low, by rw [hs]; exact h.base, fun g k e => by rw [hs]; exact h.dom g k e,
    ⟨h.sz.giv, h.sz.inc, h.sz.bth, h.sz.lnk, h.sz.kn, fun p hp => h.sz.fr p (List.mem_of_mem_take hp)⟩⟩, ⟨rfl, rfl, rfl, by rw [hs]; exact Nat.le_refl _, fun g _ hc => Below.heap_setCell w ⟨sb, 5, none⟩ _ g (fun e' => ?_), fun _ _ => rfl⟩⟩
  simp only at e'
  exact hc _ (by rw [e']; exact h.csb) (.inl rfl)
end
end Go.Proofs.YtfbapbpggicfbaaGreatDoor.Sh
