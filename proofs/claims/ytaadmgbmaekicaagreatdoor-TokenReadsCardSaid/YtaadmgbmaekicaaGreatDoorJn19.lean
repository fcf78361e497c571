/-
  The program's side: absorb, ending, Sum, by contract.
-/
import Derived.Test.YtaadmgbmaekicaaGreatDoorJn18
set_option linter.unusedVariables false
set_option linter.unusedSimpArgs false
namespace Go.Proofs.YtaadmgbmaekicaaGreatDoor.Sh
open Go Go.RowKit

theorem absorb_append (s : St) (a b : List UInt8) (n m : Nat) (h : a.length = 64 * n) : absorb s (a ++ b) (n + m) = absorb (absorb s a n) b m := by
  have h1 : ∀ k, k ≤ n → absorb s (a ++ b) k = absorb s a k := by
    intro k
    induction k with
    | zero => intro _; rfl
    | succ k ih =>
      intro hk
      simp only [absorb]
      rw [ih (by omega), List.drop_append_of_le_length (by omega), List.take_append_of_le_length (by rw [List.length_drop]; omega)]
  induction m with
  | zero => exact h1 n (Nat.le_refl _)
  | succ m ih =>
    rw [Nat.add_succ]
    simp only [absorb]
    rw [ih, show 64 * (n + m) = a.length + 64 * m by omega, List.drop_append, List.drop_eq_nil_of_le (by omega : a.length ≤ a.length + 64 * m)]
    simp

def zeros64 : Array Value := #[.int .u32 0, .int .u32 0, .int .u32 0, .int .u32 0, .int .u32 0, .int .u32 0, .int .u32 0, .int .u32 0, .int .u32 0, .int .u32 0, .int .u32 0, .int .u32 0, .int .u32 0, .int .u32 0, .int .u32 0, .int .u32 0, .int .u32 0, .int .u32 0, .int .u32 0, .int .u32 0, .int .u32 0, .int .u32 0, .int .u32 0, .int .u32 0, .int .u32 0, .int .u32 0, .int .u32 0, .int .u32 0, .int .u32 0, .int .u32 0, .int .u32 0, .int .u32 0, .int .u32 0, .int .u32 0, .int .u32 0, .int .u32 0, .int .u32 0, .int .u32 0, .int .u32 0, .int .u32 0, .int .u32 0, .int .u32 0, .int .u32 0, .int .u32 0, .int .u32 0, .int .u32 0, .int .u32 0, .int .u32 0, .int .u32 0, .int .u32 0, .int .u32 0, .int .u32 0, .int .u32 0, .int .u32 0, .int .u32 0, .int .u32 0, .int .u32 0, .int .u32 0, .int .u32 0, .int .u32 0, .int .u32 0, .int .u32 0, .int .u32 0, .int .u32 0]
theorem zeros64_eq : zeros64 = (wv (List.replicate 64 0)).toArray := rfl
/-- The state lies in block g. -/
def StIs (w : World) (g : Nat) (S : St) : Prop := w.heap[g]? = some (.cells #[.int .u32 S.a.toNat, .int .u32 S.b.toNat, .int .u32 S.c.toNat, .int .u32 S.d.toNat, .int .u32 S.e.toNat, .int .u32 S.f.toNat, .int .u32 S.g.toNat, .int .u32 S.h.toNat] 120 (0, 0))
theorem StIs.below {w w' : World} {B g : Nat} {S : St} (h : StIs w g S) (hb : Below B w w') (hg : g < B) : StIs w' g S := (hb.block g hg).trans h
theorem StIs.lt {w : World} {g : Nat} {S : St} (h : StIs w g S) : g < w.heap.size := (Array.getElem?_eq_some_iff.1 h).1
/-- Eight stores, word by word. -/
theorem StIs.set8 {w : World} {g : Nat} {S T : St} (h : StIs w g S) :
    StIs ((((((((w.setCell ⟨g, 0, none⟩ (.int .u32 T.a.toNat)).setCell ⟨g, 1, none⟩ (.int .u32 T.b.toNat)).setCell ⟨g, 2, none⟩ (.int .u32 T.c.toNat)).setCell ⟨g, 3, none⟩ (.int .u32 T.d.toNat)).setCell ⟨g, 4, none⟩ (.int .u32 T.e.toNat)).setCell ⟨g, 5, none⟩ (.int .u32 T.f.toNat)).setCell ⟨g, 6, none⟩ (.int .u32 T.g.toNat)).setCell ⟨g, 7, none⟩ (.int .u32 T.h.toNat)) g T := by
  unfold StIs at h ⊢
  have h0 := heap_setCell_same _ g 0 _ _ (.int .u32 T.a.toNat) h
  simp only [List.setIfInBounds_toArray, List.set_cons_zero] at h0
  have h1 := heap_setCell_same _ g 1 _ _ (.int .u32 T.b.toNat) h0
  simp only [List.setIfInBounds_toArray, List.set_cons_zero, List.set_cons_succ] at h1
  have h2 := heap_setCell_same _ g 2 _ _ (.int .u32 T.c.toNat) h1
  simp only [List.setIfInBounds_toArray, List.set_cons_zero, List.set_cons_succ] at h2
  have h3 := heap_setCell_same _ g 3 _ _ (.int .u32 T.d.toNat) h2
  simp only [List.setIfInBounds_toArray, List.set_cons_zero, List.set_cons_succ] at h3
  have h4 := heap_setCell_same _ g 4 _ _ (.int .u32 T.e.toNat) h3
  simp only [List.setIfInBounds_toArray, List.set_cons_zero, List.set_cons_succ] at h4
  have h5 := heap_setCell_same _ g 5 _ _ (.int .u32 T.f.toNat) h4
  simp only [List.setIfInBounds_toArray, List.set_cons_zero, List.set_cons_succ] at h5
  have h6 := heap_setCell_same _ g 6 _ _ (.int .u32 T.g.toNat) h5
  simp only [List.setIfInBounds_toArray, List.set_cons_zero, List.set_cons_succ] at h6
  have h7 := heap_setCell_same _ g 7 _ _ (.int .u32 T.h.toNat) h6
  simp only [List.setIfInBounds_toArray, List.set_cons_zero, List.set_cons_succ] at h7
  exact h7

theorem index8_0 (x0 x1 x2 x3 x4 x5 x6 x7 : Value) (w : World) : (Instr.index 120 (.agg #[x0, x1, x2, x3, x4, x5, x6, x7]) (.int .i64 0)).run Tryz.prog w = .ok x0 w := by kernel_rfl
theorem index8_1 (x0 x1 x2 x3 x4 x5 x6 x7 : Value) (w : World) : (Instr.index 120 (.agg #[x0, x1, x2, x3, x4, x5, x6, x7]) (.int .i64 1)).run Tryz.prog w = .ok x1 w := by kernel_rfl
theorem index8_2 (x0 x1 x2 x3 x4 x5 x6 x7 : Value) (w : World) : (Instr.index 120 (.agg #[x0, x1, x2, x3, x4, x5, x6, x7]) (.int .i64 2)).run Tryz.prog w = .ok x2 w := by kernel_rfl
theorem index8_3 (x0 x1 x2 x3 x4 x5 x6 x7 : Value) (w : World) : (Instr.index 120 (.agg #[x0, x1, x2, x3, x4, x5, x6, x7]) (.int .i64 3)).run Tryz.prog w = .ok x3 w := by kernel_rfl
theorem index8_4 (x0 x1 x2 x3 x4 x5 x6 x7 : Value) (w : World) : (Instr.index 120 (.agg #[x0, x1, x2, x3, x4, x5, x6, x7]) (.int .i64 4)).run Tryz.prog w = .ok x4 w := by kernel_rfl
theorem index8_5 (x0 x1 x2 x3 x4 x5 x6 x7 : Value) (w : World) : (Instr.index 120 (.agg #[x0, x1, x2, x3, x4, x5, x6, x7]) (.int .i64 5)).run Tryz.prog w = .ok x5 w := by kernel_rfl
theorem index8_6 (x0 x1 x2 x3 x4 x5 x6 x7 : Value) (w : World) : (Instr.index 120 (.agg #[x0, x1, x2, x3, x4, x5, x6, x7]) (.int .i64 6)).run Tryz.prog w = .ok x6 w := by kernel_rfl
theorem index8_7 (x0 x1 x2 x3 x4 x5 x6 x7 : Value) (w : World) : (Instr.index 120 (.agg #[x0, x1, x2, x3, x4, x5, x6, x7]) (.int .i64 7)).run Tryz.prog w = .ok x7 w := by kernel_rfl
theorem absorb_zero (s : St) (l : List UInt8) : absorb s l 0 = s := rfl
theorem absorb_succ (s : St) (l : List UInt8) (n : Nat) : absorb s l (n + 1) = addSt (absorb s l n) (rounds (absorb s l n) (sched ((l.drop (64 * n)).take 64)) 64) := rfl
attribute [local irreducible] sched rounds absorb

set_option maxRecDepth 100000 in
set_option maxHeartbeats 400000 in
theorem absorb_any (s : St) (A : Option Addr) (l : List UInt8) (c nb : Nat) (hl : l.length = 64 * nb) (hc : l.length ≤ c) (hcm : c ≤ 9223372036854775807) (w : World) (hT : Tab w) (h : Byt w w.heap.size A l) :
    Calls Tryz.prog 100 #[stv s, .slice A (64 * nb) c] w fun e w' => e = .returned (stv (absorb s l nb)) ∧ Below w.heap.size w w' := by
  unfold stv
  have HL := hid hl
  have hn : 64 * nb ≤ c := by omega
  clear hl hc
  go_enter Tryz.func100, Tryz.ntmps100
  go_wp2
  go_loopw [5] (fun i wr => ∃ k : Nat, k ≤ nb ∧ i = .int .i64 (64 * (k : Int)) ∧ StIs wr w.heap.size (absorb s l k) ∧ Hid (wr.heap[w.heap.size + 1]? = some (.cells zeros8 120 (0, 0))) ∧ Below w.heap.size w wr)
    (fun i _ => 64 * nb - (intOf i).toNat)
  case atStart =>
    refine ⟨0, by omega, rfl, ?_, hid ?_, ((Below.refl _ _).alloc (Nat.le_refl _) _).alloc (by simp) _⟩
    · rw [absorb_zero]; exact (heap_alloc_old (w.alloc _) _ (by simp)).trans (heap_alloc_new w _)
    · have hz := heap_alloc_new (w.alloc (.cells #[.int .u32 s.a.toNat, .int .u32 s.b.toNat, .int .u32 s.c.toNat, .int .u32 s.d.toNat, .int .u32 s.e.toNat, .int .u32 s.f.toNat, .int .u32 s.g.toNat, .int .u32 s.h.toNat] 120)) (.cells zeros8 120)
      rw [World.size_alloc] at hz
      exact hz
  case round =>
    obtain ⟨k, hk, rfl, hst, hz, hb⟩ := hrel
    by_cases hlt : k < nb
    · obtain ⟨ad, x0, rfl, had, _, _⟩ := (h.below hb).get (k := 64 * k) (by rw [HL.out]; omega)
      obtain ⟨S, hS⟩ : ∃ S, S = absorb s l k := ⟨_, rfl⟩
      rw [← hS] at hst
      obtain ⟨blk, hblk⟩ : ∃ blk, blk = (l.drop (64 * k)).take 64 := ⟨_, rfl⟩
      have hbl : blk.length = 64 := by rw [hblk, List.length_take, List.length_drop, HL.out]; omega
      have hbyt : Byt wr wr.heap.size (some (ad.add (64 * k))) blk := by
        have := ((h.below hb).more hb.size).cut (lo := 64 * k) (hi := 64 * k + 64) (cap := c) (by omega) (by rw [HL.out]; omega) (by rw [HL.out]; omega)
        rw [if_neg (by omega)] at this
        rw [hblk, show (l.drop (64 * k)).take 64 = (l.take (64 * k + 64)).drop (64 * k) from by rw [List.drop_take]; congr 1; omega]
        exact this
      have HS := hid hS
      have HB := hid hblk
      have HBL := hid hbl
      have hcap : ¬ c = 64 * k := by omega
      have e4 : 64 * k + 64 - 64 * k = 64 := by omega
      have hk0 : (0 : Int) ≤ (k : Int) := Int.natCast_nonneg _
      have hk2 : 64 * (k : Int) + 64 ≤ (c : Int) := by omega
      have hk3 : 64 * (k : Int) < 64 * (nb : Int) := by omega
      clear hS hblk hbl h
      have hTr := hT.below hT.pos hb
      have hN : w.heap.size < wr.heap.size := hst.lt
      have hN1 : w.heap.size + 1 < wr.heap.size := (Array.getElem?_eq_some_iff.1 hz.out).1
      have hl64 : (wv (sched blk)).length = 64 := by simp [wv, sched_length]
      have hsz : (Tryz.prog.info? 133).map (·.size) = some 64 := by kernel_rfl
      have h1c : ∀ v ∈ wv (sched blk), v.oneCell' = true := by
        intro v hv
        obtain ⟨x, _, rfl⟩ := List.mem_map.1 hv
        rfl
      have H1 := hid h1c
      have hsa : (wv (sched blk)).toArray.size = 64 := by rw [List.size_toArray]; exact hl64
      have HSA := hid hsa
      clear hsa
      have HL64 := hid hl64
      have HSZ := hid hsz
      clear hl64 hsz h1c
      go_wp2_with fail
      refine (schedule_any (some (ad.add (64 * k))) blk _ HBL.out (by omega) (by omega) wr hbyt).mono ?_
      rintro er w1 ⟨rfl, hb1⟩
      have hst1 := hst.below hb1 hN
      have hz1 := hid ((hb1.block _ hN1).trans hz.out)
      have hT1 := hTr.below (B := wr.heap.size) (by omega) hb1
      clear hst hz hTr hbyt
      have hth : (w1.alloc (.cells zeros64 133)).there w1.heap.size 0 64 := by rw [zeros64_eq]; exact there_row (cs := wv (List.replicate 64 0)) (heap_alloc_new w1 _)
      unfold zeros64 at hth
      have HT2 := hid hth
      clear hth
      go_wp2_with (first
        | (refine wpList_store_named rfl 133 (.tmp 6) (.tmp 20) rfl w1.heap.size 0 (wv (sched blk)).toArray rfl rfl (by rw [HSA.out]; exact HT2.out) (by rw [HSA.out]; exact HSZ.out) (all_oneCell_toArray H1.out) ?_
           intro W2 hW2
           have hb2 : Below wr.heap.size w1 W2 := by rw [hW2.out]; exact below_setCells hb1.size _ _ _ ((Below.refl _ _).alloc hb1.size _)
           have hst2 : StIs W2 w.heap.size S := hst1.below hb2 hN
           have hT2 : Tab W2 := hT1.below (by omega) hb2
           have hrg : W2.rangeAt w1.heap.size 0 (wv (sched blk)) := by rw [hW2.out]; exact World.rangeAt_setCells_same _ _ _ _ (by rw [HL64.out]; exact HT2.out)
           have hsz2 : w1.heap.size < W2.heap.size := by
             obtain ⟨q, hq⟩ : ∃ q, W2.cell? ⟨w1.heap.size, 0 + 0, none⟩ = some q := ⟨_, hrg 0 _ (List.getElem?_eq_getElem (by rw [HL64.out]; omega))⟩
             exact World.block_lt_of_cell? W2 _ hq
           have hz2 := hid ((hb2.block _ hN1).trans hz1.out)
           have HRG := hid hrg
           obtain ⟨⟨z0, z1, z2, z3, z4, z5, z6, z7⟩, _⟩ := row8 hst2
           clear hst1 hT1 HT2 hW2 hrg))
      have HRD := rounds_any S w1.heap.size 0 (sched blk) (sched_length blk) W2 hT2 hsz2 (fun t x hx => HRG.out t _ (by simp [wv, hx]))
      unfold stv at HRD
      refine HRD.mono ?_
      clear HRD
      rintro er w3 ⟨rfl, hb3⟩
      obtain ⟨T, hT⟩ : ∃ T, T = rounds S (sched blk) 64 := ⟨_, rfl⟩
      rw [← hT]
      have HTT := hid hT
      clear hT z0 z1 z2 z3 z4 z5 z6 z7
      have hN2 : w.heap.size < W2.heap.size := hst2.lt
      have hst3 : StIs w3 w.heap.size S := hst2.below hb3 hN2
      have hz3 := hid ((hb3.block _ (Array.getElem?_eq_some_iff.1 hz2.out).1).trans hz2.out)
      have hb03 : Below w.heap.size w w3 := ((hb.trans (hb1.mono (by omega))).trans (hb2.mono (by omega))).trans (hb3.mono (by omega))
      obtain ⟨⟨z0, z1, z2, z3, z4, z5, z6, z7⟩, y0, y1, y2, y3, y4, y5, y6, y7⟩ := row8 hst3
      have hfin := hid (StIs.set8 (T := addSt S T) hst3)
      have hS0 : addSt S T = absorb s l (k + 1) := by
        rw [absorb_succ, HTT.out, HB.out, HS.out]
      have HS0 := hid hS0
      obtain ⟨Sa, Sb, Sc, Sd, Se, Sf, Sg, Sh⟩ := S
      obtain ⟨Ta, Tb, Tc, Td, Te, Tf, Tg, Th⟩ := T
      dsimp only [addSt] at *
      clear hst2 hz2 hb2 hst3 HRG hT2 hsz2 hS0 hb1 hb3 hz1 HSA H1 HL64 HSZ HBL had
      have i0 := fun w => index8_0 (.int .u32 Ta.toNat) (.int .u32 Tb.toNat) (.int .u32 Tc.toNat) (.int .u32 Td.toNat) (.int .u32 Te.toNat) (.int .u32 Tf.toNat) (.int .u32 Tg.toNat) (.int .u32 Th.toNat) w
      have i1 := fun w => index8_1 (.int .u32 Ta.toNat) (.int .u32 Tb.toNat) (.int .u32 Tc.toNat) (.int .u32 Td.toNat) (.int .u32 Te.toNat) (.int .u32 Tf.toNat) (.int .u32 Tg.toNat) (.int .u32 Th.toNat) w
      have i2 := fun w => index8_2 (.int .u32 Ta.toNat) (.int .u32 Tb.toNat) (.int .u32 Tc.toNat) (.int .u32 Td.toNat) (.int .u32 Te.toNat) (.int .u32 Tf.toNat) (.int .u32 Tg.toNat) (.int .u32 Th.toNat) w
      have i3 := fun w => index8_3 (.int .u32 Ta.toNat) (.int .u32 Tb.toNat) (.int .u32 Tc.toNat) (.int .u32 Td.toNat) (.int .u32 Te.toNat) (.int .u32 Tf.toNat) (.int .u32 Tg.toNat) (.int .u32 Th.toNat) w
      have i4 := fun w => index8_4 (.int .u32 Ta.toNat) (.int .u32 Tb.toNat) (.int .u32 Tc.toNat) (.int .u32 Td.toNat) (.int .u32 Te.toNat) (.int .u32 Tf.toNat) (.int .u32 Tg.toNat) (.int .u32 Th.toNat) w
      have i5 := fun w => index8_5 (.int .u32 Ta.toNat) (.int .u32 Tb.toNat) (.int .u32 Tc.toNat) (.int .u32 Td.toNat) (.int .u32 Te.toNat) (.int .u32 Tf.toNat) (.int .u32 Tg.toNat) (.int .u32 Th.toNat) w
      have i6 := fun w => index8_6 (.int .u32 Ta.toNat) (.int .u32 Tb.toNat) (.int .u32 Tc.toNat) (.int .u32 Td.toNat) (.int .u32 Te.toNat) (.int .u32 Tf.toNat) (.int .u32 Tg.toNat) (.int .u32 Th.toNat) w
      have i7 := fun w => index8_7 (.int .u32 Ta.toNat) (.int .u32 Tb.toNat) (.int .u32 Tc.toNat) (.int .u32 Td.toNat) (.int .u32 Te.toNat) (.int .u32 Tf.toNat) (.int .u32 Tg.toNat) (.int .u32 Th.toNat) w
      go_wp2_with fail
      refine wp_loop_rounds 9 ?_
      rw [rounds_succ]
      go_wp2
      rw [rounds_succ]
      go_wp2
      rw [rounds_succ]
      go_wp2
      rw [rounds_succ]
      go_wp2
      rw [rounds_succ]
      go_wp2
      rw [rounds_succ]
      go_wp2
      rw [rounds_succ]
      go_wp2
      rw [rounds_succ]
      go_wp2
      rw [rounds_succ]
      go_wp2
      rw [sum2, sum2, sum2, sum2, sum2, sum2, sum2, sum2]
      go_roundw
      case rel =>
        refine ⟨k + 1, by omega, congrArg (Value.int .i64) (by omega), by rw [← HS0.out]; exact hfin.out, hid ?_, ?_⟩
        · repeat' (refine (Below.heap_setCell _ _ _ _ (by simp)).trans ?_)
          exact hz3.out
        · repeat' (refine Below.setCell ?_ (by simp) _)
          exact hb03
      case measure => simp [intOf]; omega
    · have hkn : (k : Int) = nb := by omega
      have hzz := row8 hz.out
      obtain ⟨⟨z0, z1, z2, z3, z4, z5, z6, z7⟩, y0, y1, y2, y3, y4, y5, y6, y7⟩ := row8 hz.out
      obtain ⟨⟨x0, x1, x2, x3, x4, x5, x6, x7⟩, _⟩ := row8 hst
      obtain rfl : k = nb := by omega
      clear hzz hst hkn h
      go_wp2
      refine bodyPost_ret (v := stv (absorb s l k)) (by simp [results, Tryz.results100, go_sem, stv, z0, z1, z2, z3, z4, z5, z6, z7]) rfl ⟨rfl, ?_⟩
      repeat' (refine Below.setCell ?_ (by simp) _)
      exact hb
end Go.Proofs.YtaadmgbmaekicaaGreatDoor.Sh
