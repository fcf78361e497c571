/-
  The program's side of a block: schedule, by contract.
-/
import Derived.Test.YtaadmgbmaekicaaGreatDoorJn17
import Derived.Laws.Rows
set_option linter.unusedVariables false
set_option linter.unusedSimpArgs false
namespace Go.Proofs.YtaadmgbmaekicaaGreatDoor.Sh
open Go Go.RowKit

theorem first16_length (blk : List UInt8) (n : Nat) : (first16 blk n).length = n := by
  induction n with
  | zero => rfl
  | succ n ih => simp [first16, ih]
theorem more_length (blk : List UInt8) (n : Nat) : (more blk n).length = 16 + n := by
  induction n with
  | zero => exact first16_length blk 16
  | succ n ih => simp [more, ih]; omega
theorem sched_length (blk : List UInt8) : (sched blk).length = 64 := more_length blk 48

theorem take_set_succ {α : Type} (l : List α) (k : Nat) (x : α) (h : k < l.length) : (l.set k x).take (k + 1) = l.take k ++ [x] := by
  rw [List.take_add_one, List.take_set_of_le (Nat.le_refl _), List.getElem?_set_self h]; rfl
theorem first16_succ {blk : List UInt8} {k : Nat} {x0 x1 x2 x3 : UInt8} (h0 : blk[4 * k]? = some x0) (h1 : blk[4 * k + 1]? = some x1) (h2 : blk[4 * k + 2]? = some x2) (h3 : blk[4 * k + 3]? = some x3) :
    first16 blk (k + 1) = first16 blk k ++ [word4 x0 x1 x2 x3] := by
  simp only [first16, List.getD_eq_getElem?_getD, h0, h1, h2, h3, Option.getD_some]
theorem more_succ {blk : List UInt8} {j : Nat} {cur : List UInt32} {a b c d : UInt32} (hc : cur.length = 64) (hj : j < 48) (h : cur.take (j + 16) = more blk j) (ha : cur[j]? = some a) (hb : cur[j + 1]? = some b) (hc' : cur[j + 9]? = some c) (hd : cur[j + 14]? = some d) :
    (cur.set (j + 16) (a + sig0 b + c + sig1 d)).take (j + 1 + 16) = more blk (j + 1) := by
  rw [show j + 1 + 16 = (j + 16) + 1 by omega, take_set_succ _ _ _ (by omega), h]
  have g : ∀ t x, t < j + 16 → cur[t]? = some x → (more blk j).getD t 0 = x := fun t x ht hx => by
    rw [← h, List.getD_eq_getElem?_getD, List.getElem?_take, if_pos ht, hx]; rfl
  simp only [more, next]
  rw [show 16 + j - 16 = j by omega, show 16 + j - 15 = j + 1 by omega, show 16 + j - 7 = j + 9 by omega, show 16 + j - 2 = j + 14 by omega,
    g j a (by omega) ha, g (j + 1) b (by omega) hb, g (j + 9) c (by omega) hc', g (j + 14) d (by omega) hd]

/-- The array of words lies in block g and reads cur. -/
def ArrIs (w : World) (g : Nat) (cur : List UInt32) : Prop := cur.length = 64 ∧ w.heap[g]? = some (.cells (wv cur).toArray 133 (0, 0))
theorem ArrIs.cell {w : World} {g : Nat} {cur : List UInt32} (h : ArrIs w g cur) (t : Nat) (x : UInt32) (hx : cur[t]? = some x) : w.cell? ⟨g, t, none⟩ = some (.int .u32 x.toNat) := by
  rw [cell_of_row w g t _ _ (0, 0) h.2]
  simp [wv, hx]
theorem ArrIs.free {w : World} {g : Nat} {cur : List UInt32} (h : ArrIs w g cur) (t : Nat) : w.frozen? ⟨g, t, none⟩ = false := frozen_of_row w g t _ _ h.2
theorem ArrIs.set {w : World} {g : Nat} {cur : List UInt32} (h : ArrIs w g cur) (t : Nat) (x : UInt32) : ArrIs (w.setCell ⟨g, t, none⟩ (.int .u32 x.toNat)) g (cur.set t x) := by
  refine ⟨by simp [h.1], ?_⟩
  rw [heap_setCell_same w g t _ _ _ h.2]
  simp [wv, List.map_set]
theorem ArrIs.drewN {w : World} {g : Nat} {cur : List UInt32} (h : ArrIs w g cur) (n : Nat) : ArrIs (w.drewN n) g cur := h
theorem ArrIs.of_below {w w' : World} {B g : Nat} {cur : List UInt32} (h : ArrIs w g cur) (hb : Below B w w') (hg : g < B) : ArrIs w' g cur := ⟨h.1, (hb.block g hg).trans h.2⟩

set_option maxRecDepth 100000 in
set_option maxHeartbeats 2000000 in
theorem schedule_any (A : Option Addr) (blk : List UInt8) (c : Nat) (hl : blk.length = 64) (hc : 64 ≤ c) (hcm : c ≤ 9223372036854775807) (w : World) (h : Byt w w.heap.size A blk) :
    Calls Tryz.prog 124 #[.slice A 64 c] w fun e w' => e = .returned (.agg (wv (sched blk)).toArray) ∧ Below w.heap.size w w' := by
  go_enter Tryz.func124, Tryz.ntmps124
  go_wp2
  go_loopw [11] (fun i wr => ∃ k : Nat, k ≤ 16 ∧ i = .int .i64 k ∧ ∃ cur, ArrIs wr (w.heap.size + 1) cur ∧ Hid (cur.take k = first16 blk k) ∧ ArrIs wr w.heap.size (List.replicate 64 0) ∧ Below w.heap.size w wr)
    (fun i _ => 16 - (intOf i).toNat)
  case atStart =>
    refine ⟨0, by omega, rfl, List.replicate 64 0, ⟨rfl, ?_⟩, hid rfl, ⟨rfl, ?_⟩, ((Below.refl _ _).alloc (Nat.le_refl _) _).alloc (by simp) _⟩
    · have hz := heap_alloc_new (w.alloc (.cells (wv (List.replicate 64 0)).toArray 133)) (.cells (wv (List.replicate 64 0)).toArray 133)
      rw [World.size_alloc] at hz
      exact hz
    · exact (heap_alloc_old (w.alloc _) _ (by simp)).trans (heap_alloc_new w (.cells (wv (List.replicate 64 0)).toArray 133))
  case round =>
    obtain ⟨k, hk, rfl, cur, hcur, hpre, hres, hb⟩ := hrel
    by_cases hlt : k < 16
    · obtain ⟨ad, x0, rfl, had, hx0, c0⟩ := (h.below hb).get (k := 4 * k) (by omega)
      obtain ⟨_, x1, he1, _, hx1, c1⟩ := (h.below hb).get (k := 4 * k + 1) (by omega)
      obtain rfl := Option.some.inj he1
      obtain ⟨_, x2, he2, _, hx2, c2⟩ := (h.below hb).get (k := 4 * k + 2) (by omega)
      obtain rfl := Option.some.inj he2
      obtain ⟨_, x3, he3, _, hx3, c3⟩ := (h.below hb).get (k := 4 * k + 3) (by omega)
      obtain rfl := Option.some.inj he3
      have HX := hid (And.intro hx0 (And.intro hx1 (And.intro hx2 hx3)))
      clear hx0 hx1 hx2 hx3 he1 he2 he3 h
      have hcap : ¬ c = 4 * k := by omega
      have hk0 : (0 : Int) ≤ (k : Int) := Int.natCast_nonneg _
      have hk1 : (k : Int) < 64 := by omega
      have hk2 : 4 * (k : Int) + 4 ≤ (c : Int) := by omega
      have e4 : 4 * k + 4 - 4 * k = 4 := by omega
      rw [← add_add, add_pos _ _ (by omega)] at c1 c2 c3
      obtain ⟨old, hold⟩ : ∃ x, cur[k]? = some x := ⟨cur[k]'(by rw [hcur.1]; omega), List.getElem?_eq_getElem _⟩
      have cw := hcur.cell k old hold
      have cf := hcur.free k
      have hbk : (ad.add (4 * k)).block ≠ w.heap.size + 1 := by rw [block_add]; omega
      have hV := word4_val x0 x1 x2 x3
      obtain ⟨X, hX⟩ : ∃ X, X = word4 x0 x1 x2 x3 := ⟨_, rfl⟩
      rw [← hX] at hV
      have HX4 := hid hX
      clear hX hold
      have hT0 : (wr.setCell ⟨w.heap.size + 1, k, none⟩ (Value.int IntKind.u32 X.toNat)).drew.cell? (ad.add (4 * k)) = some (.int .u8 x0.toNat) := (far_drew hbk).trans c0
      have hT1 : (wr.setCell ⟨w.heap.size + 1, k, none⟩ (Value.int IntKind.u32 X.toNat)).drew.cell? ⟨(ad.add (4 * k)).block, (ad.add (4 * k)).off + 1, none⟩ = some (.int .u8 x1.toNat) := (far_at hbk).trans c1
      have hT2 : (wr.setCell ⟨w.heap.size + 1, k, none⟩ (Value.int IntKind.u32 X.toNat)).drew.cell? ⟨(ad.add (4 * k)).block, (ad.add (4 * k)).off + 2, none⟩ = some (.int .u8 x2.toNat) := (far_at hbk).trans c2
      have hT3 : (wr.setCell ⟨w.heap.size + 1, k, none⟩ (Value.int IntKind.u32 X.toNat)).drew.cell? ⟨(ad.add (4 * k)).block, (ad.add (4 * k)).off + 3, none⟩ = some (.int .u8 x3.toNat) := (far_at hbk).trans c3
      go_wp2_with fail
      go_region_held3 (fun w' => w'.cell? (ad.add (4 * k)) = some (.int .u8 x0.toNat) ∧ w'.cell? ⟨(ad.add (4 * k)).block, (ad.add (4 * k)).off + 1, none⟩ = some (.int .u8 x1.toNat) ∧ w'.cell? ⟨(ad.add (4 * k)).block, (ad.add (4 * k)).off + 2, none⟩ = some (.int .u8 x2.toNat) ∧ w'.cell? ⟨(ad.add (4 * k)).block, (ad.add (4 * k)).off + 3, none⟩ = some (.int .u8 x3.toNat))
        (first | go_keep | exact ⟨hT0, hT1, hT2, hT3⟩) (first | fail)
      have hlen : k < cur.length := by rw [hcur.1]; omega
      have hc2 : ArrIs (wr.setCell ⟨w.heap.size + 1, k, none⟩ (.int .u32 X.toNat)).drew (w.heap.size + 1) (cur.set k X) := hcur.set k X
      have hb2 : Below w.heap.size w (wr.setCell ⟨w.heap.size + 1, k, none⟩ (.int .u32 X.toNat)).drew := (hb.setCell (by simp) _).drew
      have hr2 : ArrIs (wr.setCell ⟨w.heap.size + 1, k, none⟩ (.int .u32 X.toNat)).drew w.heap.size (List.replicate 64 0) := ⟨rfl, (Below.heap_setCell wr _ _ _ (by simp)).trans hres.2⟩
      clear hcur hb hres
      have HT : Hid ((cur.set k X).take (k + 1) = first16 blk (k + 1)) := by
        have hx := HX.out
        exact hid (by rw [take_set_succ _ _ _ (by omega), hpre.out, first16_succ hx.1 hx.2.1 hx.2.2.1 hx.2.2.2, HX4.out])
      clear hT0 hT1 hT2 hT3 hV c0 c1 c2 c3 cw cf
      go_wp2
      go_roundw
      case rel => exact ⟨k + 1, by omega, by go_num, _, hc2, HT, hr2, hb2⟩
      case measure => simp [intOf]; omega
    · have hk16 : (k : Int) = 16 := by omega
      rw [hk16]
      obtain rfl : k = 16 := by omega
      clear hk16
      have hpre2 : Hid (cur.take (0 + 16) = more blk 0) := hid hpre.out
      clear hpre h
      go_wp2
      go_loopw [6] (fun i wq => ∃ j : Nat, j ≤ 48 ∧ i = .int .i64 ((j : Int) + 16) ∧ ∃ cur, ArrIs wq (w.heap.size + 1) cur ∧ Hid (cur.take (j + 16) = more blk j) ∧ ArrIs wq w.heap.size (List.replicate 64 0) ∧ Below w.heap.size w wq)
        (fun i _ => 64 - (intOf i).toNat)
      case atStart => exact ⟨0, by omega, rfl, cur, hcur, hpre2, hres, hb⟩
      case round =>
        clear hcur hpre2 hres hb
        obtain ⟨j, hj, rfl, cur, hcur, hpre, hres, hb⟩ := hrel
        by_cases hlt : j < 48
        · have hg : ∀ t, t < 64 → ∃ x, cur[t]? = some x := fun t ht => ⟨cur[t]'(by rw [hcur.1]; exact ht), List.getElem?_eq_getElem _⟩
          obtain ⟨a, ha⟩ := hg j (by omega)
          obtain ⟨b, hb'⟩ := hg (j + 1) (by omega)
          obtain ⟨c', hc'⟩ := hg (j + 9) (by omega)
          obtain ⟨d, hd⟩ := hg (j + 14) (by omega)
          obtain ⟨old, ho⟩ := hg (j + 16) (by omega)
          have ca := hcur.cell _ _ ha
          have cb := hcur.cell _ _ hb'
          have cc := hcur.cell _ _ hc'
          have cd := hcur.cell _ _ hd
          have co := hcur.cell _ _ ho
          have cf := hcur.free (j + 16)
          have HG := hid (And.intro ha (And.intro hb' (And.intro hc' hd)))
          clear ha hb' hc' hd ho hg
          have hk0 : (0 : Int) ≤ (j : Int) := Int.natCast_nonneg _
          have hk1 : (j : Int) < 48 := by omega
          obtain ⟨s0, hs0⟩ : ∃ x, x = sig0 b := ⟨_, rfl⟩
          obtain ⟨s1, hs1⟩ : ∃ x, x = sig1 d := ⟨_, rfl⟩
          obtain ⟨X, hX⟩ : ∃ x, x = a + s0 + c' + s1 := ⟨_, rfl⟩
          have k1 := sig0_val b
          have k2 := sig1_val d
          have k3 := sum4w a s0 c' s1
          rw [← hs0] at k1
          rw [← hs1] at k2
          rw [← hX] at k3
          have HS := hid (And.intro hs0 (And.intro hs1 hX))
          clear hs0 hs1 hX
          go_wp2_with fail
          go_quiet (fail)
          go_wp2_with (go_at_call 133; refine (rotated_int _ _ (by omega) (by omega) _).mono ?_; rintro er wr' ⟨rfl, qr, rfl⟩)
          have e1 : IntKind.i64.wrap ((j : Int) + 16 - 16) = (j : Int) := by rw [IntWalk.i64_in _ (by omega)]; omega
          have e0 : IntKind.i64.wrap (j : Int) = (j : Int) := IntWalk.i64_in _ (by omega)
          have e2 : IntKind.i64.wrap ((j : Int) + 16 - 7) = (j : Int) + 9 := by rw [IntWalk.i64_in _ (by omega)]; omega
          have e3 : ((j : Int) + 9).toNat = j + 9 := by omega
          have e4 : ((j : Int) + 16).toNat = j + 16 := by omega
          have b1 : (0 : Int) ≤ (j : Int) + 9 := by omega
          have b2 : (j : Int) + 9 < 64 := by omega
          have b3 : (0 : Int) ≤ (j : Int) + 16 := by omega
          have b4 : (j : Int) + 16 < 64 := by omega
          have b5 : (j : Int) < 64 := by omega
          have hT1 : ∀ n, ((wr.drewN n).setCell ⟨w.heap.size + 1, j + 16, none⟩ (.int .u32 X.toNat)).cell? ⟨w.heap.size + 1, j, none⟩ = some (.int .u32 a.toNat) := fun n =>
            (World.cell?_setCell_other (wr.drewN n) _ _ _ (by simp)).trans ca
          have hT2 : ∀ n, ((wr.drewN n).setCell ⟨w.heap.size + 1, j + 16, none⟩ (.int .u32 X.toNat)).cell? ⟨w.heap.size + 1, j + 9, none⟩ = some (.int .u32 c'.toNat) := fun n =>
            (World.cell?_setCell_other (wr.drewN n) _ _ _ (by simp)).trans cc
          go_region_held3 (fun w' => w'.cell? ⟨w.heap.size + 1, j, none⟩ = some (.int .u32 a.toNat) ∧ w'.cell? ⟨w.heap.size + 1, j + 9, none⟩ = some (.int .u32 c'.toNat))
            (first | go_keep | exact ⟨hT1 _, hT2 _⟩) (first | fail)
          have HT : Hid ((cur.set (j + 16) X).take (j + 1 + 16) = more blk (j + 1)) := by
            have hg := HG.out
            have hs := HS.out
            exact hid (by rw [hs.2.2, hs.1, hs.2.1]; exact more_succ hcur.1 hlt hpre.out hg.1 hg.2.1 hg.2.2.1 hg.2.2.2)
          clear hT1 hT2 k1 k2 k3 e0 e1 e2 e3 e4 ca cb cc cd co cf
          go_wp2
          go_roundw
          case rel => exact ⟨j + 1, by omega, by go_num, cur.set (j + 16) X, ArrIs.set (ArrIs.drewN hcur _) (j + 16) X, HT, ⟨rfl, (Below.heap_setCell _ _ _ _ (by simp)).trans hres.2⟩, (below_drewN hb _).setCell (by simp) _⟩
          case measure => simp [intOf]; omega
        · obtain rfl : j = 48 := by omega
          have hcur2 : cur = sched blk := by
            have := hpre.out
            rwa [List.take_of_length_le (by rw [hcur.1]; omega)] at this
          have HC2 := hid hcur2
          have hl64 : (wv cur).length = 64 := by simp [wv, hcur.1]
          have hsz : (Tryz.prog.info? 133).map (·.size) = some 64 := by kernel_rfl
          have HR := hid hcur.2
          have HU := hid hres.2
          have h1c : ∀ v ∈ wv cur, v.oneCell' = true := by
            intro v hv
            obtain ⟨x, _, rfl⟩ := List.mem_map.1 hv
            rfl
          have hth : wr.there w.heap.size 0 (wv cur).length := by
            have := there_row HU.out
            rw [hl64]; simpa [wv] using this
          have H1 := hid h1c
          have HL := hid hl64
          have HS := hid hsz
          have HT2 := hid hth
          clear hcur hres hpre h1c hl64 hsz hcur2 hth
          go_wp2_with (first
            | (with_reducible refine wpList_load_mid rfl 133 (.tmp 3) rfl (w.heap.size + 1) 0 rfl (wv cur) _ (range_row HR.out) Tryz.underlying133 rfl (by rw [HL.out]; exact HS.out) ?_)
            | (refine wpList_store_mid rfl 133 (.tmp 2) (.tmp 89) rfl w.heap.size 0 (wv cur).toArray rfl rfl (by rw [List.size_toArray]; exact HT2.out) (by rw [List.size_toArray, HL.out]; exact HS.out) (all_oneCell_toArray H1.out) ?_))
          refine bodyPost_ret (v := .agg (wv cur).toArray) (results_mid (h := Tryz.results124) _ _ w.heap.size 0 (wv cur) _ rfl (World.rangeAt_setCells_same wr w.heap.size 0 (wv cur) HT2.out) Tryz.underlying133 rfl (by rw [HL.out]; exact HS.out)) rfl ⟨by rw [HC2.out], below_setCells (Nat.le_refl _) _ _ _ hb⟩
end Go.Proofs.YtaadmgbmaekicaaGreatDoor.Sh
