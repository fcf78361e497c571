/-
  The program's side: ending, by contract.
-/
import Derived.Test.YtaadmgbmaekicaaGreatDoorJn19
set_option linter.unusedVariables false
set_option linter.unusedSimpArgs false
namespace Go.Proofs.YtaadmgbmaekicaaGreatDoor.Sh
open Go Go.RowKit

def tailPad (r : List UInt8) (L : Nat) : List UInt8 := r ++ 128 :: (List.replicate (zerosFor r.length) 0 ++ be8 (8 * L))
/-- The last k bytes of the eight. -/
def last (n k : Nat) : List UInt8 := (be8 n).drop (8 - k)
theorem last_succ (n k : Nat) (hk : k < 8) : last n (k + 1) = UInt8.ofNat (n / 2 ^ (8 * k)) :: last n k := by
  have h : k = 0 ∨ k = 1 ∨ k = 2 ∨ k = 3 ∨ k = 4 ∨ k = 5 ∨ k = 6 ∨ k = 7 := by omega
  rcases h with rfl | rfl | rfl | rfl | rfl | rfl | rfl | rfl <;> simp [last, be8]
theorem last_length (n k : Nat) (hk : k ≤ 8) : (last n k).length = k := by simp [last, be8]; omega
/-- What the block reads behind k rounds. -/
def part (r : List UInt8) (L size k : Nat) : List UInt8 := r ++ 128 :: (List.replicate (size - r.length - 1 - k) 0 ++ last (8 * L) k)
theorem part_length (r : List UInt8) (L size k : Nat) (hk : k ≤ 8) (hr : r.length + 9 ≤ size) : (part r L size k).length = size := by
  simp [part, last_length _ _ hk]; omega
theorem part_set (r : List UInt8) (L size k : Nat) (hk : k < 8) (hr : r.length + 9 ≤ size) : (part r L size k).set (size - 1 - k) (UInt8.ofNat (8 * L / 2 ^ (8 * k))) = part r L size (k + 1) := by
  unfold part
  rw [last_succ _ _ hk]
  obtain ⟨m, hm⟩ : ∃ m, size - r.length - 1 - k = m + 1 := ⟨size - r.length - 1 - k - 1, by omega⟩
  rw [hm, show size - r.length - 1 - (k + 1) = m by omega, show size - 1 - k = r.length + (m + 1) by omega, List.set_append_right _ _ (by omega), show r.length + (m + 1) - r.length = m + 1 by omega]
  simp only [List.set_cons_succ]
  rw [List.replicate_succ', List.append_assoc, List.set_append_right _ _ (by simp), List.length_replicate, Nat.sub_self]
  simp
theorem part_done (r : List UInt8) (L size : Nat) (h : size = r.length + 1 + zerosFor r.length + 8) : part r L size 8 = tailPad r L := by
  unfold part tailPad
  rw [show size - r.length - 1 - 8 = zerosFor r.length by omega]
  rfl
theorem byte_val (a k : Nat) : ((8 * (a : Int)) / 2 ^ (8 * k)) % 256 = ((UInt8.ofNat (8 * a / 2 ^ (8 * k))).toNat : Int) := by
  rw [UInt8.toNat_ofNat']
  simp

def zb (n : Nat) : Array Value := (bv (List.replicate n 0)).toArray
theorem make64 (w : World) : (Instr.makeSlice 22 (.int .i64 64) (.int .i64 64)).run Tryz.prog w = .ok (.slice (some ⟨w.heap.size, 0, none⟩) 64 64) (w.alloc (.cells (zb 64) 5)) := by kernel_rfl
theorem make128 (w : World) : (Instr.makeSlice 22 (.int .i64 128) (.int .i64 128)).run Tryz.prog w = .ok (.slice (some ⟨w.heap.size, 0, none⟩) 128 128) (w.alloc (.cells (zb 128) 5)) := by kernel_rfl
theorem info_u8s : (Tryz.prog.info? 5).map (·.size) = some 1 := by kernel_rfl

theorem copy_src {w : World} {A : Option Addr} {r : List UInt8} (h : Byt w w.heap.size A r) (o : Obj) :
    0 < (bv r).length → (some ⟨w.heap.size, 0, none⟩ : Option Addr) = some ⟨w.heap.size, 0, none⟩ ∧ ∃ ad, A = some ad ∧ ∀ j v, (bv r)[j]? = some v → (w.alloc o).cell? (ad.add j) = some v := fun hpos => by
  refine ⟨rfl, ?_⟩
  have h2 : Byt (w.alloc o) w.heap.size A r := h.below ((Below.refl _ _).alloc (Nat.le_refl _) o)
  obtain ⟨ad, hA, _⟩ := h (by rw [bv_length] at hpos; exact hpos)
  exact ⟨ad, hA, h2.cells hA⟩
theorem copy_len {r : List UInt8} {n : Nat} (h : r.length ≤ n) : (bv r).length = Nat.min r.length n := by
  rw [bv_length]; exact (Nat.min_eq_left h).symm
theorem copy_fit {r : List UInt8} {n : Nat} (h : r.length ≤ n) : 0 + (bv r).length ≤ (bv (List.replicate n 0)).length := by
  rw [bv_length, bv_length, List.length_replicate]; omega
theorem zb_block (w : World) (n : Nat) (e : TypeId) : (w.alloc (.cells (zb n) e)).heap[w.heap.size]? = some (.cells (bv (List.replicate n 0)).toArray e (0, 0)) := heap_alloc_new w _
/-- Behind the copy and the store of 128. -/
theorem part_zero (r : List UInt8) (L size : Nat) (hr : r.length + 9 ≤ size) : (splice (bv (List.replicate size 0)) 0 (bv r)).set r.length (.int .u8 128) = bv (part r L size 0) := by
  have e : splice (bv (List.replicate size 0)) 0 (bv r) = bv (r ++ List.replicate (size - r.length) 0) := by
    simp [splice, bv]
  rw [e, show (Value.int .u8 128) = Value.int .u8 ((128 : UInt8).toNat : Int) from rfl, bv_set]
  congr 1
  obtain ⟨m, hm⟩ : ∃ m, size - r.length = m + 1 := ⟨size - r.length - 1, by omega⟩
  rw [hm, List.set_append_right _ _ (Nat.le_refl _), Nat.sub_self, List.replicate_succ, List.set_cons_zero]
  unfold part
  rw [show size - r.length - 1 - 0 = m by omega]
  simp [last, be8]

set_option maxRecDepth 100000 in
set_option maxHeartbeats 1000000 in
theorem ending_sz (A : Option Addr) (r : List UInt8) (c L size : Nat) (hL : L ≤ 1099511627776) (hr : r.length < 64) (hs : (r.length < 56 ∧ size = 64) ∨ (56 ≤ r.length ∧ size = 128)) (w : World) (hbyt : Byt w w.heap.size A r) :
    Calls Tryz.prog 101 #[.slice A r.length c, .int .i64 L] w fun e w' => e = .returned (.slice (some ⟨w.heap.size, 0, none⟩) size size) ∧ Told 5 w w' (.slice (some ⟨w.heap.size, 0, none⟩) size size) (tailPad r L) := by
  have m1 := make64
  have m2 := make128
  have hB : Below w.heap.size w w := Below.refl _ _
  rcases hs with ⟨hs, rfl⟩ | ⟨hs, rfl⟩
  · go_enter Tryz.func101, Tryz.ntmps101
    go_wp2_with (with_reducible refine wpList_copy_splice rfl (.tmp 14) (.tmp 15) 22 22 rfl 5 Tryz.underlying22 info_u8s (some ⟨w.heap.size, 0, none⟩) A 64 64 r.length c rfl rfl w.heap.size 0 (bv (List.replicate 64 0)) 5 (zb_block _ _ _) (bv r) (copy_len (by omega)) (copy_src hbyt _) (copy_fit (by omega)) (bv_one r) w.heap.size w (hB.alloc (Nat.le_refl _) _) (Nat.le_refl _) ?_; intro w1 hw1 hb1; have fz := frozen_of_row w1 w.heap.size r.length _ _ hw1.out; obtain ⟨cv, hcv⟩ := row_cell (j := r.length) hw1.out (by rw [length_splice _ _ _ (copy_fit (by omega)), bv_length, List.length_replicate]; omega))
    have hw2 : Hid ((w1.setCell ⟨w.heap.size, r.length, none⟩ (.int .u8 128)).heap[w.heap.size]? = some (.cells (bv (part r L 64 0)).toArray 5 (0, 0))) := by
      have := heap_setCell_same w1 w.heap.size r.length _ _ (.int .u8 128) hw1.out
      rw [List.setIfInBounds_toArray, part_zero r L 64 (by omega)] at this
      exact hid this
    have hb2 : Below w.heap.size w (w1.setCell ⟨w.heap.size, r.length, none⟩ (.int .u8 128)) := hb1.setCell (Nat.le_refl _) _
    clear hw1 hb1 fz hcv
    go_loopw [24] (fun i wr => ∃ k : Nat, k ≤ 8 ∧ i = .int .i64 k ∧ Hid (wr.heap[w.heap.size]? = some (.cells (bv (part r L 64 k)).toArray 5 (0, 0))) ∧ Below w.heap.size w wr) (fun i _ => 8 - (intOf i).toNat)
    case atStart => exact ⟨0, by omega, rfl, hw2, hb2⟩
    case round =>
      clear hw2 hb2
      obtain ⟨k, hk, rfl, hw2, hb2⟩ := hrel
      by_cases hlt : k < 8
      · have fz := frozen_of_row wr w.heap.size (63 - k) _ _ hw2.out
        obtain ⟨cv, hcv⟩ := row_cell (j := 63 - k) hw2.out (by rw [bv_length, part_length _ _ _ _ hk (by omega)]; omega)
        have hk0 : (0 : Int) ≤ (k : Int) := Int.natCast_nonneg _
        have hk1 : (k : Int) < 8 := by omega
        go_wp2
        rw [byte_val]
        have hw3 : Hid ((wr.setCell ⟨w.heap.size, 63 - k, none⟩ (.int .u8 (UInt8.ofNat (8 * L / 2 ^ (8 * k))).toNat)).heap[w.heap.size]? = some (.cells (bv (part r L 64 (k + 1))).toArray 5 (0, 0))) := by
          have := heap_setCell_same wr w.heap.size (63 - k) _ _ (.int .u8 (UInt8.ofNat (8 * L / 2 ^ (8 * k))).toNat) hw2.out
          rw [List.setIfInBounds_toArray, bv_set, show 63 - k = 64 - 1 - k from rfl, part_set r L 64 k hlt (by omega)] at this
          exact hid this
        go_roundw
        case rel => exact ⟨k + 1, by omega, by go_num, hw3, hb2.setCell (Nat.le_refl _) _⟩
        case measure => simp [intOf]; omega
      · obtain rfl : k = 8 := by omega
        have hlen := part_length r L 64 8 (by omega) (by omega)
        have hd : part r L 64 8 = tailPad r L := part_done r L 64 (by unfold zerosFor; omega)
        rw [hd] at hlen
        have hown : wr.ownsRow w.heap.size 5 1 (.slice (some ⟨w.heap.size, 0, none⟩) 64 64) 64 (bv (tailPad r L)) := own_of_block (by rw [← hd]; exact hw2.out) (Nat.le_refl _) (by rw [bv_length, hlen]) (by unfold maxLen; omega)
        have HO : Hid (Told 5 w wr (.slice (some ⟨w.heap.size, 0, none⟩) 64 64) (tailPad r L)) := hid ⟨by rw [hlen]; exact hown, hb2⟩
        clear hd hlen hown hw2 hb2
        go_wp2
        go_ret
        exact ⟨rfl, HO.out⟩
  · go_enter Tryz.func101, Tryz.ntmps101
    go_wp2_with (with_reducible refine wpList_copy_splice rfl (.tmp 14) (.tmp 15) 22 22 rfl 5 Tryz.underlying22 info_u8s (some ⟨w.heap.size, 0, none⟩) A 128 128 r.length c rfl rfl w.heap.size 0 (bv (List.replicate 128 0)) 5 (zb_block _ _ _) (bv r) (copy_len (by omega)) (copy_src hbyt _) (copy_fit (by omega)) (bv_one r) w.heap.size w (hB.alloc (Nat.le_refl _) _) (Nat.le_refl _) ?_; intro w1 hw1 hb1; have fz := frozen_of_row w1 w.heap.size r.length _ _ hw1.out; obtain ⟨cv, hcv⟩ := row_cell (j := r.length) hw1.out (by rw [length_splice _ _ _ (copy_fit (by omega)), bv_length, List.length_replicate]; omega))
    have hw2 : Hid ((w1.setCell ⟨w.heap.size, r.length, none⟩ (.int .u8 128)).heap[w.heap.size]? = some (.cells (bv (part r L 128 0)).toArray 5 (0, 0))) := by
      have := heap_setCell_same w1 w.heap.size r.length _ _ (.int .u8 128) hw1.out
      rw [List.setIfInBounds_toArray, part_zero r L 128 (by omega)] at this
      exact hid this
    have hb2 : Below w.heap.size w (w1.setCell ⟨w.heap.size, r.length, none⟩ (.int .u8 128)) := hb1.setCell (Nat.le_refl _) _
    clear hw1 hb1 fz hcv
    go_loopw [24] (fun i wr => ∃ k : Nat, k ≤ 8 ∧ i = .int .i64 k ∧ Hid (wr.heap[w.heap.size]? = some (.cells (bv (part r L 128 k)).toArray 5 (0, 0))) ∧ Below w.heap.size w wr) (fun i _ => 8 - (intOf i).toNat)
    case atStart => exact ⟨0, by omega, rfl, hw2, hb2⟩
    case round =>
      clear hw2 hb2
      obtain ⟨k, hk, rfl, hw2, hb2⟩ := hrel
      by_cases hlt : k < 8
      · have fz := frozen_of_row wr w.heap.size (127 - k) _ _ hw2.out
        obtain ⟨cv, hcv⟩ := row_cell (j := 127 - k) hw2.out (by rw [bv_length, part_length _ _ _ _ hk (by omega)]; omega)
        have hk0 : (0 : Int) ≤ (k : Int) := Int.natCast_nonneg _
        have hk1 : (k : Int) < 8 := by omega
        go_wp2
        rw [byte_val]
        have hw3 : Hid ((wr.setCell ⟨w.heap.size, 127 - k, none⟩ (.int .u8 (UInt8.ofNat (8 * L / 2 ^ (8 * k))).toNat)).heap[w.heap.size]? = some (.cells (bv (part r L 128 (k + 1))).toArray 5 (0, 0))) := by
          have := heap_setCell_same wr w.heap.size (127 - k) _ _ (.int .u8 (UInt8.ofNat (8 * L / 2 ^ (8 * k))).toNat) hw2.out
          rw [List.setIfInBounds_toArray, bv_set, show 127 - k = 128 - 1 - k from rfl, part_set r L 128 k hlt (by omega)] at this
          exact hid this
        go_roundw
        case rel => exact ⟨k + 1, by omega, by go_num, hw3, hb2.setCell (Nat.le_refl _) _⟩
        case measure => simp [intOf]; omega
      · obtain rfl : k = 8 := by omega
        have hlen := part_length r L 128 8 (by omega) (by omega)
        have hd : part r L 128 8 = tailPad r L := part_done r L 128 (by unfold zerosFor; omega)
        rw [hd] at hlen
        have hown : wr.ownsRow w.heap.size 5 1 (.slice (some ⟨w.heap.size, 0, none⟩) 128 128) 128 (bv (tailPad r L)) := own_of_block (by rw [← hd]; exact hw2.out) (Nat.le_refl _) (by rw [bv_length, hlen]) (by unfold maxLen; omega)
        have HO : Hid (Told 5 w wr (.slice (some ⟨w.heap.size, 0, none⟩) 128 128) (tailPad r L)) := hid ⟨by rw [hlen]; exact hown, hb2⟩
        clear hd hlen hown hw2 hb2
        go_wp2
        go_ret
        exact ⟨rfl, HO.out⟩
end Go.Proofs.YtaadmgbmaekicaaGreatDoor.Sh
