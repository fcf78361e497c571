/-
  Keys out of keys: mac.Key and the document's own, by contract.
-/
import Derived.Test.YtdmglanepjhdoaaDoorMcRefTagG
import Derived.Test.YtdmglanepjhdoaaDoorMcTagC
import Derived.Test.YtdmglanepjhdoaaDoorMcKeyN
import Derived.Test.YtdmglanepjhdoaaDoorShStr
namespace Go.Proofs.YtdmglanepjhdoaaDoor.Sh
open Go Go.RowKit
attribute [local irreducible] sha hexOf absorb sched rounds keyPad hmac

theorem reads_byte' (w : World) (z : Int) (x : UInt8) (hz : z = (x.toNat : Int)) (t : TypeId) (fr : Nat × Nat) : Reads (w.alloc (.cells #[.int .u8 z] t fr)) (some ⟨w.heap.size, 0, none⟩) (bv [x]) := by
  subst hz
  exact reads_one w x t fr
theorem keyData_length (l : List UInt8) (z : Int) : (keyData l z).length = l.length + 9 := by simp [keyData, be8]

set_option maxHeartbeats 2000000 in
theorem refKey_any (A : Option Addr) (key : List UInt8) (s : ByteArray) (z : Int) (n c : Nat) (hn : key.length = n) (hL : n ≤ 1099511627776) (hs : s.size ≤ 1073741824) (_hz0 : -9223372036854775808 ≤ z) (_hz1 : z ≤ 9223372036854775807)
    (w : World) (hb : Byt w w.heap.size A key) :
    Calls Tryd.prog 29 #[.slice A n c, .string s, .int .i64 z] w fun e w' => ∃ A' c', e = .returned (.slice A' 32 c') ∧ 32 ≤ c' ∧ c' ≤ 9223372036854775807 ∧ OwnB w' w.heap.size (.slice A' 32 c') 32 (hmac key (keyData s.data.toList z)) ∧ Below w.heap.size w w' := by
  obtain ⟨k, hk⟩ : ∃ k, s.size = k := ⟨_, rfl⟩
  have hk1 : k ≤ 1073741824 := by omega
  have HK := hid hk
  have HT := hid (fun D dc W (hW : Below w.heap.size w W) (hD : Byt W W.heap.size D (keyData s.data.toList z)) => refTag_any A D key (keyData s.data.toList z) n c (k + 9) dc hn hL (by rw [keyData_length, size_list, hk]) (by omega) W ((hb.below hW).more hW.size) hD)
  clear hk hn hb hs
  go_enter Tryd.func29, Tryd.ntmps29
  go_wp2_with (at_builtin; first
    | (refine wpList_appS rfl (.tmp 9) (.tmp 10) rfl w.heap.size (.slice none 0 0) 0 [] (OwnB.nil _ _) rfl s rfl (by rw [HK.out]; omega) (Nat.le_refl _) w (Below.refl _ _) k (by rw [HK.out]; omega) ?_; intro A1 c1 w1 o1 _ b1)
    | (refine wpList_appB rfl (.tmp 12) (.tmp 13) rfl w.heap.size (.slice A1 k c1) k _ (OwnB.alloc o1 _) rfl (some ⟨w1.heap.size, 0, none⟩) 1 1 [0] rfl rfl (reads_one w1 0 _ _) (by omega) (le_alloc b1.size _) w (b1.alloc b1.size _) (k + 1) rfl ?_; intro A2 c2 w2 o2 _ b2; clear o1 b1))
  refine wp_loop_rounds 9 ?_
  rw [rounds_succ]
  go_wp2_with (at_builtin; (refine wpList_appB rfl (.tmp 19) (.tmp 25) rfl w.heap.size (.slice A2 (k + 1) c2) (k + 1) _ (OwnB.alloc o2 _) rfl (some ⟨w2.heap.size, 0, none⟩) 1 1 [UInt8.ofNat (two64 z / 2 ^ 56)] rfl rfl (reads_byte' w2 (z / 72057594037927936 % 256) _ (two64_byte z 56 72057594037927936 (by decide) (by omega)) _ _) (by omega) (le_alloc b2.size _) w (b2.alloc b2.size _) (k + 2) rfl ?_; intro Ab0 cb0 wb0 ob0 _ bb0; clear o2 b2))
  rw [rounds_succ]
  go_wp2_with (at_builtin; (refine wpList_appB rfl (.tmp 19) (.tmp 25) rfl w.heap.size (.slice Ab0 (k + 2) cb0) (k + 2) _ (OwnB.alloc ob0 _) rfl (some ⟨wb0.heap.size, 0, none⟩) 1 1 [UInt8.ofNat (two64 z / 2 ^ 48)] rfl rfl (reads_byte' wb0 (z / 281474976710656 % 256) _ (two64_byte z 48 281474976710656 (by decide) (by omega)) _ _) (by omega) (le_alloc bb0.size _) w (bb0.alloc bb0.size _) (k + 3) rfl ?_; intro Ab1 cb1 wb1 ob1 _ bb1; clear ob0 bb0))
  rw [rounds_succ]
  go_wp2_with (at_builtin; (refine wpList_appB rfl (.tmp 19) (.tmp 25) rfl w.heap.size (.slice Ab1 (k + 3) cb1) (k + 3) _ (OwnB.alloc ob1 _) rfl (some ⟨wb1.heap.size, 0, none⟩) 1 1 [UInt8.ofNat (two64 z / 2 ^ 40)] rfl rfl (reads_byte' wb1 (z / 1099511627776 % 256) _ (two64_byte z 40 1099511627776 (by decide) (by omega)) _ _) (by omega) (le_alloc bb1.size _) w (bb1.alloc bb1.size _) (k + 4) rfl ?_; intro Ab2 cb2 wb2 ob2 _ bb2; clear ob1 bb1))
  rw [rounds_succ]
  go_wp2_with (at_builtin; (refine wpList_appB rfl (.tmp 19) (.tmp 25) rfl w.heap.size (.slice Ab2 (k + 4) cb2) (k + 4) _ (OwnB.alloc ob2 _) rfl (some ⟨wb2.heap.size, 0, none⟩) 1 1 [UInt8.ofNat (two64 z / 2 ^ 32)] rfl rfl (reads_byte' wb2 (z / 4294967296 % 256) _ (two64_byte z 32 4294967296 (by decide) (by omega)) _ _) (by omega) (le_alloc bb2.size _) w (bb2.alloc bb2.size _) (k + 5) rfl ?_; intro Ab3 cb3 wb3 ob3 _ bb3; clear ob2 bb2))
  rw [rounds_succ]
  go_wp2_with (at_builtin; (refine wpList_appB rfl (.tmp 19) (.tmp 25) rfl w.heap.size (.slice Ab3 (k + 5) cb3) (k + 5) _ (OwnB.alloc ob3 _) rfl (some ⟨wb3.heap.size, 0, none⟩) 1 1 [UInt8.ofNat (two64 z / 2 ^ 24)] rfl rfl (reads_byte' wb3 (z / 16777216 % 256) _ (two64_byte z 24 16777216 (by decide) (by omega)) _ _) (by omega) (le_alloc bb3.size _) w (bb3.alloc bb3.size _) (k + 6) rfl ?_; intro Ab4 cb4 wb4 ob4 _ bb4; clear ob3 bb3))
  rw [rounds_succ]
  go_wp2_with (at_builtin; (refine wpList_appB rfl (.tmp 19) (.tmp 25) rfl w.heap.size (.slice Ab4 (k + 6) cb4) (k + 6) _ (OwnB.alloc ob4 _) rfl (some ⟨wb4.heap.size, 0, none⟩) 1 1 [UInt8.ofNat (two64 z / 2 ^ 16)] rfl rfl (reads_byte' wb4 (z / 65536 % 256) _ (two64_byte z 16 65536 (by decide) (by omega)) _ _) (by omega) (le_alloc bb4.size _) w (bb4.alloc bb4.size _) (k + 7) rfl ?_; intro Ab5 cb5 wb5 ob5 _ bb5; clear ob4 bb4))
  rw [rounds_succ]
  go_wp2_with (at_builtin; (refine wpList_appB rfl (.tmp 19) (.tmp 25) rfl w.heap.size (.slice Ab5 (k + 7) cb5) (k + 7) _ (OwnB.alloc ob5 _) rfl (some ⟨wb5.heap.size, 0, none⟩) 1 1 [UInt8.ofNat (two64 z / 2 ^ 8)] rfl rfl (reads_byte' wb5 (z / 256 % 256) _ (two64_byte z 8 256 (by decide) (by omega)) _ _) (by omega) (le_alloc bb5.size _) w (bb5.alloc bb5.size _) (k + 8) rfl ?_; intro Ab6 cb6 wb6 ob6 _ bb6; clear ob5 bb5))
  rw [rounds_succ]
  go_wp2_with (at_builtin; (refine wpList_appB rfl (.tmp 19) (.tmp 25) rfl w.heap.size (.slice Ab6 (k + 8) cb6) (k + 8) _ (OwnB.alloc ob6 _) rfl (some ⟨wb6.heap.size, 0, none⟩) 1 1 [UInt8.ofNat (two64 z / 2 ^ 0)] rfl rfl (reads_byte' wb6 (z % 256) _ (by have h := two64_byte z 0 1 (by decide) (by omega); simpa using h) _ _) (by omega) (le_alloc bb6.size _) w (bb6.alloc bb6.size _) (k + 9) rfl ?_; intro Ab7 cb7 wb7 ob7 _ bb7; clear ob6 bb6))
  rw [rounds_succ]
  have hdat : Byt wb7 wb7.heap.size Ab7 (keyData s.data.toList z) := by
    have h := ob7.byt
    simpa [keyData, be8] using h
  clear ob7
  go_wp2_with fail
  refine (HT.out Ab7 cb7 wb7 bb7 hdat).mono ?_
  rintro er w9 ⟨A9, c9, rfl, h1, h2, o9, b9⟩
  have b09 := bb7.trans (b9.mono bb7.size)
  have o10 := hid (OwnB.mono o9 bb7.size)
  clear o9 b9 hdat
  go_wp2
  go_ret
  exact ⟨A9, c9, rfl, h1, h2, o10.out, b09⟩

theorem zb9 (w : World) : (Instr.makeSlice 22 (.int .i64 9) (.int .i64 9)).run Tryd.prog w = .ok (.slice (some ⟨w.heap.size, 0, none⟩) 9 9) (w.alloc (.cells (zb 9) 5)) := by kernel_rfl
def tailOf (U j : Nat) : List UInt8 := List.replicate (9 - j) 0 ++ last U j
theorem tailOf_set (U j : Nat) (hj : j < 8) : (tailOf U j).set (8 - j) (UInt8.ofNat (U / 2 ^ (8 * j))) = tailOf U (j + 1) := by
  unfold tailOf
  rw [last_succ _ _ hj, show 9 - j = (8 - j) + 1 by omega, List.replicate_succ', List.append_assoc, List.set_append_right _ _ (by simp), List.length_replicate, Nat.sub_self, show 9 - (j + 1) = 8 - j by omega]
  rfl
theorem tailOf_length (U j : Nat) (hj : j ≤ 8) : (tailOf U j).length = 9 := by
  unfold tailOf; rw [List.length_append, last_length _ _ hj, List.length_replicate]; omega
theorem tailOf_done (U : Nat) : tailOf U 8 = 0 :: be8 U := by simp [tailOf, last, be8]
theorem u64_of (z : Int) : IntKind.u64.wrap z = (two64 z : Int) := by
  unfold two64
  simp only [IntKind.wrap, IntKind.bits, IntKind.signed]
  simp
  omega
theorem byteU (U j : Nat) : ((U : Int) / 2 ^ (8 * j)) % 256 = ((UInt8.ofNat (U / 2 ^ (8 * j))).toNat : Int) := by
  rw [UInt8.toNat_ofNat']
  simp
theorem two64_lt (z : Int) : two64 z < 18446744073709551616 := by unfold two64; omega
theorem two_rows (w : World) (A B : Option Addr) (n m c d : Nat) (l k : List UInt8) (hl : l.length = n) (hk : k.length = m) (hc : n ≤ c) (hd : m ≤ d) (hcm : c ≤ 9223372036854775807) (hdm : d ≤ 9223372036854775807) (ha : Byt w w.heap.size A l) (hb : Byt w w.heap.size B k) (t : TypeId) (fr : Nat × Nat) :
    RowsAt (w.alloc (.cells #[.slice A n c, .slice B m d] t fr)) (w.alloc (.cells #[.slice A n c, .slice B m d] t fr)).heap.size (some ⟨w.heap.size, 0, none⟩) [(A, c, l), (B, d, k)] := fun _ => by
  subst hl hk
  refine ⟨_, rfl, by rw [World.size_alloc]; exact Nat.lt_succ_self _, fun j p hp => ?_⟩
  have hbel : Below w.heap.size w (w.alloc (.cells #[.slice A l.length c, .slice B k.length d] t fr)) := (Below.refl _ _).alloc (Nat.le_refl _) _
  have hj : j < 2 := (List.getElem?_eq_some_iff.1 hp).1
  have hcase : j = 0 ∨ j = 1 := by omega
  rcases hcase with rfl | rfl
  · simp at hp
    subst hp
    refine ⟨?_, hc, hcm, (ha.below hbel).more hbel.size⟩
    rw [add_zero]
    exact cell_of_row _ w.heap.size 0 _ t fr (heap_alloc_new w _)
  · simp at hp
    subst hp
    refine ⟨?_, hd, hdm, (hb.below hbel).more hbel.size⟩
    rw [add_pos _ _ (by omega)]
    exact cell_of_row _ w.heap.size 1 _ t fr (heap_alloc_new w _)

set_option maxHeartbeats 2000000 in
theorem key_any (A : Option Addr) (key : List UInt8) (s : ByteArray) (z : Int) (n c : Nat) (hn : key.length = n) (hc : n ≤ c) (hcm : c ≤ 9223372036854775807) (hL : n ≤ 1099511627776) (hs : s.size ≤ 1073741824)
    (w : World) (hT : Tab w) (hb : Byt w w.heap.size A key) :
    Calls Tryd.prog 28 #[.slice A n c, .string s, .int .i64 z] w fun e w' => ∃ A' c', e = .returned (.slice A' 32 c') ∧ 32 ≤ c' ∧ c' ≤ 9223372036854775807 ∧ OwnB w' w.heap.size (.slice A' 32 c') 32 (hmac key (keyData s.data.toList z)) ∧ Below w.heap.size w w' := by
  have m9 := zb9
  obtain ⟨U, hU⟩ : ∃ U, U = two64 z := ⟨_, rfl⟩
  have hUw : IntKind.u64.wrap z = (U : Int) := by rw [hU]; exact u64_of z
  have hUl := two64_lt z
  rw [← hU] at hUl
  obtain ⟨k, hk⟩ : ∃ k, s.size = k := ⟨_, rfl⟩
  have hk1 : k ≤ 1073741824 := by omega
  have HK := hid hk
  have HKD : Hid (keyData s.data.toList z = s.data.toList ++ (0 :: be8 U)) := hid (by unfold keyData; rw [hU])
  have HT := hid (fun R ps W (hW : Below w.heap.size w W) (hps : ps.length = 2) (hfl : flat ps = keyData s.data.toList z) (hR : RowsAt W W.heap.size R ps) => hfl ▸ tag_any A R key ps n c 2 2 hn hc hcm hL hps (by omega) (by rw [hfl, keyData_length, size_list, hk]; omega) W (hT.below hT.pos hW) ((hb.below hW).more hW.size) hR)
  have b1 : Below w.heap.size w (w.alloc (.cells (zb 9) 5)) := (Below.refl _ _).alloc (Nat.le_refl _) _
  have hzz : Hid ((w.alloc (.cells (zb 9) 5)).heap[w.heap.size]? = some (.cells (bv (tailOf U 0)).toArray 5 (0, 0))) := hid (by
    have h := zb_block w 9 5
    simpa [tailOf, last, be8] using h)
  clear hk hn hb hT hU hs
  go_enter Tryd.func28, Tryd.ntmps28
  go_wp2
  go_loopw [10] (fun i wr => ∃ j : Nat, j ≤ 8 ∧ i = .int .i64 j ∧ Hid (wr.heap[w.heap.size]? = some (.cells (bv (tailOf U j)).toArray 5 (0, 0))) ∧ Below w.heap.size w wr) (fun i _ => 8 - (intOf i).toNat)
  case atStart => exact ⟨0, by omega, rfl, hzz, b1⟩
  case round =>
    clear hzz b1
    obtain ⟨j, hj, rfl, hzz, b1⟩ := hrel
    by_cases hlt : j < 8
    · have fz := frozen_of_row wr w.heap.size (8 - j) _ _ hzz.out
      obtain ⟨cv, hcv⟩ := row_cell (j := 8 - j) hzz.out (by rw [bv_length, tailOf_length _ _ hj]; omega)
      have hk0 : (0 : Int) ≤ (j : Int) := Int.natCast_nonneg _
      have hk1 : (j : Int) < 8 := by omega
      go_wp2
      rw [byteU]
      have hw3 : Hid ((wr.setCell ⟨w.heap.size, 8 - j, none⟩ (.int .u8 (UInt8.ofNat (U / 2 ^ (8 * j))).toNat)).heap[w.heap.size]? = some (.cells (bv (tailOf U (j + 1))).toArray 5 (0, 0))) := by
        have := heap_setCell_same wr w.heap.size (8 - j) _ _ (.int .u8 (UInt8.ofNat (U / 2 ^ (8 * j))).toNat) hzz.out
        rw [List.setIfInBounds_toArray, bv_set, tailOf_set U j hlt] at this
        exact hid this
      go_roundw
      case rel => exact ⟨j + 1, by omega, by go_num, hw3, b1.setCell (Nat.le_refl _) _⟩
      case measure => simp [intOf]; omega
    · obtain rfl : j = 8 := by omega
      rw [tailOf_done] at hzz
      have ho : OwnB wr w.heap.size (.slice (some ⟨w.heap.size, 0, none⟩) 9 9) 9 (0 :: be8 U) := own_of_block hzz.out (Nat.le_refl _) (by simp [bv, be8]) (by unfold maxLen; omega)
      have yo := ho.byt
      have hbs := b1.size
      clear ho hzz
      go_wp2_with (refine wpList_conv rfl (.tmp 25) rfl s rfl (by rw [HK.out]; omega) ?_
                   intro cc wc hc1 hc2 _ yc bc
                   have bwc := b1.trans (bc.mono b1.size)
                   have yoc := (yo.below bc).more bc.size
                   have hrows := hid (two_rows wc (some ⟨wr.heap.size, 0, none⟩) (some ⟨w.heap.size, 0, none⟩) k 9 cc 9 s.data.toList (0 :: be8 U) (by rw [size_list, HK.out]) rfl (by rw [← HK.out]; exact hc1) (Nat.le_refl _) hc2 (by omega) yc yoc 22 (0, 0))
                   have bwa : Below w.heap.size w (wc.alloc (.cells #[.slice (some ⟨wr.heap.size, 0, none⟩) k cc, .slice (some ⟨w.heap.size, 0, none⟩) 9 9] 22)) := bwc.alloc bwc.size _
                   rw [HK.out]
                   clear yo yoc yc bc b1 hbs)
      refine (HT.out _ _ _ bwa rfl (by rw [HKD.out]; simp [flat]) hrows.out).mono ?_
      rintro er w9 ⟨A9, c9, rfl, h1, h2, o9, b9⟩
      have b09 := bwa.trans (b9.mono bwa.size)
      have o10 := hid (OwnB.mono o9 bwa.size)
      clear o9 b9 hrows bwa
      go_wp2
      go_ret
      exact ⟨A9, c9, rfl, h1, h2, o10.out, b09⟩
end Go.Proofs.YtdmglanepjhdoaaDoor.Sh
