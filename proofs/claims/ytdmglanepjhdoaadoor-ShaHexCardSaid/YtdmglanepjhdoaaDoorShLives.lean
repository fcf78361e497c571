/-
  The document's examples hold: lives, by contract; what the kernel reckons of three digests.
-/
import Derived.Test.YtdmglanepjhdoaaDoorShSum
import Derived.Lib.SlBytesConst
namespace Go.Proofs.YtdmglanepjhdoaaDoor.Sh
open Go Go.RowKit

set_option maxRecDepth 100000 in
theorem hexes_none : hexOf (sha []) = [101, 51, 98, 48, 99, 52, 52, 50, 57, 56, 102, 99, 49, 99, 49, 52, 57, 97, 102, 98, 102, 52, 99, 56, 57, 57, 54, 102, 98, 57, 50, 52, 50, 55, 97, 101, 52, 49, 101, 52, 54, 52, 57, 98, 57, 51, 52, 99, 97, 52, 57, 53, 57, 57, 49, 98, 55, 56, 53, 50, 98, 56, 53, 53] := by decide +kernel
set_option maxRecDepth 100000 in
theorem hexes_abc : hexOf (sha [97, 98, 99]) = [98, 97, 55, 56, 49, 54, 98, 102, 56, 102, 48, 49, 99, 102, 101, 97, 52, 49, 52, 49, 52, 48, 100, 101, 53, 100, 97, 101, 50, 50, 50, 51, 98, 48, 48, 51, 54, 49, 97, 51, 57, 54, 49, 55, 55, 97, 57, 99, 98, 52, 49, 48, 102, 102, 54, 49, 102, 50, 48, 48, 49, 53, 97, 100] := by decide +kernel
theorem hexes_two : hexOf [0, 171] = [48, 48, 97, 98] := by decide +kernel
theorem sha_length (l : List UInt8) : (sha l).length = 32 := by
  simp [sha, digest, St.list, bytes4]

/-- Sum, and Hex behind it, of a slice that reads. -/
theorem told_hex {e : TypeId} {w0 w1 : World} {v : Value} {l : List UInt8} (h : Told e w0 w1 v l) (hm : l.length ≤ 1099511627776) {text : List UInt8} (ht : hexOf l = text) :
    Calls Tryd.prog 19 #[v] w1 fun e w' => e = .returned (.string ⟨text.toArray⟩) ∧ Below w1.heap.size w1 w' := by
  obtain ⟨A, c, rfl, _, hb⟩ := h.slice
  subst ht
  exact hex_any A l c hm w1 hb

attribute [local irreducible] sha hexOf absorb sched rounds

theorem byt_lit (w : World) (cs : List UInt8) (t : TypeId) (fr : Nat × Nat) : Byt (w.alloc (.cells (bv cs).toArray t fr)) (w.alloc (.cells (bv cs).toArray t fr)).heap.size (some ⟨w.heap.size, 0, none⟩) cs := fun _ =>
  ⟨_, rfl, by simp, fun j x hx => World.news_of_block (cs := (bv cs).toArray) (t := t) (fr := fr) (heap_alloc_new w _) j _ (by simp [bv, hx])⟩

set_option maxHeartbeats 1000000 in
theorem lives_any (w : World) (hT : Tab w) :
    Calls Tryd.prog 18 #[] w fun e w' => e = .returned (.bool true) ∧ Below w.heap.size w w' := by
  have s1 := hid (sum_any none [] 0 (Nat.le_refl _) (by omega) (by simp) w hT Byt.nil)
  go_enter Tryd.func18, Tryd.ntmps18
  go_wp2_with fail
  refine s1.out.mono ?_
  rintro er w1 ⟨v1, rfl, t1⟩
  have hx1 := hid (told_hex t1 (by rw [sha_length]; omega) hexes_none)
  have hb1 := t1.2
  have hT1 := hid (hT.below hT.pos hb1)
  go_wp2_with fail
  refine hx1.out.mono ?_
  rintro er w2 ⟨rfl, hb2⟩
  have hb02 := hb1.trans (hb2.mono hb1.size)
  have hT2 := hid (hT.below hT.pos hb02)
  have kc := fun (w : World) (C : Array Value) (n c : Nat) => Lib.run_convert_bytes_const (P := Tryd.prog) w 22 5 C n c Tryd.underlying22 Tryd.underlying5
  go_wp2_with fail
  have hb03 : Below w.heap.size w (w2.alloc (.cells #[.int .u8 97, .int .u8 98, .int .u8 99] 5 (3, 4))) := hb02.alloc hb02.size _
  have s2 := hid (sum_any (some ⟨w2.heap.size, 0, none⟩) [97, 98, 99] 3 (Nat.le_refl _) (by omega) (by simp) (w2.alloc (.cells #[.int .u8 97, .int .u8 98, .int .u8 99] 5 (3, 4))) (hT.below hT.pos hb03) (byt_lit w2 [97, 98, 99] 5 (3, 4)))
  clear kc
  refine s2.out.mono ?_
  rintro er w4 ⟨v4, rfl, t4⟩
  have hx4 := hid (told_hex t4 (by rw [sha_length]; omega) hexes_abc)
  have hb04 := hb03.trans (t4.2.mono hb03.size)
  go_wp2_with fail
  refine hx4.out.mono ?_
  rintro er w5 ⟨rfl, hb5⟩
  have hb05 := hb04.trans (hb5.mono hb04.size)
  go_wp2_with fail
  have hb06 : Below w.heap.size w (w5.alloc (.cells #[.int .u8 0, .int .u8 171] 5)) := hb05.alloc hb05.size _
  have hx6 := hid (hex_any (some ⟨w5.heap.size, 0, none⟩) [0, 171] 2 (by simp) (w5.alloc (.cells #[.int .u8 0, .int .u8 171] 5)) (byt_lit w5 [0, 171] 5 (0, 0)))
  rw [hexes_two] at hx6
  refine hx6.out.mono ?_
  rintro er w7 ⟨rfl, hb7⟩
  have hb07 := hb06.trans (hb7.mono hb06.size)
  go_wp2
  go_ret
  exact ⟨rfl, hb07⟩
end Go.Proofs.YtdmglanepjhdoaaDoor.Sh
