/-
  The document's example of layer 2 holds: lives, by contract.
-/
import Derived.Test.YtdmglanepjhdoaaDoorMcKeys
import Derived.Test.YtdmglanepjhdoaaDoorMcRight
import Derived.Test.YtdmglanepjhdoaaDoorShLives
namespace Go.Proofs.YtdmglanepjhdoaaDoor.Sh
open Go Go.RowKit

def kJefe : List UInt8 := [74, 101, 102, 101]
def kWhat : List UInt8 := [119, 104, 97, 116, 32, 100, 111, 32, 121, 97, 32, 119, 97, 110, 116, 32]
def kFor : List UInt8 := [102, 111, 114, 32, 110, 111, 116, 104, 105, 110, 103, 63]
set_option maxRecDepth 100000 in
theorem hexes_jefe : hexOf (hmac kJefe (kWhat ++ kFor)) = [53, 98, 100, 99, 99, 49, 52, 54, 98, 102, 54, 48, 55, 53, 52, 101, 54, 97, 48, 52, 50, 52, 50, 54, 48, 56, 57, 53, 55, 53, 99, 55, 53, 97, 48, 48, 51, 102, 48, 56, 57, 100, 50, 55, 51, 57, 56, 51, 57, 100, 101, 99, 53, 56, 98, 57, 54, 52, 101, 99, 51, 56, 52, 51] := by decide +kernel
theorem bytL (w : World) (l : List UInt8) (cs : Array Value) (h : cs = (bv l).toArray) (t : TypeId) (fr : Nat × Nat) : Byt (w.alloc (.cells cs t fr)) (w.alloc (.cells cs t fr)).heap.size (some ⟨w.heap.size, 0, none⟩) l := by
  subst h
  exact byt_lit w l t fr
theorem kc1 (w : World) (C : Array Value) (n c : Nat) : (convert 22 22 (.slice (some ⟨w.heap.size, 0, none⟩) n c)).run Tryd.prog (w.alloc (.cells C 5)) = .ok (.slice (some ⟨w.heap.size, 0, none⟩) n c) (w.alloc (.cells C 5 (C.size, C.size + 1))) :=
  Lib.run_convert_bytes_const (P := Tryd.prog) w 22 5 C n c Tryd.underlying22 Tryd.underlying5
theorem kc2 (w : World) (o : Obj) (C : Array Value) (n c : Nat) : (convert 22 22 (.slice (some ⟨w.heap.size + 1, 0, none⟩) n c)).run Tryd.prog ((w.alloc o).alloc (.cells C 5)) = .ok (.slice (some ⟨w.heap.size + 1, 0, none⟩) n c) ((w.alloc o).alloc (.cells C 5 (C.size, C.size + 1))) := by
  have h := kc1 (w.alloc o) C n c
  rw [World.size_alloc] at h
  exact h
theorem kc3 (w : World) (o o' : Obj) (C : Array Value) (n c : Nat) : (convert 22 22 (.slice (some ⟨w.heap.size + 1 + 1, 0, none⟩) n c)).run Tryd.prog (((w.alloc o).alloc o').alloc (.cells C 5)) = .ok (.slice (some ⟨w.heap.size + 1 + 1, 0, none⟩) n c) (((w.alloc o).alloc o').alloc (.cells C 5 (C.size, C.size + 1))) := by
  have h := kc2 (w.alloc o) o' C n c
  rw [World.size_alloc] at h
  exact h
attribute [local irreducible] sha hexOf absorb sched rounds keyPad hmac

/-- The call of Tag, in the world as the walk has it. -/
theorem tag_lives (w : World) (hT : Tab w) :
    Calls Tryd.prog 23 #[.slice (some ⟨w.heap.size, 0, none⟩) 4 4, .slice (some ⟨w.heap.size + 1 + 1 + 1, 0, none⟩) 2 2]
      ((((w.alloc (.cells #[.int .u8 74, .int .u8 101, .int .u8 102, .int .u8 101] 5 (4, 5))).alloc (.cells #[.int .u8 119, .int .u8 104, .int .u8 97, .int .u8 116, .int .u8 32, .int .u8 100, .int .u8 111, .int .u8 32, .int .u8 121, .int .u8 97, .int .u8 32, .int .u8 119, .int .u8 97, .int .u8 110, .int .u8 116, .int .u8 32] 5 (16, 17))).alloc (.cells #[.int .u8 102, .int .u8 111, .int .u8 114, .int .u8 32, .int .u8 110, .int .u8 111, .int .u8 116, .int .u8 104, .int .u8 105, .int .u8 110, .int .u8 103, .int .u8 63] 5 (12, 13))).alloc (.cells #[.slice (some ⟨w.heap.size + 1, 0, none⟩) 16 16, .slice (some ⟨w.heap.size + 1 + 1, 0, none⟩) 12 12] 22))
      fun e w' => ∃ A' c', e = .returned (.slice A' 32 c') ∧ OwnB w' w.heap.size (.slice A' 32 c') 32 (hmac kJefe (kWhat ++ kFor)) ∧ Below w.heap.size w w' := by
  have b1 : Below w.heap.size w (w.alloc (.cells #[.int .u8 74, .int .u8 101, .int .u8 102, .int .u8 101] 5 (4, 5))) := (Below.refl _ _).alloc (Nat.le_refl _) _
  have y1 := bytL w kJefe #[.int .u8 74, .int .u8 101, .int .u8 102, .int .u8 101] rfl 5 (4, 5)
  have z1 : (w.alloc (.cells #[.int .u8 74, .int .u8 101, .int .u8 102, .int .u8 101] 5 (4, 5))).heap.size = w.heap.size + 1 := World.size_alloc _ _
  generalize (w.alloc (.cells #[.int .u8 74, .int .u8 101, .int .u8 102, .int .u8 101] 5 (4, 5))) = w1 at *
  have b2 : Below w1.heap.size w1 (w1.alloc (.cells #[.int .u8 119, .int .u8 104, .int .u8 97, .int .u8 116, .int .u8 32, .int .u8 100, .int .u8 111, .int .u8 32, .int .u8 121, .int .u8 97, .int .u8 32, .int .u8 119, .int .u8 97, .int .u8 110, .int .u8 116, .int .u8 32] 5 (16, 17))) := (Below.refl _ _).alloc (Nat.le_refl _) _
  have y2 := bytL w1 kWhat #[.int .u8 119, .int .u8 104, .int .u8 97, .int .u8 116, .int .u8 32, .int .u8 100, .int .u8 111, .int .u8 32, .int .u8 121, .int .u8 97, .int .u8 32, .int .u8 119, .int .u8 97, .int .u8 110, .int .u8 116, .int .u8 32] rfl 5 (16, 17)
  have z2 : (w1.alloc (.cells #[.int .u8 119, .int .u8 104, .int .u8 97, .int .u8 116, .int .u8 32, .int .u8 100, .int .u8 111, .int .u8 32, .int .u8 121, .int .u8 97, .int .u8 32, .int .u8 119, .int .u8 97, .int .u8 110, .int .u8 116, .int .u8 32] 5 (16, 17))).heap.size = w1.heap.size + 1 := World.size_alloc _ _
  generalize (w1.alloc (.cells #[.int .u8 119, .int .u8 104, .int .u8 97, .int .u8 116, .int .u8 32, .int .u8 100, .int .u8 111, .int .u8 32, .int .u8 121, .int .u8 97, .int .u8 32, .int .u8 119, .int .u8 97, .int .u8 110, .int .u8 116, .int .u8 32] 5 (16, 17))) = w2 at *
  have b3 : Below w2.heap.size w2 (w2.alloc (.cells #[.int .u8 102, .int .u8 111, .int .u8 114, .int .u8 32, .int .u8 110, .int .u8 111, .int .u8 116, .int .u8 104, .int .u8 105, .int .u8 110, .int .u8 103, .int .u8 63] 5 (12, 13))) := (Below.refl _ _).alloc (Nat.le_refl _) _
  have y3 := bytL w2 kFor #[.int .u8 102, .int .u8 111, .int .u8 114, .int .u8 32, .int .u8 110, .int .u8 111, .int .u8 116, .int .u8 104, .int .u8 105, .int .u8 110, .int .u8 103, .int .u8 63] rfl 5 (12, 13)
  have z3 : (w2.alloc (.cells #[.int .u8 102, .int .u8 111, .int .u8 114, .int .u8 32, .int .u8 110, .int .u8 111, .int .u8 116, .int .u8 104, .int .u8 105, .int .u8 110, .int .u8 103, .int .u8 63] 5 (12, 13))).heap.size = w2.heap.size + 1 := World.size_alloc _ _
  generalize (w2.alloc (.cells #[.int .u8 102, .int .u8 111, .int .u8 114, .int .u8 32, .int .u8 110, .int .u8 111, .int .u8 116, .int .u8 104, .int .u8 105, .int .u8 110, .int .u8 103, .int .u8 63] 5 (12, 13))) = w3 at *
  have y23 := (y2.below b3).more b3.size
  have y13 := ((((y1.below b2).more b2.size).below b3).more b3.size)
  have b03 : Below w.heap.size w w3 := b1.trans ((b2.mono b1.size).trans (b3.mono (Nat.le_trans b1.size b2.size)))
  have e1 : w1.heap.size = w.heap.size + 1 := z1
  have e2 : w2.heap.size = w.heap.size + 1 + 1 := by rw [z2, z1]
  have e3 : w3.heap.size = w.heap.size + 1 + 1 + 1 := by rw [z3, e2]
  rw [e1] at y23
  rw [e2] at y3
  have hrows := two_rows w3 _ _ 16 12 16 12 kWhat kFor rfl rfl (Nat.le_refl _) (Nat.le_refl _) (by omega) (by omega) y23 y3 22 (0, 0)
  have b4 : Below w3.heap.size w3 (w3.alloc (.cells #[.slice (some ⟨w.heap.size + 1, 0, none⟩) 16 16, .slice (some ⟨w.heap.size + 1 + 1, 0, none⟩) 12 12] 22)) := (Below.refl _ _).alloc (Nat.le_refl _) _
  have b04 := b03.trans (b4.mono b03.size)
  rw [e3] at hrows
  refine (tag_any _ _ kJefe _ 4 4 2 2 rfl (Nat.le_refl _) (by omega) (by omega) rfl (by omega) (by simp [flat, kWhat, kFor]) _ (hT.below hT.pos b04) ((y13.below b4).more b4.size) hrows).mono ?_
  rintro e w' ⟨A', c', he, _, _, ho, hb⟩
  exact ⟨A', c', he, ho.mono b04.size, b04.trans (hb.mono b04.size)⟩
theorem right_lives (w : World) (hT : Tab w) (A : Option Addr) (c : Nat) (hA : Byt w w.heap.size A (hmac kJefe (kWhat ++ kFor))) :
    Calls Tryd.prog 27 #[.slice (some ⟨w.heap.size, 0, none⟩) 4 4, .slice A 32 c, .slice (some ⟨w.heap.size + 1 + 1, 0, none⟩) 1 1]
      (((w.alloc (.cells #[.int .u8 74, .int .u8 101, .int .u8 102, .int .u8 101] 5 (4, 5))).alloc (.cells #[.int .u8 119, .int .u8 104, .int .u8 97, .int .u8 116, .int .u8 32, .int .u8 100, .int .u8 111, .int .u8 32, .int .u8 121, .int .u8 97, .int .u8 32, .int .u8 119, .int .u8 97, .int .u8 110, .int .u8 116, .int .u8 32, .int .u8 102, .int .u8 111, .int .u8 114, .int .u8 32, .int .u8 110, .int .u8 111, .int .u8 116, .int .u8 104, .int .u8 105, .int .u8 110, .int .u8 103, .int .u8 63] 5 (28, 29))).alloc (.cells #[.slice (some ⟨w.heap.size + 1, 0, none⟩) 28 28] 22))
      fun e w' => e = .returned (.bool true) ∧ Below w.heap.size w w' := by
  have b1 : Below w.heap.size w (w.alloc (.cells #[.int .u8 74, .int .u8 101, .int .u8 102, .int .u8 101] 5 (4, 5))) := (Below.refl _ _).alloc (Nat.le_refl _) _
  have y1 := bytL w kJefe #[.int .u8 74, .int .u8 101, .int .u8 102, .int .u8 101] rfl 5 (4, 5)
  have z1 : (w.alloc (.cells #[.int .u8 74, .int .u8 101, .int .u8 102, .int .u8 101] 5 (4, 5))).heap.size = w.heap.size + 1 := World.size_alloc _ _
  generalize (w.alloc (.cells #[.int .u8 74, .int .u8 101, .int .u8 102, .int .u8 101] 5 (4, 5))) = w1 at *
  have b2 : Below w1.heap.size w1 (w1.alloc (.cells #[.int .u8 119, .int .u8 104, .int .u8 97, .int .u8 116, .int .u8 32, .int .u8 100, .int .u8 111, .int .u8 32, .int .u8 121, .int .u8 97, .int .u8 32, .int .u8 119, .int .u8 97, .int .u8 110, .int .u8 116, .int .u8 32, .int .u8 102, .int .u8 111, .int .u8 114, .int .u8 32, .int .u8 110, .int .u8 111, .int .u8 116, .int .u8 104, .int .u8 105, .int .u8 110, .int .u8 103, .int .u8 63] 5 (28, 29))) := (Below.refl _ _).alloc (Nat.le_refl _) _
  have y2 := bytL w1 (kWhat ++ kFor) #[.int .u8 119, .int .u8 104, .int .u8 97, .int .u8 116, .int .u8 32, .int .u8 100, .int .u8 111, .int .u8 32, .int .u8 121, .int .u8 97, .int .u8 32, .int .u8 119, .int .u8 97, .int .u8 110, .int .u8 116, .int .u8 32, .int .u8 102, .int .u8 111, .int .u8 114, .int .u8 32, .int .u8 110, .int .u8 111, .int .u8 116, .int .u8 104, .int .u8 105, .int .u8 110, .int .u8 103, .int .u8 63] rfl 5 (28, 29)
  have z2 : (w1.alloc (.cells #[.int .u8 119, .int .u8 104, .int .u8 97, .int .u8 116, .int .u8 32, .int .u8 100, .int .u8 111, .int .u8 32, .int .u8 121, .int .u8 97, .int .u8 32, .int .u8 119, .int .u8 97, .int .u8 110, .int .u8 116, .int .u8 32, .int .u8 102, .int .u8 111, .int .u8 114, .int .u8 32, .int .u8 110, .int .u8 111, .int .u8 116, .int .u8 104, .int .u8 105, .int .u8 110, .int .u8 103, .int .u8 63] 5 (28, 29))).heap.size = w1.heap.size + 1 := World.size_alloc _ _
  generalize (w1.alloc (.cells #[.int .u8 119, .int .u8 104, .int .u8 97, .int .u8 116, .int .u8 32, .int .u8 100, .int .u8 111, .int .u8 32, .int .u8 121, .int .u8 97, .int .u8 32, .int .u8 119, .int .u8 97, .int .u8 110, .int .u8 116, .int .u8 32, .int .u8 102, .int .u8 111, .int .u8 114, .int .u8 32, .int .u8 110, .int .u8 111, .int .u8 116, .int .u8 104, .int .u8 105, .int .u8 110, .int .u8 103, .int .u8 63] 5 (28, 29))) = w2 at *
  have y12 := (y1.below b2).more b2.size
  have b02 : Below w.heap.size w w2 := b1.trans (b2.mono b1.size)
  have e1 : w1.heap.size = w.heap.size + 1 := z1
  have e2 : w2.heap.size = w.heap.size + 1 + 1 := by rw [z2, z1]
  rw [e1] at y2
  have hrows := one_row w2 _ 28 28 (kWhat ++ kFor) rfl (Nat.le_refl _) (by omega) y2 22 (0, 0)
  have b3 : Below w2.heap.size w2 (w2.alloc (.cells #[.slice (some ⟨w.heap.size + 1, 0, none⟩) 28 28] 22)) := (Below.refl _ _).alloc (Nat.le_refl _) _
  have b03 := b02.trans (b3.mono b02.size)
  rw [e2] at hrows
  refine (right_any _ A _ kJefe (hmac kJefe (kWhat ++ kFor)) _ 4 4 32 c 1 1 rfl (Nat.le_refl _) (by omega) (by omega) (hmac_length _ _) (by omega) rfl (by omega) (by simp [flat, kWhat, kFor]) _ (hT.below hT.pos b03) ((y12.below b3).more b3.size) ((hA.below b03).more b03.size) hrows).mono ?_
  rintro e w' ⟨he, hb⟩
  refine ⟨?_, b03.trans (hb.mono b03.size)⟩
  rw [he]
  simp [flat]

set_option maxRecDepth 100000 in
set_option maxHeartbeats 2000000 in
theorem lives2_any (w : World) (hT : Tab w) :
    Calls Tryd.prog 26 #[] w fun e w' => e = .returned (.bool true) ∧ Below w.heap.size w w' := by
  have k1 := kc1
  have k2 := kc2
  have k3 := kc3
  go_enter Tryd.func26, Tryd.ntmps26
  go_wp2_with fail
  refine (tag_lives w hT).mono ?_
  rintro er w1 ⟨A1, c1, rfl, o1, b1⟩
  have hH := hid (refHex_any A1 _ c1 (by rw [hmac_length]; omega) w1 o1.byt)
  rw [hexes_jefe, hmac_length] at hH
  have yy := o1.byt
  clear o1
  go_wp2_with fail
  refine hH.out.mono ?_
  rintro er w2 ⟨rfl, b2⟩
  have b02 := b1.trans (b2.mono b1.size)
  have hR := hid (right_lives w2 (hT.below hT.pos b02) A1 c1 ((yy.below b2).more b2.size))
  clear hH yy b2
  go_wp2_with fail
  refine hR.out.mono ?_
  rintro er w3 ⟨rfl, b3⟩
  have b03 := b02.trans (b3.mono b02.size)
  clear hR
  go_wp2
  go_ret
  exact ⟨rfl, b03⟩
end Go.Proofs.YtdmglanepjhdoaaDoor.Sh
