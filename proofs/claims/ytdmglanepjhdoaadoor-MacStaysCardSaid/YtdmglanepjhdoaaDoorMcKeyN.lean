/-
  The eight bytes of a number, in two's complement: plain lemmas.
-/
import Derived.Test.YtdmglanepjhdoaaDoorMcMath
import Derived.Test.YtdmglanepjhdoaaDoorShEnd
namespace Go.Proofs.YtdmglanepjhdoaaDoor.Sh
open Go
theorem two64_byte (z : Int) (k : Nat) (m : Int) (hm : m = 2 ^ k) (hk : k = 56 ∨ k = 48 ∨ k = 40 ∨ k = 32 ∨ k = 24 ∨ k = 16 ∨ k = 8 ∨ k = 0) : z / m % 256 = ((UInt8.ofNat (two64 z / 2 ^ k)).toNat : Int) := by
  subst hm
  rw [UInt8.toNat_ofNat']
  unfold two64
  rcases hk with rfl | rfl | rfl | rfl | rfl | rfl | rfl | rfl <;> omega
end Go.Proofs.YtdmglanepjhdoaaDoor.Sh
