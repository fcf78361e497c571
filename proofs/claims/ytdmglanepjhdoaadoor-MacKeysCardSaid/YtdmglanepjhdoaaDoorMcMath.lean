/-
  HMAC-SHA256 and derived keys as plain functions on lists of bytes, typed from the document (chapter 2).
-/
import Derived.Test.YtdmglanepjhdoaaDoorShMath
namespace Go.Proofs.YtdmglanepjhdoaaDoor.Sh

def keyPad (key : List UInt8) : List UInt8 := (if 64 < key.length then sha key else key) ++ List.replicate (64 - (if 64 < key.length then sha key else key).length) 0
def xorAll (l : List UInt8) (x : UInt8) : List UInt8 := l.map (· ^^^ x)
def hmac (key data : List UInt8) : List UInt8 := sha (xorAll (keyPad key) 92 ++ sha (xorAll (keyPad key) 54 ++ data))
def two64 (n : Int) : Nat := (n % 18446744073709551616).toNat
def keyData (label : List UInt8) (n : Int) : List UInt8 := label ++ 0 :: be8 (two64 n)

theorem sha_len (l : List UInt8) : (sha l).length = 32 := by simp [sha, digest, St.list, bytes4]
theorem keyPad_length (key : List UInt8) : (keyPad key).length = 64 := by
  unfold keyPad
  split
  · simp [sha_len]
  · simp; omega
theorem xorAll_length (l : List UInt8) (x : UInt8) : (xorAll l x).length = l.length := by simp [xorAll]
theorem hmac_length (key data : List UInt8) : (hmac key data).length = 32 := sha_len _
end Go.Proofs.YtdmglanepjhdoaaDoor.Sh
