/-
  SHA-256 as plain functions on lists of bytes and on 32-bit words, typed from the document (chapter 1). Imports nothing of the program.
-/
import Derived.Test.YtdmglanepjhdoaaDoorRows
namespace Go.Proofs.YtdmglanepjhdoaaDoor.Sh

def kWords : List UInt32 := [1116352408, 1899447441, 3049323471, 3921009573, 961987163, 1508970993, 2453635748, 2870763221, 3624381080, 310598401, 607225278, 1426881987, 1925078388, 2162078206, 2614888103, 3248222580, 3835390401, 4022224774, 264347078, 604807628, 770255983, 1249150122, 1555081692, 1996064986, 2554220882, 2821834349, 2952996808, 3210313671, 3336571891, 3584528711, 113926993, 338241895, 666307205, 773529912, 1294757372, 1396182291, 1695183700, 1986661051, 2177026350, 2456956037, 2730485921, 2820302411, 3259730800, 3345764771, 3516065817, 3600352804, 4094571909, 275423344, 430227734, 506948616, 659060556, 883997877, 958139571, 1322822218, 1537002063, 1747873779, 1955562222, 2024104815, 2227730452, 2361852424, 2428436474, 2756734187, 3204031479, 3329325298]
def rotr (x : UInt32) (n : Nat) : UInt32 := (x >>> UInt32.ofNat n) ||| (x <<< UInt32.ofNat (32 - n))
def choice (e f g : UInt32) : UInt32 := (e &&& f) ^^^ (~~~e &&& g)
def major (a b c : UInt32) : UInt32 := (a &&& b) ^^^ (a &&& c) ^^^ (b &&& c)
def bigA (a : UInt32) : UInt32 := rotr a 2 ^^^ rotr a 13 ^^^ rotr a 22
def bigE (e : UInt32) : UInt32 := rotr e 6 ^^^ rotr e 11 ^^^ rotr e 25
def sig0 (x : UInt32) : UInt32 := rotr x 7 ^^^ rotr x 18 ^^^ (x >>> 3)
def sig1 (x : UInt32) : UInt32 := rotr x 17 ^^^ rotr x 19 ^^^ (x >>> 10)

structure St where
  a : UInt32
  b : UInt32
  c : UInt32
  d : UInt32
  e : UInt32
  f : UInt32
  g : UInt32
  h : UInt32

def St.list (s : St) : List UInt32 := [s.a, s.b, s.c, s.d, s.e, s.f, s.g, s.h]
def xOf (s : St) (k w : UInt32) : UInt32 := s.h + bigE s.e + choice s.e s.f s.g + k + w
def yOf (s : St) : UInt32 := bigA s.a + major s.a s.b s.c
def step (s : St) (k w : UInt32) : St := ⟨xOf s k w + yOf s, s.a, s.b, s.c, s.d + xOf s k w, s.e, s.f, s.g⟩
def rounds (s : St) (w : List UInt32) : Nat → St
  | 0 => s
  | n + 1 => step (rounds s w n) (kWords.getD n 0) (w.getD n 0)

/-- The word of four bytes, the most significant first. -/
def word4 (a b c d : UInt8) : UInt32 := a.toUInt32 <<< 24 ||| b.toUInt32 <<< 16 ||| c.toUInt32 <<< 8 ||| d.toUInt32
def first16 (blk : List UInt8) : Nat → List UInt32
  | 0 => []
  | n + 1 => first16 blk n ++ [word4 (blk.getD (4 * n) 0) (blk.getD (4 * n + 1) 0) (blk.getD (4 * n + 2) 0) (blk.getD (4 * n + 3) 0)]
def next (w : List UInt32) (t : Nat) : UInt32 := w.getD (t - 16) 0 + sig0 (w.getD (t - 15) 0) + w.getD (t - 7) 0 + sig1 (w.getD (t - 2) 0)
def more (blk : List UInt8) : Nat → List UInt32
  | 0 => first16 blk 16
  | n + 1 => more blk n ++ [next (more blk n) (16 + n)]
def sched (blk : List UInt8) : List UInt32 := more blk 48

def addSt (s t : St) : St := ⟨s.a + t.a, s.b + t.b, s.c + t.c, s.d + t.d, s.e + t.e, s.f + t.f, s.g + t.g, s.h + t.h⟩
def compress (s : St) (blk : List UInt8) : St := addSt s (rounds s (sched blk) 64)
/-- The state behind the first n blocks of l. -/
def absorb (s : St) (l : List UInt8) : Nat → St
  | 0 => s
  | n + 1 => compress (absorb s l n) ((l.drop (64 * n)).take 64)
def init : St := ⟨1779033703, 3144134277, 1013904242, 2773480762, 1359893119, 2600822924, 528734635, 1541459225⟩
def zerosFor (n : Nat) : Nat := (119 - n % 64) % 64
def be8 (n : Nat) : List UInt8 := [UInt8.ofNat (n / 2 ^ 56), UInt8.ofNat (n / 2 ^ 48), UInt8.ofNat (n / 2 ^ 40), UInt8.ofNat (n / 2 ^ 32), UInt8.ofNat (n / 2 ^ 24), UInt8.ofNat (n / 2 ^ 16), UInt8.ofNat (n / 2 ^ 8), UInt8.ofNat n]
def pad (l : List UInt8) : List UInt8 := l ++ 128 :: (List.replicate (zerosFor l.length) 0 ++ be8 (8 * l.length))
def bytes4 (x : UInt32) : List UInt8 := [(x >>> 24).toUInt8, (x >>> 16).toUInt8, (x >>> 8).toUInt8, x.toUInt8]
def digest (s : St) : List UInt8 := s.list.flatMap bytes4
def sha (l : List UInt8) : List UInt8 := digest (absorb init (pad l) ((pad l).length / 64))

def hexDigit (n : Nat) : UInt8 := if n < 10 then UInt8.ofNat (48 + n) else UInt8.ofNat (87 + n)
def hexOf (l : List UInt8) : List UInt8 := l.flatMap fun x => [hexDigit (x.toNat / 16), hexDigit (x.toNat % 16)]

end Go.Proofs.YtdmglanepjhdoaaDoor.Sh
