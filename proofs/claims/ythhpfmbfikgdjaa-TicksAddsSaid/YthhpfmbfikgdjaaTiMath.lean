/-
  Ticks, pure: a number as a tick, how a clock goes on, how long the slowest one takes.
-/
import Derived.Test.YthhpfmbfikgdjaaBaMem
import Derived.WalkLawsBesides
namespace Go.Proofs.Ythhpfmbfikgdjaa.Sh
open Go Go.RowKit

def tk (n : Int) : Int := if n < 0 then 0 else if n > 1099511627776 then 1099511627776 else n
theorem tk_b (n : Int) : 0 ≤ tk n ∧ tk n ≤ 1099511627776 := by unfold tk; split <;> (try split) <;> omega
theorem tk_id {n : Int} (h0 : 0 ≤ n) (h1 : n ≤ 1099511627776) : tk n = n := by unfold tk; split <;> (try split) <;> omega
theorem tk_mono {a b : Int} (h : a ≤ b) : tk a ≤ tk b := by unfold tk; repeat' split <;> omega
def addT (a b : Int) : Int := tk (tk a + tk b)
theorem addT_b (a b : Int) : 0 ≤ addT a b ∧ addT a b ≤ 1099511627776 := tk_b _
theorem addT_comm (a b : Int) : addT a b = addT b a := by unfold addT; rw [Int.add_comm]
def cl (n a b : Int) : Int := if n < a then a else if n > b then b else n
theorem tk_cl (n : Int) : tk n = cl n 0 1099511627776 := rfl
theorem cl_b {a b : Int} (h : a ≤ b) (n : Int) : a ≤ cl n a b ∧ cl n a b ≤ b := by unfold cl; split <;> (try split) <;> omega
def goesT (n s : Int) : Int := cl n 0 64 + cl s (-(cl n 0 64 / 8)) (cl n 0 64 / 8)
def boundT (n : Int) : Int := (tk n * 8 + 6) / 7
theorem boundT_b (n : Int) : 0 ≤ boundT n ∧ boundT n ≤ 1256584717460 := by have := tk_b n; unfold boundT; omega
/-- Each part is at least seven eighths. -/
theorem goesT_low (n s : Int) : 7 * cl n 0 64 ≤ 8 * goesT n s ∧ goesT n s ≤ 72 ∧ 0 ≤ goesT n s := by
  have h := cl_b (a := 0) (b := 64) (by omega) n
  unfold goesT
  generalize cl n 0 64 = m at h ⊢
  have h2 := cl_b (a := -(m / 8)) (b := m / 8) (by omega) s
  omega
def leastT (l : List Int) : Int := l.foldl (fun o x => min o (tk x)) 1099511627776
end Go.Proofs.Ythhpfmbfikgdjaa.Sh
