/-
  A cursor with its bytes: its calls by contract, beside other cursors.
-/
import Derived.Test.YtkaakbgpkpkeeaaWiRCur
import Derived.Test.YtkaakbgpkpkeeaaBaSame
namespace Go.Proofs.Ytkaakbgpkpkeeaa.Sh
open Go Go.RowKit

structure Cu (T : TypeId) (w : World) (lo hi g : Nat) (A : Option Addr) (n c : Nat) (l : List UInt8) (p : Nat) (e : Int) : Prop where
  row : CuRow T w g A n c p e
  byt : Byt w hi A l
  low : ∀ ad, A = some ad → lo ≤ ad.block
  hi : hi ≤ g
  len : l.length = n
  cap : n ≤ c
  max : n ≤ 1099511627776
  place : p ≤ n
theorem Byt.over {w w' : World} {B lo g : Nat} {A : Option Addr} {l : List UInt8} (h : Byt w B A l) (hlo : ∀ ad, A = some ad → lo ≤ ad.block) (hB : B ≤ w.heap.size) (hg : w.grownBy w' (some g)) (h2 : g < lo ∨ B ≤ g) : Byt w' B A l := by
  intro hn
  obtain ⟨ad, e, hb, hc⟩ := h hn
  refine ⟨ad, e, hb, fun j x hx => (hg.cell_far _ (by rw [block_add]; omega) (fun e2 => ?_)).trans (hc j x hx)⟩
  injection e2 with e2
  rw [block_add] at e2
  have := hlo ad e
  omega
section
variable {T : TypeId} {w w' : World} {lo hi g n c p : Nat} {A : Option Addr} {l : List UInt8} {e : Int}
theorem Cu.lt (h : Cu T w lo hi g A n c l p e) : g < w.heap.size := h.row.lt
theorem Cu.below {B : Nat} (h : Cu T w lo hi g A n c l p e) (hb : Below B w w') (hg : g < B) : Cu T w' lo hi g A n c l p e :=
  ⟨h.row.below hb hg, (h.byt.below (hb.mono (by have := h.hi; omega))), h.low, h.hi, h.len, h.cap, h.max, h.place⟩
theorem Cu.other {g' : Nat} (h : Cu T w lo hi g A n c l p e) (hg : w.grownBy w' (some g')) (hne : g' ≠ g) (h2 : g' < lo ∨ hi ≤ g') : Cu T w' lo hi g A n c l p e :=
  ⟨h.row.kept hg (fun e => hne (by injection e)), h.byt.over h.low (by have := h.hi; have := h.lt; omega) hg h2, h.low, h.hi, h.len, h.cap, h.max, h.place⟩
theorem Cu.drewN (h : Cu T w lo hi g A n c l p e) (k : Nat) : Cu T (w.drewN k) lo hi g A n c l p e := ⟨h.row, h.byt, h.low, h.hi, h.len, h.cap, h.max, h.place⟩
theorem Cu.mine {p' : Nat} {e' : Int} (h : Cu T w lo hi g A n c l p e) (hg : w.grownBy w' (some g)) (hr : CuRow T w' g A n c p' e') (hp : p' ≤ n) : Cu T w' lo hi g A n c l p' e' :=
  ⟨hr, h.byt.over h.low (by have := h.hi; have := h.lt; omega) hg (.inr h.hi), h.low, h.hi, h.len, h.cap, h.max, hp⟩
theorem Cu.at (h : Cu T w lo hi g A n c l p e) : Byt w g A l := h.byt.more h.hi
end
theorem numStep_place (l : List UInt8) (p : Nat) (e least most : Int) (hp : p ≤ l.length) : (numStep l p e least most).2.1 ≤ l.length := by
  obtain ⟨V, p', e', h, _, h2, _⟩ := numStep_nat l p e least most hp
  rw [h]; exact h2
theorem textStep_place (l : List UInt8) (p : Nat) (e most : Int) (hp : p ≤ l.length) : (textStep l p e most).2.1 ≤ l.length := by
  unfold textStep
  split
  · exact hp
  · split
    · exact hp
    · split
      · exact hp
      · split
        · exact hp
        · rename_i h _ h4
          obtain ⟨_, h2, _⟩ := look_zero (l := l.drop p) (N := (look (l.drop p)).1) (U := (look (l.drop p)).2.1) (by
            have : (look (l.drop p)).2.2 = 0 := by omega
            rw [← this])
          rw [List.length_drop] at h2
          show p + (look (l.drop p)).2.1 + (look (l.drop p)).1 ≤ l.length
          omega
def StepC (T : TypeId) (w w' : World) (lo hi g : Nat) (A : Option Addr) (n c : Nat) (l : List UInt8) (er : Ending) (v : Value) (p : Nat) (e : Int) : Prop :=
  er = .returned v ∧ Cu T w' lo hi g A n c l p e ∧ w.grownBy w' (some g)
section
variable {w : World} {lo hi g n c p : Nat} {A : Option Addr} {l : List UInt8} {e : Int}
theorem cu_number (h : Cu 54 w lo hi g A n c l p e) (least most : Int) :
    Calls Try.prog 49 #[.pointer (some ⟨g, 0, none⟩), .int .i64 least, .int .i64 most] w fun er w' => StepC 54 w w' lo hi g A n c l er (.int .i64 (numStep l p e least most).1) (numStep l p e least most).2.1 (numStep l p e least most).2.2 :=
  (cnum_any g A l n c p e least most h.len h.cap h.max h.place w h.row h.at).mono fun _ _ ⟨h1, h2, h3⟩ => ⟨h1, h.mine h3 h2 (by rw [← h.len]; exact numStep_place _ _ _ _ _ (by rw [h.len]; exact h.place)), h3⟩
theorem cu_fail (h : Cu 54 w lo hi g A n c l p e) (z : Int) :
    Calls Try.prog 44 #[.pointer (some ⟨g, 0, none⟩), .int .i64 z] w fun er w' => StepC 54 w w' lo hi g A n c l er (.tuple #[]) p (if e = 0 then z else e) :=
  (fail_any g A n c p e z w h.row).mono fun _ _ ⟨h1, h2, h3⟩ => ⟨h1, h.mine h3 h2 h.place, h3⟩
theorem rcu_number (h : Cu 42 w lo hi g A n c l p e) (least most : Int) :
    Calls Try.prog 45 #[.pointer (some ⟨g, 0, none⟩), .int .i64 least, .int .i64 most] w fun er w' => StepC 42 w w' lo hi g A n c l er (.int .i64 (numStep l p e least most).1) (numStep l p e least most).2.1 (numStep l p e least most).2.2 :=
  (refCNum_any g A l n c p e least most h.len h.cap h.max h.place w h.row h.at).mono fun _ _ ⟨h1, h2, h3⟩ => ⟨h1, h.mine h3 h2 (by rw [← h.len]; exact numStep_place _ _ _ _ _ (by rw [h.len]; exact h.place)), h3⟩
theorem rcu_fail (h : Cu 42 w lo hi g A n c l p e) (z : Int) :
    Calls Try.prog 46 #[.pointer (some ⟨g, 0, none⟩), .int .i64 z] w fun er w' => StepC 42 w w' lo hi g A n c l er (.tuple #[]) p (if e = 0 then z else e) :=
  (refFail_any g A n c p e z w h.row).mono fun _ _ ⟨h1, h2, h3⟩ => ⟨h1, h.mine h3 h2 h.place, h3⟩
theorem cu_new (hl : l.length = n) (hL : n ≤ 1099511627776) (w : World) (hb : Byt w w.heap.size A l) :
    Calls Try.prog 28 #[.slice A n c] w fun er w' => ∃ g A' c', er = .returned (.pointer (some ⟨g, 0, none⟩)) ∧ Cu 54 w' w.heap.size g g A' n c' l 0 0 ∧ w.heap.size ≤ g ∧ Below w.heap.size w w' :=
  (new_any A l n c hl hL w hb).mono fun _ _ ⟨g, A', c', h1, h2, h3, _, h5, h6, h7, h8⟩ => ⟨g, A', c', h1, ⟨h2, h5, h7, Nat.le_refl _, hl, h3, hL, Nat.zero_le _⟩, h6, h8⟩
end
end Go.Proofs.Ytkaakbgpkpkeeaa.Sh
