/-
  A sum's register, bit by bit: it is linear over XOR, and bits turned within 16 side by side change it. Pure.
-/
import Derived.Test.YtgfnhmnmbmpfdaaBaMem
namespace Go.Proofs.Ytgfnhmnmbmpfdaa.Sh

set_option linter.unusedVariables false
set_option linter.unusedSimpArgs false
abbrev Reg := BitVec 16
/-- A bit is processed. -/
def stepS (r : Reg) (b : Bool) : Reg := (r <<< 1) ^^^ (if (r.msb ^^ b) then 4129#16 else 0#16)
def runS (r : Reg) (bs : List Bool) : Reg := bs.foldl stepS r
theorem runS_nil (r : Reg) : runS r [] = r := rfl
theorem runS_cons (r : Reg) (b : Bool) (bs : List Bool) : runS r (b :: bs) = runS (stepS r b) bs := rfl
theorem runS_append (r : Reg) (al bs : List Bool) : runS r (al ++ bs) = runS (runS r al) bs := by unfold runS; rw [List.foldl_append]
theorem stepS_xor (r s : Reg) (a b : Bool) : stepS (r ^^^ s) (a ^^ b) = stepS r a ^^^ stepS s b := by
  unfold stepS
  rw [BitVec.shiftLeft_xor_distrib, BitVec.msb_xor]
  have h : (if (r.msb ^^ s.msb ^^ (a ^^ b)) then 4129#16 else 0#16) = (if (r.msb ^^ a) then 4129#16 else 0#16) ^^^ (if (s.msb ^^ b) then 4129#16 else 0#16) := by
    cases r.msb <;> cases s.msb <;> cases a <;> cases b <;> decide
  rw [h]
  ac_rfl
theorem runS_xor (r s : Reg) (al bs : List Bool) (h : al.length = bs.length) : runS (r ^^^ s) (List.zipWith (· ^^ ·) al bs) = runS r al ^^^ runS s bs := by
  induction al generalizing r s bs with
  | nil =>
    obtain rfl : bs = [] := List.eq_nil_of_length_eq_zero (by simpa using h.symm)
    rfl
  | cons a t ih =>
    cases bs with
    | nil => simp at h
    | cons b u =>
      rw [List.zipWith_cons_cons, runS_cons, runS_cons, runS_cons, stepS_xor]
      exact ih _ _ _ (by simpa using h)
theorem stepS_bit (r : Reg) (b : Bool) (i : Nat) (h0 : 0 < i) (h : i < 16) (hx : (r.msb ^^ b) = false) : (stepS r b).getLsbD i = r.getLsbD (i - 1) := by
  unfold stepS
  rw [hx]
  simp [BitVec.getLsbD_xor, BitVec.getLsbD_shiftLeft]
  omega
theorem stepS_low (r : Reg) (b : Bool) : (stepS r b).getLsbD 0 = (r.msb ^^ b) := by
  unfold stepS
  rw [BitVec.getLsbD_xor, BitVec.getLsbD_shiftLeft]
  cases (r.msb ^^ b) <;> simp <;> decide
/-- What at most 16 bits must be to leave nothing. -/
theorem runS_zero (bs : List Bool) : ∀ (r : Reg), bs.length ≤ 16 → runS r bs = 0#16 → (∀ j b, bs[j]? = some b → r.getLsbD (15 - j) = b) ∧ ∀ i, i < 16 - bs.length → r.getLsbD i = false := by
  induction bs with
  | nil =>
    intro r _ h
    rw [runS_nil] at h
    subst h
    exact ⟨fun j b hb => by simp at hb, fun i _ => by simp⟩
  | cons b t ih =>
    intro r hl h
    rw [runS_cons] at h
    rw [List.length_cons] at hl ⊢
    obtain ⟨h1, h2⟩ := ih _ (by omega) h
    have hx : (r.msb ^^ b) = false := by rw [← stepS_low]; exact h2 0 (by omega)
    have hb : r.msb = b := by cases hm : r.msb <;> cases b <;> simp_all
    refine ⟨fun j c hj => ?_, fun i hi => ?_⟩
    · cases j with
      | zero =>
        simp at hj
        subst hj
        rw [← hb, BitVec.msb_eq_getLsbD_last]
      | succ j =>
        have hj' : t[j]? = some c := by simpa using hj
        have hjl := (List.getElem?_eq_some_iff.1 hj').1
        have := h1 j c hj'
        rw [stepS_bit r b (15 - j) (by omega) (by omega) hx] at this
        rw [← this]
        congr 1
    · have := h2 (i + 1) (by omega)
      rw [stepS_bit r b (i + 1) (by omega) (by omega) hx] at this
      simpa using this
theorem runS_win {bs : List Bool} (hl : bs.length ≤ 16) : runS 0#16 bs = 0#16 ↔ ∀ b ∈ bs, b = false := by
  constructor
  · intro h b hb
    obtain ⟨j, hj⟩ := List.getElem?_of_mem hb
    have := (runS_zero bs _ hl h).1 j b hj
    simpa using this.symm
  · intro h
    induction bs with
    | nil => rfl
    | cons b t ih =>
      rw [runS_cons, h b (List.mem_cons_self ..)]
      rw [show stepS 0#16 false = 0#16 by decide]
      exact ih (by simp at hl; omega) (fun c hc => h c (List.mem_cons_of_mem _ hc))
theorem stepS_inj {r : Reg} (h : stepS r false = 0#16) : r = 0#16 := by
  have h1 := runS_zero [false] r (by decide) h
  apply BitVec.eq_of_getLsbD_eq
  intro i hi
  rw [BitVec.getLsbD_zero]
  by_cases e : i = 15
  · subst e
    exact h1.1 0 false rfl
  · exact h1.2 i (by simp; omega)
theorem runS_zeros (n : Nat) (r : Reg) : runS r (List.replicate n false) = 0#16 ↔ r = 0#16 := by
  induction n generalizing r with
  | zero => exact Iff.rfl
  | succ n ih =>
    rw [List.replicate_succ, runS_cons, ih]
    exact ⟨stepS_inj, fun h => by rw [h]; decide⟩
/-- Nothing but 16 bits side by side: it leaves nothing only where they are none. -/
theorem runS_burst (m n : Nat) {bs : List Bool} (hl : bs.length ≤ 16) : runS 0#16 (List.replicate m false ++ bs ++ List.replicate n false) = 0#16 ↔ ∀ b ∈ bs, b = false := by
  rw [runS_append, runS_zeros, runS_append, (runS_zeros m 0#16).2 rfl, runS_win hl]

/-! ### the bits of bytes -/
def bitsB (x : UInt8) : List Bool := [x.toNat.testBit 7, x.toNat.testBit 6, x.toNat.testBit 5, x.toNat.testBit 4, x.toNat.testBit 3, x.toNat.testBit 2, x.toNat.testBit 1, x.toNat.testBit 0]
def bitsOf : List UInt8 → List Bool
  | [] => []
  | x :: t => bitsB x ++ bitsOf t
theorem bitsB_length (x : UInt8) : (bitsB x).length = 8 := rfl
theorem bitsOf_length (l : List UInt8) : (bitsOf l).length = 8 * l.length := by
  induction l with
  | nil => rfl
  | cons x t ih => rw [bitsOf, List.length_append, bitsB_length, ih, List.length_cons]; omega
theorem bitsOf_append (a b : List UInt8) : bitsOf (a ++ b) = bitsOf a ++ bitsOf b := by
  induction a with
  | nil => rfl
  | cons x t ih => rw [List.cons_append, bitsOf, bitsOf, ih, List.append_assoc]
theorem bitsB_get (x : UInt8) {s : Nat} (h : s < 8) : (bitsB x)[s]? = some (x.toNat.testBit (7 - s)) := by
  rcases (by omega : s = 0 ∨ s = 1 ∨ s = 2 ∨ s = 3 ∨ s = 4 ∨ s = 5 ∨ s = 6 ∨ s = 7) with rfl | rfl | rfl | rfl | rfl | rfl | rfl | rfl <;> rfl
theorem bitsOf_get {l : List UInt8} {i : Nat} {x : UInt8} (h : l[i]? = some x) {s : Nat} (hs : s < 8) : (bitsOf l)[8 * i + s]? = some (x.toNat.testBit (7 - s)) := by
  induction l generalizing i with
  | nil => simp at h
  | cons y t ih =>
    rw [bitsOf]
    cases i with
    | zero =>
      simp at h
      subst h
      rw [List.getElem?_append_left (by rw [bitsB_length]; omega)]
      simpa using bitsB_get y hs
    | succ i =>
      rw [List.getElem?_append_right (by rw [bitsB_length]; omega), bitsB_length, show 8 * (i + 1) + s - 8 = 8 * i + s by omega]
      exact ih (by simpa using h)
theorem bitsB_xor (x y : UInt8) : bitsB (x ^^^ y) = List.zipWith (· ^^ ·) (bitsB x) (bitsB y) := by
  unfold bitsB
  simp only [UInt8.toNat_xor, Nat.testBit_xor, List.zipWith_cons_cons, List.zipWith_nil_left]
theorem bitsOf_xor (al bs : List UInt8) (h : al.length = bs.length) : bitsOf (List.zipWith (· ^^^ ·) al bs) = List.zipWith (· ^^ ·) (bitsOf al) (bitsOf bs) := by
  induction al generalizing bs with
  | nil =>
    obtain rfl : bs = [] := List.eq_nil_of_length_eq_zero (by simpa using h.symm)
    rfl
  | cons a t ih =>
    cases bs with
    | nil => simp at h
    | cons b u =>
      rw [List.zipWith_cons_cons, bitsOf, bitsOf, bitsOf, bitsB_xor, ih u (by simpa using h)]
      exact (List.zipWith_append (by rw [bitsB_length, bitsB_length])).symm
/-- The register behind bytes. -/
def moreS (r : Reg) (l : List UInt8) : Reg := runS r (bitsOf l)
theorem moreS_append (r : Reg) (a b : List UInt8) : moreS r (a ++ b) = moreS (moreS r a) b := by unfold moreS; rw [bitsOf_append, runS_append]
theorem moreS_xor (r s : Reg) (al bs : List UInt8) (h : al.length = bs.length) : moreS (r ^^^ s) (List.zipWith (· ^^^ ·) al bs) = moreS r al ^^^ moreS s bs := by
  unfold moreS
  rw [bitsOf_xor al bs h]
  exact runS_xor _ _ _ _ (by rw [bitsOf_length, bitsOf_length, h])
end Go.Proofs.Ytgfnhmnmbmpfdaa.Sh
