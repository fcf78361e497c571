/-
  The walks of ShaHex and ShaHexApart, out of the contracts.
-/
import Derived.Test.YtdmglanepjhdoaaDoorShLives
namespace Go.Proofs.YtdmglanepjhdoaaDoor.Sh
open Go Go.RowKit

theorem hexDigit_inj (a b : Nat) (ha : a < 16) (hb : b < 16) (h : hexDigit a = hexDigit b) : a = b := by
  have h' := congrArg UInt8.toNat h
  unfold hexDigit at h'
  split at h' <;> split at h' <;> rw [UInt8.toNat_ofNat', UInt8.toNat_ofNat', Nat.mod_eq_of_lt (by omega), Nat.mod_eq_of_lt (by omega)] at h' <;> omega
theorem hexOf_inj : ∀ (xs ys : List UInt8), hexOf xs = hexOf ys → xs = ys
  | [], [], _ => rfl
  | [], y :: ys, h => by simp [hexOf] at h
  | x :: xs, [], h => by simp [hexOf] at h
  | x :: xs, y :: ys, h => by
    have h0 : ∀ (z : UInt8) (zs : List UInt8), hexOf (z :: zs) = hexDigit (z.toNat / 16) :: hexDigit (z.toNat % 16) :: hexOf zs := fun z zs => by simp [hexOf]
    rw [h0, h0] at h
    simp only [List.cons.injEq] at h
    have hx := lt8 x
    have hy := lt8 y
    have e1 := hexDigit_inj _ _ (by omega) (by omega) h.1
    have e2 := hexDigit_inj _ _ (by omega) (by omega) h.2.1
    have e3 : x = y := UInt8.toNat_inj.1 (by omega)
    rw [e3, hexOf_inj xs ys h.2.2]

theorem bne_of {p q : List UInt8} (h : ¬ p = q) : (!(p == q)) = true := by simp [h]
attribute [local irreducible] sha hexOf absorb sched rounds

set_option maxHeartbeats 1000000 in
theorem shaHex_walk (A : Option Addr) (l : List UInt8) (c : Nat) (hc : l.length ≤ c) (hm : c ≤ 9223372036854775807) (w : World) (hT : Tab w) (hb : Byt w w.heap.size A l) :
    Calls Tryd.prog 5 #[.slice A l.length c] w fun e w' => e = .returned (.bool true) ∧ Below w.heap.size w w' := by
  have hf := hid (few_any A l c hc hm w)
  have hl : (l.take 400).length ≤ 400 := List.length_take_le _ _
  have hx := hid (hex_any A (l.take 400) c (by omega) w hb.head)
  have hy := hid (fun w1 (h1 : Below w.heap.size w w1) => refHex_any A (l.take 400) c (by omega) w1 ((hb.head.below h1).more h1.size))
  have hz := hid (fun w1 (h1 : Below w.heap.size w w1) => lives_any w1 (hT.below hT.pos h1))
  obtain ⟨l', hl'⟩ : ∃ l', l' = l.take 400 := ⟨_, rfl⟩
  rw [← hl'] at hf hx hy
  clear hl hb hT hc hl'
  go_enter Tryd.func5, Tryd.ntmps5
  go_wp2_with fail
  refine hf.out.mono ?_
  rintro er wr ⟨rfl, rfl⟩
  go_wp2_with fail
  refine hx.out.mono ?_
  rintro er w1 ⟨rfl, hb1⟩
  go_wp2_with fail
  refine (hy.out w1 hb1).mono ?_
  rintro er w2 ⟨rfl, hb2⟩
  have hb02 := hb1.trans (hb2.mono hb1.size)
  go_wp2_with fail
  refine (hz.out w2 hb02).mono ?_
  rintro er w3 ⟨rfl, hb3⟩
  have hb03 := hb02.trans (hb3.mono hb02.size)
  go_wp2
  go_ret
  exact ⟨rfl, hb03⟩

set_option maxHeartbeats 1000000 in
theorem shaHexApart_walk (A B : Option Addr) (xs ys : List UInt8) (c d : Nat) (hc : xs.length ≤ c) (hd : ys.length ≤ d) (hm : c ≤ 9223372036854775807) (hm' : d ≤ 9223372036854775807) (w : World) (hT : Tab w) (hb : Byt w w.heap.size A xs) (hb' : Byt w w.heap.size B ys) :
    Calls Tryd.prog 6 #[.slice A xs.length c, .slice B ys.length d] w fun e w' => e = .returned (.bool true) ∧ Below w.heap.size w w' := by
  have hf := hid (few_any A xs c hc hm w)
  have hf' := hid (few_any B ys d hd hm' w)
  have hl : (xs.take 400).length ≤ 400 := List.length_take_le _ _
  have hl' : (ys.take 400).length ≤ 400 := List.length_take_le _ _
  have hs := hid (same_any A B (xs.take 400) (ys.take 400) c d (by omega) (by omega) w hb.head hb'.head)
  have hx := hid (fun w1 (h1 : Below w.heap.size w w1) => hex_any A (xs.take 400) c (by omega) w1 ((hb.head.below h1).more h1.size))
  have hy := hid (fun w1 (h1 : Below w.heap.size w w1) => hex_any B (ys.take 400) d (by omega) w1 ((hb'.head.below h1).more h1.size))
  have hz := hid (fun w1 (h1 : Below w.heap.size w w1) => lives_any w1 (hT.below hT.pos h1))
  clear hl hl' hb hb' hT hc hd
  obtain ⟨p, hp⟩ : ∃ p, p = hexOf (xs.take 400) := ⟨_, rfl⟩
  obtain ⟨q, hq⟩ : ∃ q, q = hexOf (ys.take 400) := ⟨_, rfl⟩
  obtain ⟨t, ht⟩ : ∃ t, t = decide (xs.take 400 = ys.take 400) := ⟨_, rfl⟩
  have heq : t = decide (p = q) := by
    rw [ht, hp, hq]
    by_cases h : xs.take 400 = ys.take 400
    · rw [h]; simp
    · have : ¬ hexOf (xs.take 400) = hexOf (ys.take 400) := fun e => h (hexOf_inj _ _ e)
      simp [h, this]
  rw [← hp] at hx
  rw [← hq] at hy
  rw [← ht] at hs
  obtain ⟨xs', hxs⟩ : ∃ l', l' = xs.take 400 := ⟨_, rfl⟩
  obtain ⟨ys', hys⟩ : ∃ l', l' = ys.take 400 := ⟨_, rfl⟩
  rw [← hxs] at hf hx hs
  rw [← hys] at hf' hy hs
  clear hp hq ht hxs hys
  by_cases h : p = q
  all_goals
    simp [h] at heq
    subst heq
    go_enter Tryd.func6, Tryd.ntmps6
    go_wp2_with fail
    refine hf.out.mono ?_
    rintro er wr ⟨rfl, rfl⟩
    go_wp2_with fail
    refine hf'.out.mono ?_
    rintro er wr ⟨rfl, rfl⟩
    go_wp2_with fail
    refine hs.out.mono ?_
    rintro er w0 ⟨rfl, k, rfl⟩
    have hb0 := below_drewN (Below.refl w.heap.size w) k
    go_wp2_with fail
    refine (hx.out _ hb0).mono ?_
    rintro er w1 ⟨rfl, hb1⟩
    have hb01 := hb0.trans (hb1.mono hb0.size)
    go_wp2_with fail
    refine (hy.out w1 hb01).mono ?_
    rintro er w2 ⟨rfl, hb2⟩
    have hb02 := hb01.trans (hb2.mono hb01.size)
    go_wp2_with fail
    refine (hz.out w2 hb02).mono ?_
    rintro er w3 ⟨rfl, hb3⟩
    have hb03 := hb02.trans (hb3.mono hb02.size)
    go_wp2
    go_ret
    first
      | exact ⟨rfl, hb03⟩
      | exact ⟨congrArg (fun b => Ending.returned (.bool b)) (bne_of h), hb03⟩
end Go.Proofs.YtdmglanepjhdoaaDoor.Sh
