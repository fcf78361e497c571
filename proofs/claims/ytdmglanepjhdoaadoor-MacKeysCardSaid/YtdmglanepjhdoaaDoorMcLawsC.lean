/-
  The walk of MacParts.
-/
import Derived.Test.YtdmglanepjhdoaaDoorMcLawsB
namespace Go.Proofs.YtdmglanepjhdoaaDoor.Sh
open Go Go.RowKit
attribute [local irreducible] sha hexOf absorb sched rounds keyPad hmac

theorem three_rows (w : World) (A B : Option Addr) (n m c d : Nat) (l k : List UInt8) (hl : l.length = n) (hk : k.length = m) (hc : n ≤ c) (hd : m ≤ d) (hcm : c ≤ 9223372036854775807) (hdm : d ≤ 9223372036854775807) (ha : Byt w w.heap.size A l) (hb : Byt w w.heap.size B k) (t : TypeId) (fr : Nat × Nat) :
    RowsAt (w.alloc (.cells #[.slice A n c, .slice none 0 0, .slice B m d] t fr)) (w.alloc (.cells #[.slice A n c, .slice none 0 0, .slice B m d] t fr)).heap.size (some ⟨w.heap.size, 0, none⟩) [(A, c, l), (none, 0, []), (B, d, k)] := fun _ => by
  subst hl hk
  refine ⟨_, rfl, by rw [World.size_alloc]; exact Nat.lt_succ_self _, fun j p hp => ?_⟩
  have hbel : Below w.heap.size w (w.alloc (.cells #[.slice A l.length c, .slice none 0 0, .slice B k.length d] t fr)) := (Below.refl _ _).alloc (Nat.le_refl _) _
  have hj : j < 3 := (List.getElem?_eq_some_iff.1 hp).1
  have hcase : j = 0 ∨ j = 1 ∨ j = 2 := by omega
  rcases hcase with rfl | rfl | rfl
  · simp at hp
    subst hp
    refine ⟨?_, hc, hcm, (ha.below hbel).more hbel.size⟩
    rw [add_zero]
    exact cell_of_row _ w.heap.size 0 _ t fr (heap_alloc_new w _)
  · simp at hp
    subst hp
    refine ⟨?_, Nat.le_refl _, Nat.zero_le _, Byt.nil⟩
    rw [add_pos _ _ (by omega)]
    exact cell_of_row _ w.heap.size 1 _ t fr (heap_alloc_new w _)
  · simp at hp
    subst hp
    refine ⟨?_, hd, hdm, (hb.below hbel).more hbel.size⟩
    rw [add_pos _ _ (by omega)]
    exact cell_of_row _ w.heap.size 2 _ t fr (heap_alloc_new w _)
theorem turn_pos' (z : Int) (h0 : -9223372036854775808 ≤ z) (h1 : z ≤ 9223372036854775807) : ∃ a : Int, 0 ≤ a ∧ a ≤ 9223372036854775807 ∧ ((z < 0 ∧ -(z + 1) = a) ∨ (0 ≤ a ∧ a = z)) := by
  by_cases h : z < 0
  · exact ⟨_, by omega, by omega, .inl ⟨h, rfl⟩⟩
  · exact ⟨z, by omega, by omega, .inr ⟨by omega, rfl⟩⟩
theorem remN (a : Int) (N : Nat) : ∃ I : Nat, I ≤ N ∧ a % ((N : Int) + 1) = (I : Int) := by
  have h1 := Int.emod_nonneg a (show (N : Int) + 1 ≠ 0 by omega)
  have h2 := Int.emod_lt_of_pos a (show (0 : Int) < (N : Int) + 1 by omega)
  exact ⟨(a % ((N : Int) + 1)).toNat, by omega, by omega⟩

set_option maxHeartbeats 4000000 in
theorem macParts_walk (A R : Option Addr) (l : List UInt8) (ps : List Part) (z : Int) (c rc : Nat) (hc : l.length ≤ c) (hm : c ≤ 9223372036854775807) (hr : ps.length ≤ 9223372036854775807) (hz0 : -9223372036854775808 ≤ z) (hz1 : z ≤ 9223372036854775807) (w : World) (hT : Tab w) (hb : Byt w w.heap.size A l) (hp : RowsAt w w.heap.size R ps) :
    Calls Tryd.prog 11 #[.slice A l.length c, .slice R ps.length rc, .int .i64 z] w fun e w' => e = .returned (.bool true) ∧ Below w.heap.size w w' := by
  obtain ⟨n, hn, hk⟩ := KeyAt.first hc hm hb
  obtain ⟨key, hkey⟩ : ∃ k, k = l.take 150 := ⟨_, rfl⟩
  rw [← hkey] at hk
  have hf := hid (fewK (w := w) (A := A) hc hm 150 (by omega) hn)
  have hcu := hid (cutK rfl hr hp rc)
  obtain ⟨qs, hqs⟩ : ∃ q, q = cutAll ps := ⟨_, rfl⟩
  rw [← hqs] at hcu
  obtain ⟨r0, hr0⟩ : ∃ r, r = ps.length := ⟨_, rfl⟩
  rw [← hr0] at hcu ⊢
  obtain ⟨n0, hn0⟩ : ∃ r, r = l.length := ⟨_, rfl⟩
  rw [← hn0] at hf ⊢
  have hTT := hid (fun W (hW : Below w.heap.size w W) => hT.below hT.pos hW)
  have hHL := hid (hmac_length key (flat qs))
  have HKL := hid hk.len
  obtain ⟨H, hH⟩ : ∃ H, H = hmac key (flat qs) := ⟨_, rfl⟩
  rw [← hH] at hHL
  have HH := hid hH.symm
  obtain ⟨all, hall⟩ : ∃ x, x = flat qs := ⟨_, rfl⟩
  have HALL := hid hall
  clear hqs hkey hb hp hr0 hn0 hn hc hr hH hall
  obtain ⟨a, ha0, ha1, haz⟩ := turn_pos' z hz0 hz1
  clear hz0 hz1
  rcases haz with ⟨hz, haz⟩ | ⟨hz, rfl⟩
  all_goals
    go_enter Tryd.func11, Tryd.ntmps11
    go_wp2_with fail
    refine hf.out.mono ?_
    rintro er wr ⟨rfl, rfl⟩
    clear hf
    go_wp2_with fail
    refine hcu.out.mono ?_
    rintro er w1 ⟨R1, r1, rc1, rfl, p1, b1⟩
    have k1 := hk.below b1
    clear hcu
    go_wp2_with fail
    refine (joinedK p1 rc1).mono ?_
    rintro er w2 ⟨A2, N, c2, rfl, hN, hNs, o2, b2⟩
    rw [← HALL.out] at hN o2
    have b02 := b1.trans (b2.mono b1.size)
    have p2 := p1.below b2
    have k2 := k1.below b2
    have y2 := o2.byt
    have hcap := o2.cap
    have hcmx := o2.cap_max
    have HN := hid hN
    obtain ⟨I, hI, hIa⟩ := remN a N
    clear o2 p1 k1 b2 hN
    go_wp2_with fail
    rw [hIa]
    have hI0 : (0 : Int) ≤ (I : Int) := Int.natCast_nonneg _
    have hI1 : (I : Int) ≤ (N : Int) := by omega
    clear hIa
    refine (tagK k2 p2 (hTT.out _ b02) rc1).mono ?_
    rintro er w3 ⟨A3, c3, rfl, hc3, _, o3, b3⟩
    rw [HH.out] at o3
    have b03 := b02.trans (b3.mono b02.size)
    have k3 := k2.below b3
    have y3 := o3.byt
    have y23 := (y2.below b3).more b3.size
    have hrow := hid (one_row w3 A2 c2 N all HN.out hcap hcmx y23 22 (0, 0))
    have bx : Below w3.heap.size w3 (w3.alloc (.cells #[.slice A2 N c2] 22)) := (Below.refl _ _).alloc (Nat.le_refl _) _
    have b4 : Below w.heap.size w (w3.alloc (.cells #[.slice A2 N c2] 22)) := b03.trans (bx.mono b03.size)
    have p4 : PtsAt (w3.alloc (.cells #[.slice A2 N c2] 22)) (some ⟨w3.heap.size, 0, none⟩) 1 [(A2, c2, all)] := ⟨rfl, by omega, by simp only [flat, List.flatMap_cons, List.flatMap_nil, List.append_nil]; rw [HN.out]; omega, hrow.out⟩
    have hT4 := hid (tagK (k3.below bx) p4 (hTT.out _ b4) 1)
    rw [show flat [(A2, c2, all)] = flat qs by simp only [flat, List.flatMap_cons, List.flatMap_nil, List.append_nil]; exact HALL.out, HH.out] at hT4
    have k4 := k3.below bx
    have y34 := (y3.below bx).more bx.size
    have y24 := (y23.below bx).more bx.size
    clear o3 p2 k2 b3 y2 bx p4 k3 y3 y23 hrow
    go_wp2_with fail
    refine hT4.out.mono ?_
    rintro er w5 ⟨A5, c5, rfl, hc5, _, o5, b5⟩
    have b05 := b4.trans (b5.mono b4.size)
    have k5 := k4.below b5
    have y35 := (y34.below b5).more b5.size
    have y25 := (y24.below b5).more b5.size
    have hq := hid (same_eq A3 A5 H 32 c3 c5 hHL.out (by omega) w5 y35 o5.byt)
    clear hT4 k4 y34 y24 o5 b5 b4
    go_wp2_with fail
    refine hq.out.mono ?_
    rintro er w6 ⟨rfl, q, rfl⟩
    have b06 := below_drewN b05 q
    obtain ⟨w7, hw7⟩ : ∃ w7, w7 = w5.drewN q := ⟨_, rfl⟩
    rw [← hw7] at b06 ⊢
    have k7 : KeyAt w7 A n c key := by rw [hw7]; exact ⟨k5.len, k5.le, k5.max, k5.small, k5.byt⟩
    have y37 : Byt w7 w7.heap.size A3 H := by rw [hw7]; exact y35
    have y27 : Byt w7 w7.heap.size A2 all := by rw [hw7]; exact y25
    clear hw7 k5 y35 y25 hq
    go_wp2_with fail
    obtain ⟨B2, hB2⟩ : ∃ x, x = (if c2 = I then A2 else A2.map (·.add I)) := ⟨_, rfl⟩
    have hcut : Byt w7 w7.heap.size B2 (all.drop I) := by
      have h := y27.cut (lo := I) (hi := N) (cap := c2) hI (by rw [HN.out]; exact Nat.le_refl _) (by rw [HN.out]; exact hcap)
      rw [List.take_of_length_le (by rw [HN.out]; exact Nat.le_refl _), ← hB2] at h
      exact h
    have eB := hB2.symm
    clear hB2
    have hI2 : (I : Int) ≤ (c2 : Int) := by omega
    have bx7 : Below w7.heap.size w7 ((w7.alloc (.cells #[.slice A2 I c2, .slice none 0 0, .slice B2 (N - I) (c2 - I)] 22)).drew) := ((Below.refl _ _).alloc (Nat.le_refl _) _).drew
    have b08 := b06.trans (bx7.mono b06.size)
    have hrows := three_rows w7 A2 B2 I (N - I) c2 (c2 - I) (all.take I) (all.drop I) (by rw [List.length_take, HN.out]; omega) (by rw [List.length_drop, HN.out]) (by omega) (by omega) hcmx (by omega) y27.head hcut 22 (0, 0)
    have hfl : flat [(A2, c2, all.take I), (none, 0, []), (B2, c2 - I, all.drop I)] = flat qs := by
      rw [← HALL.out]
      simp [flat]
    have p8 : PtsAt ((w7.alloc (.cells #[.slice A2 I c2, .slice none 0 0, .slice B2 (N - I) (c2 - I)] 22)).drew) (some ⟨w7.heap.size, 0, none⟩) 3 [(A2, c2, all.take I), (none, 0, []), (B2, c2 - I, all.drop I)] := ⟨rfl, by omega, by rw [hfl, ← HALL.out, HN.out]; omega, hrows⟩
    have hT8 := hid (tagK (k7.below bx7) p8 (hTT.out _ b08) 3)
    rw [hfl, HH.out] at hT8
    have Y38 := hid ((y37.below bx7).more bx7.size)
    have B08 := hid b08
    clear hrows hfl p8 bx7 b08 k7 y37 y27 hcut b06
    go_region_with ((first
      | (go_at_call 23; (refine hT8.out.mono ?_); rintro er w8 ⟨A8, c8, rfl, hc8, _, o8, b8⟩; have B88 := hid (B08.out.trans (b8.mono B08.out.size)); have HQ8 := hid (same_eq A3 A8 H 32 c3 c8 hHL.out (by omega) w8 ((Y38.out.below b8).more b8.size) o8.byt); clear o8 b8)
      | (go_at_call 15; (refine HQ8.out.mono ?_); rintro er w9 ⟨rfl, q9, rfl⟩)
      | fail))
    all_goals
      have b09 := below_drewN B88.out q9
      go_wp2_with fail
      refine (lives2_any _ (hTT.out _ b09)).mono ?_
      rintro er w10 ⟨rfl, b10⟩
      have b010 := b09.trans (b10.mono b09.size)
      go_wp2
      go_ret
      exact ⟨rfl, b010⟩
end Go.Proofs.YtdmglanepjhdoaaDoor.Sh
