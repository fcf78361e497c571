/-
  The walks of MacRight, MacTurned, MacParts.
-/
import Derived.Test.YtdmglanepjhdoaaDoorMcLawsA2
import Derived.Deep.RegionWith
import Derived.Deep.DeepCutAuto
namespace Go.Proofs.YtdmglanepjhdoaaDoor.Sh
open Go Go.RowKit
attribute [local irreducible] sha hexOf absorb sched rounds keyPad hmac

set_option maxHeartbeats 2000000 in
theorem macRight_walk (A T R : Option Addr) (l t : List UInt8) (ps : List Part) (c tc rc : Nat) (hc : l.length ≤ c) (hm : c ≤ 9223372036854775807) (htc : t.length ≤ tc) (htm : tc ≤ 9223372036854775807) (hr : ps.length ≤ 9223372036854775807) (w : World) (hT : Tab w) (hb : Byt w w.heap.size A l) (ht : Byt w w.heap.size T t) (hp : RowsAt w w.heap.size R ps) :
    Calls Tryd.prog 9 #[.slice A l.length c, .slice T t.length tc, .slice R ps.length rc] w fun e w' => e = .returned (.bool true) ∧ Below w.heap.size w w' := by
  obtain ⟨n, hn, hk⟩ := KeyAt.first hc hm hb
  obtain ⟨key, hkey⟩ : ∃ k, k = l.take 150 := ⟨_, rfl⟩
  rw [← hkey] at hk
  have hf := hid (fewK (w := w) (A := A) hc hm 150 (by omega) hn)
  have hcu := hid (cutK rfl hr hp rc)
  obtain ⟨qs, hqs⟩ : ∃ q, q = cutAll ps := ⟨_, rfl⟩
  rw [← hqs] at hcu
  obtain ⟨r0, hr0⟩ : ∃ r, r = ps.length := ⟨_, rfl⟩
  rw [← hr0] at hcu ⊢
  obtain ⟨n0, hn0⟩ : ∃ r, r = l.length := ⟨_, rfl⟩
  rw [← hn0] at hf ⊢
  have hTT := hid (fun W (hW : Below w.heap.size w W) => hT.below hT.pos hW)
  have hHL := hid (hmac_length key (flat qs))
  have HKL := hid hk.len
  obtain ⟨m, hm'⟩ : ∃ m, min 40 t.length = m := ⟨_, rfl⟩
  have hf2 := hid (fewK (w := w) (A := T) htc htm 40 (by omega) hm')
  have hm40 : m ≤ 40 := by omega
  obtain ⟨tt, htt⟩ : ∃ x, x = t.take 40 := ⟨_, rfl⟩
  have hty : Byt w w.heap.size T tt := by rw [htt]; exact ht.head
  have HTL : Hid (tt.length = m) := hid (by rw [htt, List.length_take]; exact hm')
  obtain ⟨m0, hm0⟩ : ∃ r, r = t.length := ⟨_, rfl⟩
  rw [← hm0] at hf2 ⊢
  obtain ⟨H, hH⟩ : ∃ H, H = hmac key (flat qs) := ⟨_, rfl⟩
  rw [← hH] at hHL
  have HH := hid hH.symm
  clear hqs hkey hb hp hr0 hn0 hn hc hr ht htt hm' hm0 htc hH
  by_cases heq : tt = H
  all_goals
    have HQ := hid heq
    clear heq
    go_enter Tryd.func9, Tryd.ntmps9
    go_wp2_with fail
    refine hf.out.mono ?_
    rintro er wr ⟨rfl, rfl⟩
    clear hf
    go_wp2_with fail
    refine hf2.out.mono ?_
    rintro er wr ⟨rfl, rfl⟩
    clear hf2
    go_wp2_with fail
    refine hcu.out.mono ?_
    rintro er w1 ⟨R1, r1, rc1, rfl, p1, b1⟩
    have k1 := hk.below b1
    have t1 := (hty.below b1).more b1.size
    clear hcu hty
    go_wp2_with fail
    refine (joinedK p1 rc1).mono ?_
    rintro er w2 ⟨A2, N, c2, rfl, hN, hNs, o2, b2⟩
    have b02 := b1.trans (b2.mono b1.size)
    have p2 := p1.below b2
    have k2 := k1.below b2
    have t2 := (t1.below b2).more b2.size
    have y2 := o2.byt
    have HN := hid hN
    clear o2 p1 k1 t1 b2 hN
    go_wp2_with fail
    refine (refTagK k2 HN.out (by omega) y2 c2).mono ?_
    rintro er w3 ⟨A3, c3, rfl, hc3, _, o3, b3⟩
    have b03 := b02.trans (b3.mono b02.size)
    have p3 := p2.below b3
    have k3 := k2.below b3
    have t3 := (t2.below b3).more b3.size
    have y3 : Byt w3 w3.heap.size A3 H := by rw [← HH.out]; exact o3.byt
    have hq := hid (same_any T A3 tt H tc c3 (by rw [HTL.out]; omega) (by rw [hHL.out]; omega) w3 t3 y3)
    rw [HTL.out, hHL.out] at hq
    clear o3 p2 k2 t2 b3 y2
    go_wp2_with fail
    refine hq.out.mono ?_
    rintro er w4 ⟨rfl, q, rfl⟩
    first
      | rw [show decide (tt = H) = true from decide_eq_true HQ.out]
      | rw [show decide (tt = H) = false from decide_eq_false HQ.out]
    have b04 := below_drewN b03 q
    have p4 : PtsAt (w3.drewN q) R1 r1 qs := ⟨p3.len, p3.small, p3.flat, p3.rows⟩
    have k4 : KeyAt (w3.drewN q) A n c key := ⟨k3.len, k3.le, k3.max, k3.small, k3.byt⟩
    have t4 : Byt (w3.drewN q) (w3.drewN q).heap.size T tt := t3
    have y4 : Byt (w3.drewN q) (w3.drewN q).heap.size A3 H := y3
    have hR1 := hid (rightK (tc := tc) k4 p4 (hTT.out _ b04) HTL.out (by omega) t4 rc1)
    rw [HH.out] at hR1
    first
      | rw [show decide (tt = H) = true from decide_eq_true HQ.out] at hR1
      | rw [show decide (tt = H) = false from decide_eq_false HQ.out] at hR1
    clear hq p3 k3 t3 y3
    go_wp2_with fail
    refine hR1.out.mono ?_
    rintro er w5 ⟨rfl, b5⟩
    have b05 := b04.trans (b5.mono b04.size)
    have p5 := p4.below b5
    have k5 := k4.below b5
    have y5 := (y4.below b5).more b5.size
    have hR2 := hid (rightK (tc := c3) k5 p5 (hTT.out _ b05) hHL.out (by omega) y5 rc1)
    rw [HH.out, show decide (H = H) = true from decide_eq_true rfl] at hR2
    clear hR1 p4 k4 t4 y4 b5
    go_wp2_with fail
    refine hR2.out.mono ?_
    rintro er w6 ⟨rfl, b6⟩
    have b06 := b05.trans (b6.mono b05.size)
    clear hR2
    go_wp2_with fail
    refine (lives2_any _ (hTT.out _ b06)).mono ?_
    rintro er w7 ⟨rfl, b7⟩
    have b07 := b06.trans (b7.mono b06.size)
    go_wp2
    go_ret
    exact ⟨rfl, b07⟩

/-- A number that may be below 0, as the statements turn it: never below 0. -/
theorem turn_pos (z : Int) (h0 : -9223372036854775808 ≤ z) (h1 : z ≤ 9223372036854775807) : ∃ a : Int, 0 ≤ a ∧ a ≤ 9223372036854775807 ∧ ((z < 0 ∧ -(z + 1) = a) ∨ (0 ≤ z ∧ z = a)) := by
  by_cases h : z < 0
  · exact ⟨_, by omega, by omega, .inl ⟨h, rfl⟩⟩
  · exact ⟨z, by omega, by omega, .inr ⟨by omega, rfl⟩⟩
theorem rem32 (a : Int) : ∃ I : Nat, I < 32 ∧ a % 32 = (I : Int) := ⟨(a % 32).toNat, by omega, by omega⟩
theorem set_xor {H : List UInt8} {I : Nat} {x y : UInt8} (hy : H[I]? = some y) : (H.set I (y ^^^ x) = H) ↔ x = 0 := by
  have hI : I < H.length := (List.getElem?_eq_some_iff.1 hy).1
  constructor
  · intro h
    have h2 : (H.set I (y ^^^ x))[I]? = H[I]? := by rw [h]
    rw [List.getElem?_set_self hI, hy] at h2
    injection h2 with h2
    have h3 : y ^^^ (y ^^^ x) = y ^^^ y := by rw [h2]
    rw [← UInt8.xor_assoc, UInt8.xor_self, UInt8.zero_xor] at h3
    exact h3
  · rintro rfl
    rw [UInt8.xor_zero]
    apply List.ext_getElem?
    intro j
    by_cases hj : I = j
    · subst hj
      rw [List.getElem?_set_self hI, hy]
    · rw [List.getElem?_set_ne hj]

set_option maxHeartbeats 4000000 in
theorem macTurned_walk (A R : Option Addr) (l : List UInt8) (ps : List Part) (z : Int) (x : UInt8) (y : Int) (c rc : Nat) (hc : l.length ≤ c) (hm : c ≤ 9223372036854775807) (hr : ps.length ≤ 9223372036854775807) (hz0 : -9223372036854775808 ≤ z) (hz1 : z ≤ 9223372036854775807) (hy0 : -9223372036854775808 ≤ y) (hy1 : y ≤ 9223372036854775807) (w : World) (hT : Tab w) (hb : Byt w w.heap.size A l) (hp : RowsAt w w.heap.size R ps) :
    Calls Tryd.prog 10 #[.slice A l.length c, .slice R ps.length rc, .int .i64 z, .int .u8 x.toNat, .int .i64 y] w fun e w' => e = .returned (.bool true) ∧ Below w.heap.size w w' := by
  obtain ⟨n, hn, hk⟩ := KeyAt.first hc hm hb
  obtain ⟨key, hkey⟩ : ∃ k, k = l.take 150 := ⟨_, rfl⟩
  rw [← hkey] at hk
  have hf := hid (fewK (w := w) (A := A) hc hm 150 (by omega) hn)
  have hcu := hid (cutK rfl hr hp rc)
  obtain ⟨qs, hqs⟩ : ∃ q, q = cutAll ps := ⟨_, rfl⟩
  rw [← hqs] at hcu
  obtain ⟨r0, hr0⟩ : ∃ r, r = ps.length := ⟨_, rfl⟩
  rw [← hr0] at hcu ⊢
  obtain ⟨n0, hn0⟩ : ∃ r, r = l.length := ⟨_, rfl⟩
  rw [← hn0] at hf ⊢
  have hTT := hid (fun W (hW : Below w.heap.size w W) => hT.below hT.pos hW)
  have hHL := hid (hmac_length key (flat qs))
  have HKL := hid hk.len
  obtain ⟨H, hH⟩ : ∃ H, H = hmac key (flat qs) := ⟨_, rfl⟩
  rw [← hH] at hHL
  have HH := hid hH.symm
  clear hqs hkey hb hp hr0 hn0 hn hc hr hH
  obtain ⟨a, ha0, ha1, haz⟩ := turn_pos z hz0 hz1
  obtain ⟨b, hb0, hb1, hby⟩ := turn_pos y hy0 hy1
  obtain ⟨I, hI, hIa⟩ := rem32 a
  obtain ⟨K, hK, hKb⟩ := rem32 b
  obtain ⟨u, hu⟩ : ∃ u, H[I]? = some u := ⟨H[I]'(by rw [hHL.out]; exact hI), List.getElem?_eq_getElem _⟩
  obtain ⟨v, hv⟩ : ∃ v, v = u ^^^ x := ⟨_, rfl⟩
  have hxor := b_xor u x
  rw [← hv] at hxor
  have hx8 := lt8 x
  have HSET : Hid (H.set I v = H ↔ x = 0) := hid (by rw [hv]; exact set_xor hu)
  have HU := hid hu
  have HK2 : Hid (decide (H.take K = H) = false) := hid (by
    rw [decide_eq_false_iff_not]
    intro e
    have := congrArg List.length e
    rw [List.length_take, hHL.out] at this
    omega)
  have HK3 : Hid (decide (H ++ [x] = H) = false) := hid (by
    rw [decide_eq_false_iff_not]
    intro e
    have := congrArg List.length e
    simp at this)
  have HSL : Hid ((H.set I v).length = 32) := hid (by rw [List.length_set, hHL.out])
  have HTL : Hid ((H.take K).length = K) := hid (by rw [List.length_take, hHL.out]; omega)
  have HAL : Hid ((H ++ [x]).length = 33) := hid (by rw [List.length_append, hHL.out]; rfl)
  clear hu hv hz0 hz1 hy0 hy1
  have hI0 : (0 : Int) ≤ (I : Int) := Int.natCast_nonneg _
  have hI1 : (I : Int) < 32 := by omega
  have hK0 : (0 : Int) ≤ (K : Int) := Int.natCast_nonneg _
  have hK1 : (K : Int) < 32 := by omega
  obtain ⟨d, hd, hdx⟩ : ∃ d : Bool, Hid (decide (H.set I v = H) = d) ∧ ((x.toNat : Int) == 0) = d := by
    refine ⟨_, hid rfl, ?_⟩
    rw [Bool.eq_iff_iff, decide_eq_true_iff, HSET.out, beq_iff_eq, ← UInt8.toNat_inj]
    simp
  rcases haz with ⟨hz, haz⟩ | ⟨hz, rfl⟩ <;> rcases hby with ⟨hy, hby⟩ | ⟨hy, rfl⟩ <;> cases d
  all_goals
    go_enter Tryd.func10, Tryd.ntmps10
    go_wp2_with fail
    refine hf.out.mono ?_
    rintro er wr ⟨rfl, rfl⟩
    clear hf
    go_wp2_with fail
    refine hcu.out.mono ?_
    rintro er w1 ⟨R1, r1, rc1, rfl, p1, b1⟩
    have k1 := hk.below b1
    clear hcu
    go_wp2_with fail
    refine (tagK k1 p1 (hTT.out _ b1) rc1).mono ?_
    rintro er w2 ⟨A2, c2, rfl, hc2, _, o2, b2⟩
    rw [HH.out] at o2
    have b02 := b1.trans (b2.mono b1.size)
    have p2 := p1.below b2
    have k2 := k1.below b2
    have y2 := o2.byt
    have rd2 := y2.reads
    clear o2 p1 k1 b2
    go_wp2_with (at_builtin; (refine wpList_appB rfl (.tmp 34) (.tmp 35) rfl w2.heap.size (.slice none 0 0) 0 [] (OwnB.nil _ _) rfl A2 32 c2 H rfl hHL.out rd2 (by omega) (Nat.le_refl _) w2 (Below.refl _ _) 32 (by omega) ?_
                              intro A3 c3 w3 o3 _ b3
                              obtain ⟨g, cap5, hv5, hg5, _⟩ := World.ownsRow.form o3 (by omega)
                              injection hv5 with hA5 _ hcap5
                              subst hA5 hcap5
                              have hcu : w3.cell? ⟨g, I, none⟩ = some (.int .u8 u.toNat) := by
                                rw [World.ownsRow.cellAt o3 I (by omega)]
                                simp [bv, HU.out]
                              have hfz := World.ownsRow.frozenAt o3 I
                              have o4 : Hid (OwnB (w3.setCell ⟨g, I, none⟩ (.int .u8 v.toNat)) w2.heap.size (.slice (some ⟨g, 0, none⟩) 32 c3) 32 (H.set I v)) := hid (by
                                have h := (World.ownsRow.stored o3 I (.int .u8 v.toNat)).1
                                unfold OwnB
                                rw [← bv_set]
                                exact h)
                              have b4 := b3.setCell (p := ⟨g, I, none⟩) hg5 (.int .u8 v.toNat)
                              clear o3 b3))
    have b04 := b02.trans (b4.mono b02.size)
    have p4 := p2.below b4
    have k4 := k2.below b4
    have y4 := (y2.below b4).more b4.size
    have hR1 := hid (rightK (tc := c3) k4 p4 (hTT.out _ b04) HSL.out (by omega) o4.out.byt rc1)
    rw [HH.out, hd.out] at hR1
    clear p2 k2 y2 rd2 b4 o4 hfz
    refine hR1.out.mono ?_
    rintro er w5 ⟨rfl, b5⟩
    have b05 := b04.trans (b5.mono b04.size)
    have p5 := p4.below b5
    have k5 := k4.below b5
    have y5 := (y4.below b5).more b5.size
    have rd5 := y5.reads
    clear hR1 p4 k4 y4 b5
    go_wp2_with (at_builtin; first
      | (refine wpList_appB rfl (.tmp 55) (.tmp 56) rfl w5.heap.size (.slice none 0 0) 0 [] (OwnB.nil _ _) rfl A2 32 c2 H rfl hHL.out rd5 (by omega) (Nat.le_refl _) w5 (Below.refl _ _) 32 (by omega) ?_
         intro A6 c6 w6 o6 _ b6)
      | (refine wpList_appB rfl (.tmp 58) (.tmp 60) rfl w5.heap.size (.slice A6 32 c6) 32 _ (OwnB.alloc o6 _) rfl (some ⟨w6.heap.size, 0, none⟩) 1 1 [x] rfl rfl (reads_one w6 x _ _) (by omega) (le_alloc b6.size _) w5 (b6.alloc b6.size _) 33 (by omega) ?_
         intro A7 c7 w7 o7 _ b7
         have HO7 := hid o7
         clear o6 b6 o7))
    have b07 := b05.trans (b7.mono b05.size)
    have p7 := p5.below b7
    have k7 := k5.below b7
    have y7 := (y5.below b7).more b7.size
    have hR2 := hid (rightK (tc := c2) k7 p7 (hTT.out _ b07) HTL.out (by omega) y7.head rc1)
    rw [HH.out, HK2.out] at hR2
    clear p5 k5 y5 rd5 b7
    refine hR2.out.mono ?_
    rintro er w8 ⟨rfl, b8⟩
    have b08 := b07.trans (b8.mono b07.size)
    have p8 := p7.below b8
    have k8 := k7.below b8
    have y8 := (HO7.out.byt.below b8).more b8.size
    have hR3 := hid (rightK (tc := c7) k8 p8 (hTT.out _ b08) HAL.out (by omega) y8 rc1)
    rw [HH.out] at hR3
    have hR4 := hid (HK3.out ▸ hR3.out)
    clear p7 k7 y7 hR2 b8 hR3
    go_wp2_with fail
    refine hR4.out.mono ?_
    rintro er w9 ⟨rfl, b9⟩
    have b09 := b08.trans (b9.mono b08.size)
    clear hR4
    go_wp2_with fail
    refine (lives2_any _ (hTT.out _ b09)).mono ?_
    rintro er w10 ⟨rfl, b10⟩
    have b010 := b09.trans (b10.mono b09.size)
    go_wp2
    go_ret
    exact ⟨rfl, b010⟩
end Go.Proofs.YtdmglanepjhdoaaDoor.Sh
