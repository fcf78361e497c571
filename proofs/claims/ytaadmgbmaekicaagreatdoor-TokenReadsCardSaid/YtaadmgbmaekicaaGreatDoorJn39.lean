/-
  The program's side of layer 2: Tag and Right, by contract.
-/
import Derived.Test.YtaadmgbmaekicaaGreatDoorJn25
import Derived.Test.YtaadmgbmaekicaaGreatDoorJn38
import Derived.Test.YtaadmgbmaekicaaGreatDoorJn27
set_option linter.unusedVariables false
set_option linter.unusedSimpArgs false
namespace Go.Proofs.YtaadmgbmaekicaaGreatDoor.Sh
open Go Go.RowKit
attribute [local irreducible] sha hexOf absorb sched rounds keyPad hmac xorAll

theorem masked_lit (z : Int) (x : UInt8) (hz : z = (x.toNat : Int)) (g : Nat) (k : List UInt8) (hk : k.length = 64) (w : World) (h : Masks w g k) :
    Calls Tryz.prog 99 #[.int .u8 z, .pointer (some ⟨g, 0, none⟩)] w fun e w' => ∃ A c, e = .returned (.slice A 64 c) ∧ OwnB w' w.heap.size (.slice A 64 c) 64 (xorAll k x) ∧ Below w.heap.size w w' := by
  subst hz
  exact masked_any x g k hk w h
theorem hmac_eq (key data : List UInt8) : hmac key data = sha (xorAll (keyPad key) 92 ++ sha (xorAll (keyPad key) 54 ++ data)) := by unfold hmac; rfl
theorem one_row (w : World) (A : Option Addr) (c n : Nat) (l : List UInt8) (hn : l.length = n) (hc : n ≤ c) (hm : c ≤ 9223372036854775807) (hb : Byt w w.heap.size A l) (t : TypeId) (fr : Nat × Nat) :
    RowsAt (w.alloc (.cells #[.slice A n c] t fr)) (w.alloc (.cells #[.slice A n c] t fr)).heap.size (some ⟨w.heap.size, 0, none⟩) [(A, c, l)] := fun _ => by
  subst hn
  refine ⟨_, rfl, by rw [World.size_alloc]; exact Nat.lt_succ_self _, fun j p hp => ?_⟩
  have hbel : Below w.heap.size w (w.alloc (.cells #[.slice A l.length c] t fr)) := (Below.refl _ _).alloc (Nat.le_refl _) _
  have hj : j = 0 := by
    have := (List.getElem?_eq_some_iff.1 hp).1
    simp at this; exact this
  subst hj
  simp at hp
  subst hp
  refine ⟨?_, hc, hm, (hb.below hbel).more hbel.size⟩
  rw [add_zero]
  exact cell_of_row _ w.heap.size 0 _ t fr (heap_alloc_new w _)

set_option maxHeartbeats 1000000 in
theorem tag_any (A R : Option Addr) (key : List UInt8) (ps : List Part) (n c r rc : Nat) (hn : key.length = n) (hc : n ≤ c) (hcm : c ≤ 9223372036854775807) (hL : n ≤ 1099511627776) (hr : ps.length = r) (hrm : r ≤ 9223372036854775807) (hfl : 64 + (flat ps).length ≤ 1099511627776)
    (w : World) (hT : Tab w) (hb : Byt w w.heap.size A key) (h : RowsAt w w.heap.size R ps) :
    Calls Tryz.prog 20 #[.slice A n c, .slice R r rc] w fun e w' => ∃ A' c', e = .returned (.slice A' 32 c') ∧ 32 ≤ c' ∧ c' ≤ 9223372036854775807 ∧ OwnB w' w.heap.size (.slice A' 32 c') 32 (hmac key (flat ps)) ∧ Below w.heap.size w w' := by
  have HM := hid (masker_any A key n c hn hc hcm hL w hT hb)
  have HKL := hid (keyPad_length key)
  have HXL := hid (fun x => (xorAll_length (keyPad key) x).trans (keyPad_length key))
  have HSL := hid (fun l => sha_length l)
  have HTT := hid (fun W (hW : Below w.heap.size w W) => hT.below hT.pos hW)
  have HRR := hid (fun W (hW : Below w.heap.size w W) => (h.below hW).more hW.size)
  have HR := hid hr
  have HME := hid (hmac_eq key (flat ps))
  have HFL := hid hfl
  clear hn hb h hT hr hfl
  go_enter Tryz.func20, Tryz.ntmps20
  go_wp2_with fail
  refine HM.out.mono ?_
  rintro er w1 ⟨g, rfl, hg, hM, b1⟩
  clear HM
  go_wp2_with fail
  refine (masked_lit 54 54 rfl g _ HKL.out w1 hM).mono ?_
  rintro er w2 ⟨A2, c2, rfl, o2, b2⟩
  have b02 := b1.trans (b2.mono b1.size)
  have hM2 := hM.below hM.lt b2
  have J := hid (joined_any A2 R _ ps 64 c2 r rc (HXL.out 54) HR.out hrm HFL.out w2 o2.byt (HRR.out w2 b02))
  clear hM o2 b2
  go_wp2_with fail
  refine J.out.mono ?_
  rintro er w3 ⟨A3, N, c3, rfl, hN, o3, b3⟩
  have b03 := b02.trans (b3.mono b02.size)
  have hM3 := hM2.below hM2.lt b3
  have hNb : N ≤ 1099511627776 := by
    have := HFL.out
    rw [← hN, List.length_append, HXL.out]; exact this
  have HN := hid hN
  have S := hid (sum_at A3 _ N c3 hN o3.cap o3.cap_max hNb w3 (HTT.out w3 b03) o3.byt)
  clear J hM2 b3 hN
  go_wp2_with fail
  refine S.out.mono ?_
  rintro er w4 ⟨A4, c4, rfl, hc4, y4, b4, o4⟩
  have b04 := b03.trans (b4.mono b03.size)
  have hM4 := hM3.below hM3.lt b4
  have hc4m : c4 ≤ 9223372036854775807 := OwnB.cap_max o4
  clear S hM3 b4 o4 o3
  go_wp2_with fail
  refine (masked_lit 92 92 rfl g _ HKL.out w4 hM4).mono ?_
  rintro er w5 ⟨A5, c5, rfl, o5, b5⟩
  have b05 := b04.trans (b5.mono b04.size)
  have y5 := (y4.below b5).more b5.size
  have hrow := hid (one_row w5 A4 c4 32 _ (HSL.out _) hc4 hc4m y5 22 (0, 0))
  have b5a : Below w.heap.size w (w5.alloc (.cells #[.slice A4 32 c4] 22)) := b05.alloc b05.size _
  have bx : Below w5.heap.size w5 (w5.alloc (.cells #[.slice A4 32 c4] 22)) := (Below.refl _ _).alloc (Nat.le_refl _) _
  have J := hid (joined_any A5 (some ⟨w5.heap.size, 0, none⟩) _ _ 64 c5 1 1 (HXL.out 92) rfl (by omega) (by simp only [flat, List.flatMap_cons, List.flatMap_nil, List.append_nil]; rw [HSL.out]; omega) (w5.alloc (.cells #[.slice A4 32 c4] 22)) ((o5.byt.below bx).more bx.size) hrow.out)
  clear hM4 y4 y5 o5 b5 bx
  go_wp2_with fail
  refine J.out.mono ?_
  rintro er w6 ⟨A6, M, c6, rfl, hM6, o6, b6⟩
  have b06 := b5a.trans (b6.mono b5a.size)
  have hMb : M ≤ 1099511627776 := by
    rw [← hM6, List.length_append, HXL.out]
    simp only [flat, List.flatMap_cons, List.flatMap_nil, List.append_nil]
    rw [HSL.out]; omega
  have S := hid (sum_at A6 _ M c6 hM6 o6.cap o6.cap_max hMb w6 (HTT.out w6 b06) o6.byt)
  clear J b6 hM6 hrow
  go_wp2_with fail
  refine S.out.mono ?_
  rintro er w7 ⟨A7, c7, rfl, hc7, y7, b7, o7⟩
  have b07 := b06.trans (b7.mono b06.size)
  have hc7m : c7 ≤ 9223372036854775807 := OwnB.cap_max o7
  have hfin : Hid (OwnB w7 w.heap.size (.slice A7 32 c7) 32 (hmac key (flat ps))) := hid (by
    rw [HME.out]
    have h := OwnB.mono o7 b06.size
    simpa [flat] using h)
  clear S y7 b7 o7 o6
  go_wp2
  go_ret
  exact ⟨A7, c7, rfl, hc7, hc7m, hfin.out, b07⟩
end Go.Proofs.YtaadmgbmaekicaaGreatDoor.Sh
/-
  The program's side of layer 2: Right, by contract.
-/
namespace Go.Proofs.YtaadmgbmaekicaaGreatDoor.Sh
open Go Go.RowKit
attribute [local irreducible] sha hexOf absorb sched rounds keyPad hmac xorAll

theorem or_zero (d x y : UInt8) : (d ||| (x ^^^ y)) = 0 ↔ d = 0 ∧ x = y := by
  rw [← UInt8.toBitVec_inj, ← UInt8.toBitVec_inj (a := d), ← UInt8.toBitVec_inj (a := x)]
  simp only [UInt8.toBitVec_or, UInt8.toBitVec_xor]
  constructor
  · intro h
    have h1 : d.toBitVec = 0#8 ∧ x.toBitVec ^^^ y.toBitVec = 0#8 := by
      constructor
      · apply BitVec.eq_of_getLsbD_eq
        intro i hi
        have := congrArg (fun b => BitVec.getLsbD b i) h
        simp at this
        simp [this.1]
      · apply BitVec.eq_of_getLsbD_eq
        intro i hi
        have := congrArg (fun b => BitVec.getLsbD b i) h
        simp at this
        simp [this.2]
    refine ⟨h1.1, BitVec.xor_eq_zero_iff.1 h1.2⟩
  · rintro ⟨h1, h2⟩
    rw [h1, h2]
    simp

set_option maxHeartbeats 1000000 in
theorem right_any (A T R : Option Addr) (key tag : List UInt8) (ps : List Part) (n c m tc r rc : Nat) (hn : key.length = n) (hc : n ≤ c) (hcm : c ≤ 9223372036854775807) (hL : n ≤ 1099511627776) (htl : tag.length = m) (hm : m ≤ 1099511627776) (hr : ps.length = r) (hrm : r ≤ 9223372036854775807) (hfl : 64 + (flat ps).length ≤ 1099511627776)
    (w : World) (hT : Tab w) (hb : Byt w w.heap.size A key) (ht : Byt w w.heap.size T tag) (h : RowsAt w w.heap.size R ps) :
    Calls Tryz.prog 86 #[.slice A n c, .slice T m tc, .slice R r rc] w fun e w' => e = .returned (.bool (decide (tag = hmac key (flat ps)))) ∧ Below w.heap.size w w' := by
  have HT := hid (tag_any A R key ps n c r rc hn hc hcm hL hr hrm hfl w hT hb h)
  have HHL := hid (hmac_length key (flat ps))
  obtain ⟨k, hk⟩ : ∃ k, k = hmac key (flat ps) := ⟨_, rfl⟩
  rw [← hk] at HT HHL
  rw [← hk]
  have HTL := hid htl
  clear hn hb h hT hr hfl hk htl
  by_cases h32 : m = 32
  · subst h32
    go_enter Tryz.func86, Tryz.ntmps86
    go_wp2_with fail
    refine HT.out.mono ?_
    rintro er w1 ⟨A1, c1, rfl, hc1, _, o1, b1⟩
    have y1 := o1.byt
    have t1 := (ht.below b1).more b1.size
    clear HT o1 ht
    go_wp2
    go_loop [8, 21] (fun d i => ∃ (j : Nat) (z : UInt8), j ≤ 32 ∧ i = .int .i64 j ∧ d = .int .u8 z.toNat ∧ Hid (z = 0 ↔ tag.take j = k.take j)) (fun _ i => 32 - (intOf i).toNat)
    case atStart => exact ⟨0, 0, by omega, rfl, rfl, hid (by simp)⟩
    case round =>
      obtain ⟨j, z, hj, rfl, rfl, hz⟩ := hrel
      by_cases hlt : j < 32
      · obtain ⟨ad, x, rfl, _, hx, hcx⟩ := y1.get (k := j) (by rw [HHL.out]; exact hlt)
        obtain ⟨bd, y, rfl, _, hy, hcy⟩ := t1.get (k := j) (by rw [HTL.out]; exact hlt)
        obtain ⟨q, hq⟩ : ∃ q, q = x ^^^ y := ⟨_, rfl⟩
        obtain ⟨z2, hz2⟩ : ∃ z2, z2 = z ||| q := ⟨_, rfl⟩
        have e1 := b_xor x y
        have e2 := b_or z q
        rw [← hq] at e1
        rw [← hz2] at e2
        have hk0 : (0 : Int) ≤ (j : Int) := Int.natCast_nonneg _
        have hk1 : (j : Int) < 32 := by omega
        have HZ : Hid (z2 = 0 ↔ tag.take (j + 1) = k.take (j + 1)) := hid (by
          rw [hz2, hq, or_zero, take_snoc_of hx, take_snoc_of hy, hz.out]
          constructor
          · rintro ⟨h1, h2⟩; rw [h1, h2]
          · intro h
            have h3 := List.append_inj' h rfl
            refine ⟨h3.1, ?_⟩
            have := h3.2
            simp at this
            exact this.symm)
        clear hx hy hq hz2
        go_wp2
        go_round
        case rel => exact ⟨j + 1, _, by omega, by go_num, rfl, HZ⟩
        case measure => simp [intOf]; omega
      · obtain rfl : j = 32 := by omega
        have hz2 := hz.out
        rw [List.take_of_length_le (by rw [HTL.out]; omega), List.take_of_length_le (by rw [HHL.out]; omega)] at hz2
        have hfin : Hid (decide (tag = k) = ((z.toNat : Int) == 0)) := hid (by
          rw [Bool.eq_iff_iff, decide_eq_true_iff, ← hz2, beq_iff_eq, ← UInt8.toNat_inj]
          simp)
        clear hz2 hz y1 t1
        go_wp2
        go_ret
        rw [hfin.out]
        exact ⟨rfl, b1⟩
  · have hne : ((m : Int) != 32) = true := by rw [bne_iff_ne]; omega
    have hd : Hid (decide (tag = k) = false) := hid (by
      rw [decide_eq_false_iff_not]
      intro e
      have := HTL.out
      rw [e, HHL.out] at this
      omega)
    go_enter Tryz.func86, Tryz.ntmps86
    go_wp2_with fail
    refine HT.out.mono ?_
    rintro er w1 ⟨A1, c1, rfl, hc1, _, o1, b1⟩
    clear HT o1 ht
    go_wp2
    go_ret
    rw [hd.out]
    exact ⟨rfl, b1⟩
end Go.Proofs.YtaadmgbmaekicaaGreatDoor.Sh
/-
  The program's own Verify of a token, by contract; a tag, and whether it is right, of bytes in one part. Written by mk_tkpgi.py.
-/
namespace Go.Proofs.YtaadmgbmaekicaaGreatDoor.Sh
open Go Go.RowKit

set_option linter.unusedSimpArgs false
set_option linter.unusedVariables false
theorem flat_one (P : Option Addr) (c : Nat) (l : List UInt8) : flat [(P, c, l)] = l := by simp [flat]
theorem ptag1_any (A P : Option Addr) (key part : List UInt8) (n c pn pc : Nat) (hn : key.length = n) (hc : n ≤ c) (hcm : c ≤ 9223372036854775807) (hL : n ≤ 1099511600000) (hpn : part.length = pn) (hpc : pn ≤ pc) (hpm : pc ≤ 9223372036854775807) (hpl : pn ≤ 1099511600000)
    (w W : World) (hW : W = w.alloc (.cells #[.slice P pn pc] 22)) (hT : Tab w) (hb : Byt w w.heap.size A key) (h : Byt w w.heap.size P part) :
    Calls Tryz.prog 20 #[.slice A n c, .slice (some ⟨w.heap.size, 0, none⟩) 1 1] W fun e w' => ∃ A' c', e = .returned (.slice A' 32 c') ∧ 32 ≤ c' ∧ c' ≤ 9223372036854775807 ∧ OwnB w' w.heap.size (.slice A' 32 c') 32 (hmac key part) ∧ Below w.heap.size w w' := by
  subst hW
  have hb1 : Below w.heap.size w (w.alloc (.cells #[.slice P pn pc] 22)) := (Below.refl _ _).alloc (Nat.le_refl _) _
  have q := tag_any A (some ⟨w.heap.size, 0, none⟩) key [(P, pc, part)] n c 1 1 hn hc hcm (by omega) rfl (by omega) (by rw [flat_one]; omega) _ (hT.below hT.pos hb1) ((hb.below hb1).more hb1.size) (one_row w P pc pn part hpn hpc hpm h 22 (0, 0))
  rw [flat_one] at q
  exact q.mono fun e w' ⟨A', c', h1, h2, h3, h4, h5⟩ => ⟨A', c', h1, h2, h3, h4.mono hb1.size, hb1.trans (h5.mono hb1.size)⟩
theorem pright1_any (A T P : Option Addr) (key tag part : List UInt8) (n c m tc pn pc : Nat) (hn : key.length = n) (hc : n ≤ c) (hcm : c ≤ 9223372036854775807) (hL : n ≤ 1099511600000) (htl : tag.length = m) (hm : m ≤ 1099511627776) (hpn : part.length = pn) (hpc : pn ≤ pc) (hpm : pc ≤ 9223372036854775807) (hpl : pn ≤ 1099511600000)
    (w W : World) (hW : W = w.alloc (.cells #[.slice P pn pc] 22)) (hT : Tab w) (hb : Byt w w.heap.size A key) (ht : Byt w w.heap.size T tag) (h : Byt w w.heap.size P part) :
    Calls Tryz.prog 86 #[.slice A n c, .slice T m tc, .slice (some ⟨w.heap.size, 0, none⟩) 1 1] W fun e w' => e = .returned (.bool (decide (tag = hmac key part))) ∧ Below w.heap.size w w' := by
  subst hW
  have hb1 : Below w.heap.size w (w.alloc (.cells #[.slice P pn pc] 22)) := (Below.refl _ _).alloc (Nat.le_refl _) _
  have q := right_any A T (some ⟨w.heap.size, 0, none⟩) key tag [(P, pc, part)] n c m tc 1 1 hn hc hcm (by omega) htl hm rfl (by omega) (by rw [flat_one]; omega) _ (hT.below hT.pos hb1) ((hb.below hb1).more hb1.size) ((ht.below hb1).more hb1.size) (one_row w P pc pn part hpn hpc hpm h 22 (0, 0))
  rw [flat_one] at q
  exact q.mono fun e w' ⟨h1, h5⟩ => ⟨h1, hb1.trans (h5.mono hb1.size)⟩
/-- What Puts tells, whole. -/
theorem Puts.all {w w' : World} {e : Ending} {k : List UInt8} (h : Puts w w' e [] k) : ∃ A c N, e = .returned (.slice A N c) ∧ k.length = N ∧ N ≤ c ∧ c ≤ 9223372036854775807 ∧ OwnB w' w.heap.size (.slice A N c) N k ∧ Below w.heap.size w w' := by
  obtain ⟨A, c, N, h1, h2, h3, h4, h5, h6⟩ := h
  exact ⟨A, c, N, h1, by simpa using h2.symm, h3, h4, h5, h6⟩
open Classical in
set_option maxHeartbeats 16000000 in
set_option maxRecDepth 100000 in
theorem pVerify12_any {w : World} (hT : Tab w) {Q : Nat → Prop} {th : TH} {t : Tok} (a : TokAt w Q th t) (hf : FewTok t) (A : Option Addr) (key : List UInt8) (n c : Nat) (hn : key.length = n) (hL : n ≤ 100) (hnc : n ≤ c) (hcm : c ≤ 9223372036854775807) (hb : Byt w w.heap.size A key) :
    Calls Tryz.prog 41 #[.slice A n c, .agg #[.int .i64 th.d, .int .i64 th.e, .int .i64 th.n, .string th.who, .slice th.rA th.rn th.rc, .int .i64 th.til, .slice th.sA th.sn th.sc, .slice th.cA th.cn th.cc, .slice th.tA th.tn th.tc]] w fun e w' => e = .returned (.int .i64 (verE key t)) ∧ Below w.heap.size w w' := by
  have HA := hid (fun W (hW : Below w.heap.size w W) => a.below hW)
  have HK := hid (fun W (hW : Below w.heap.size w W) => (hb.below hW).more hW.size)
  have HTT := hid (fun W (hW : Below w.heap.size w W) => hT.below hT.pos hW)
  have HM := hid (fun W (hW : Below w.heap.size w W) => pMay12_any (a.below hW) hf)
  have HCL := hid a.cl
  have HTL := hid a.tl
  have HN := hid hn
  have hc8 : th.cn ≤ 8 := by have := a.cl; have := hf.n; omega
  obtain ⟨d, e, m, who, rA, rn, rc, til, sA, sn, sc, cA, cn, cc, tA, tn, tc⟩ := th
  simp only at HA HM HCL HTL hc8 ⊢
  obtain ⟨w1, hw1⟩ : ∃ y, y = w.alloc (.cells #[.int .i64 d, .int .i64 e, .int .i64 m, .string who, .slice rA rn rc, .int .i64 til, .slice sA sn sc, .slice cA cn cc, .slice tA tn tc] 27) := ⟨_, rfl⟩
  have HB1 : Hid (Below w.heap.size w w1) := hid (by rw [hw1]; exact (Below.refl _ _).alloc (Nat.le_refl _) _)
  have HX1 : Hid (ThAt w1 w.heap.size ⟨d, e, m, who, rA, rn, rc, til, sA, sn, sc, cA, cn, cc, tA, tn, tc⟩) := hid (by rw [hw1]; exact ThAt.new w ⟨d, e, m, who, rA, rn, rc, til, sA, sn, sc, cA, cn, cc, tA, tn, tc⟩)
  have HW1 := hid hw1
  have HM1 := hid (HM.out w1 HB1.out)
  obtain ⟨c0, c1, c2, c3, c4, c5, c6, c7, c8⟩ := HX1.out.all
  simp only at c0 c1 c2 c3 c4 c5 c6 c7 c8
  clear a hw1 hn hb hf hT HM
  by_cases hok : OkTok t
  · rw [decide_eq_true hok] at HM1
    have HOK := hid hok
    have HVE : Hid (verE key t = if lastT key t = t.tag then 0 else 20) := hid (if_pos hok)
    have HH := hid (fun W (hW : Below w.heap.size w W) => phead_any (HA.out W hW) HOK.out)
    clear hok
    go_enter Tryz.func41, Tryz.ntmps41
    go_upto_region 1 with fail
    rw [← HW1.out]
    go_wp2_with fail
    refine HM1.out.mono ?_
    rintro er w2 ⟨rfl, b2⟩
    have HX2 := hid (HX1.out.below b2)
    have HB2 := hid (HB1.out.trans (b2.mono HB1.out.size))
    have HH2 := hid (HH.out w2 HB2.out)
    clear b2 c0 c1 c2 c3 c4 c5 c6 c7 c8
    obtain ⟨c0, c1, c2, c3, c4, c5, c6, c7, c8⟩ := HX2.out.all
    simp only at c0 c1 c2 c3 c4 c5 c6 c7 c8
    go_wp2_with fail
    refine HH2.out.mono ?_
    rintro er w3 hP
    obtain ⟨A3, c3', N3, rfl, hl3, hN3, hc3, o3, b3⟩ := hP.all
    have HL3 := hid hl3
    have HY3 := hid o3.byt
    have HX3 := hid (HX2.out.below b3)
    have HB3 := hid (HB2.out.trans (b3.mono HB2.out.size))
    have hle3 : N3 ≤ 3000 := by rw [← hl3]; exact headB_le HOK.out
    have HY0 := hid (HK.out w3 HB3.out)
    have H00 : Hid (tagsT (hmac key (headB t)) (t.cavs.take 0) = hmac key (headB t)) := hid rfl
    have HQ3 := hid (Below.refl w3.heap.size w3)
    clear hP hl3 o3 b3 c0 c1 c2 c3 c4 c5 c6 c7 c8
    obtain ⟨c0, c1, c2, c3, c4, c5, c6, c7, c8⟩ := HX3.out.all
    simp only at c0 c1 c2 c3 c4 c5 c6 c7 c8
    go_wp2_with fail
    go_loopw [0, 5, 16] (fun v0 v5 i wr => ∃ (k n' c' nL cL : Nat) (A' AL : Option Addr) (K L : List UInt8), k ≤ cn ∧ v0 = .slice A' n' c' ∧ v5 = .slice AL nL cL ∧ i = .int .i64 (k : Int) ∧ n' ≤ 100 ∧ n' ≤ c' ∧ c' ≤ 9223372036854775807 ∧ nL ≤ 3000 ∧ nL ≤ cL ∧ cL ≤ 9223372036854775807 ∧ Hid (K.length = n') ∧ Hid (L.length = nL) ∧ Hid (Byt wr wr.heap.size A' K) ∧ Hid (Byt wr wr.heap.size AL L) ∧ Hid (tagsT (hmac key (headB t)) (t.cavs.take k) = hmac K L) ∧ Hid (Below w3.heap.size w3 wr)) (fun _ _ i _ => cn - (intOf i).toNat)
    case atStart => exact ⟨0, n, c, N3, c3', A, A3, key, headB t, Nat.zero_le _, rfl, rfl, rfl, hL, hnc, hcm, hle3, hN3, hc3, HN, HL3, HY0, HY3, H00, HQ3⟩
    case round =>
      clear HY0 HY3 H00 HQ3 c0 c1 c2 c3 c4 c5 c6 c7 c8
      obtain ⟨wj, hwj⟩ : ∃ x, x = wr := ⟨_, rfl⟩
      subst hwj
      obtain ⟨k, n', c', nL, cL, A', AL, K, L, hk, rfl, rfl, rfl, hn1, hn2, hn3, hL1, hL2, hL3, HKL, HLL, HYK, HYL, HTG, HBJ⟩ := hrel
      have hk0 : (0 : Int) ≤ (k : Int) := Int.natCast_nonneg _
      have HBW := hid (HB3.out.trans (HBJ.out.mono HB3.out.size))
      have HXJ := hid (HX3.out.below HBJ.out)
      by_cases hlt : k < cn
      · have hk1 : (k : Int) < (cn : Int) := by omega
        obtain ⟨cv, hcv⟩ : ∃ y, t.cavs[k]? = some y := ⟨_, List.getElem?_eq_getElem (by rw [HCL.out]; exact hlt)⟩
        obtain ⟨ad, aj, x, hA2, hab, haj, hbj, hca, z0, z1, z2, z3⟩ := (HA.out wj HBW.out).ce.at hcv
        simp only at hA2
        subst hA2
        have HCA := hid hca
        have HCO := hid (HOK.out.cavs cv (List.mem_of_getElem? hcv))
        have HTS : Hid (tagsT (hmac key (headB t)) (t.cavs.take (k + 1)) = hmac (hmac K L) (cavB cv)) := hid (by rw [take_snoc_of hcv, tagsT_snoc, HTG.out])
        obtain ⟨xk, xA, xn, xc, xt, xa⟩ := x
        simp only at z0 z1 z2 z3
        obtain ⟨w4, hw4⟩ : ∃ y, y = wj.alloc (.cells #[.int .i64 xk, .slice xA xn xc, .int .i64 xt, .string xa] 51) := ⟨_, rfl⟩
        have hb4 : Below wj.heap.size wj w4 := by rw [hw4]; exact (Below.refl _ _).alloc (Nat.le_refl _) _
        have HV4 : Hid (ChAt w4 wj.heap.size ⟨xk, xA, xn, xc, xt, xa⟩) := hid (by rw [hw4]; exact ChAt.new wj ⟨xk, xA, xn, xc, xt, xa⟩)
        have HB4 := hid hb4
        have HW4 := hid hw4
        clear hcv hab hbj hca hw4 hb4
        go_upto_region 7 with fail
        rw [← HW4.out]
        clear z0 z1 z2 z3
        obtain ⟨w5, hw5⟩ : ∃ y, y = w4.alloc (.cells #[.slice AL nL cL] 22) := ⟨_, rfl⟩
        have HTG5 := hid (ptag1_any A' AL K L n' c' nL cL HKL.out hn2 hn3 (by omega) HLL.out hL2 hL3 (by omega) w4 w5 hw5 (HTT.out w4 (HBW.out.trans (HB4.out.mono HBW.out.size))) ((HYK.out.below HB4.out).more HB4.out.size) ((HYL.out.below HB4.out).more HB4.out.size))
        have HW5 := hid hw5
        clear hw5
        go_wp2_with fail
        rw [← HW5.out]
        refine HTG5.out.mono ?_
        rintro er w6 ⟨A6, c6', rfl, h61, h62, o6, b6⟩
        have HY6 := hid o6.byt
        have HB6 := hid (HB4.out.trans (b6.mono HB4.out.size))
        have HV6 := hid (HV4.out.below b6)
        have HCV6 := hid (pcaveat_any (HCA.out.kept (fun b _ hl => HB6.out.block b hl) HB6.out.size) HCO.out)
        have HK6 : Hid ((hmac K L).length = 32) := hid (by simp [hmac, sha_len])
        clear o6 b6
        obtain ⟨z0, z1, z2, z3⟩ := HV6.out.all
        simp only at z0 z1 z2 z3
        go_wp2_with fail
        refine HCV6.out.mono ?_
        rintro er w7 hP
        obtain ⟨A7, c7', N7, rfl, hl7, hN7, hc7, o7, b7⟩ := hP.all
        have HL7 := hid hl7
        have HY7 := hid o7.byt
        have HYK7 := hid ((HY6.out.below b7).more b7.size)
        have hle7 : N7 ≤ 3000 := by rw [← hl7]; have := cavB_le HCO.out; omega
        have HB7 := hid ((HBJ.out.trans (HB6.out.mono HBJ.out.size)).trans (b7.mono (Nat.le_trans HBJ.out.size HB6.out.size)))
        clear hP hl7 o7 b7 z0 z1 z2 z3
        go_wp2_with fail
        go_roundw
        case rel => exact ⟨k + 1, 32, c6', N7, c7', A6, A7, hmac K L, cavB cv, by omega, rfl, rfl, by go_num, by omega, h61, h62, hle7, hN7, hc7, HK6, HL7, HYK7, HY7, HTS, HB7⟩
        case measure => simp [intOf]; omega
      · obtain rfl : k = cn := by omega
        have hk1 : ¬ (k : Int) < (k : Int) := by omega
        have HLA : Hid (hmac K L = lastT key t) := hid (by rw [← HTG.out, List.take_of_length_le (by rw [HCL.out]; exact Nat.le_refl _)]; rfl)
        obtain ⟨w5, hw5⟩ : ∃ y, y = wj.alloc (.cells #[.slice AL nL cL] 22) := ⟨_, rfl⟩
        have htn : tn ≤ 1099511627776 := by have := HOK.out.tl; have := HTL.out; omega
        have HRI := hid (pright1_any A' tA AL K t.tag L n' c' tn tc nL cL HKL.out hn2 hn3 (by omega) HTL.out htn HLL.out hL2 hL3 (by omega) wj w5 hw5 (HTT.out wj HBW.out) HYK.out (HA.out wj HBW.out).te.byt HYL.out)
        rw [HLA.out] at HRI
        obtain ⟨bb, hbb⟩ : ∃ b, decide (t.tag = lastT key t) = b := ⟨_, rfl⟩
        rw [hbb] at HRI
        have HBB : Hid ((lastT key t = t.tag) ↔ bb = true) := hid (by rw [← hbb, decide_eq_true_iff]; exact eq_comm)
        have HW5 := hid hw5
        clear hw5 hbb
        obtain ⟨c0, c1, c2, c3, c4, c5, c6, c7, c8⟩ := HXJ.out.all
        simp only at c0 c1 c2 c3 c4 c5 c6 c7 c8
        go_wp2_with fail
        rw [← HW5.out]
        refine HRI.out.mono ?_
        rintro er w6 ⟨rfl, b6⟩
        have HB6 := hid (HBW.out.trans (b6.mono HBW.out.size))
        clear b6 c0 c1 c2 c3 c4 c5 c6 c7 c8
        cases bb
        · have HE : Hid (verE key t = 20) := hid (by rw [HVE.out, if_neg (fun h => by have := HBB.out.1 h; cases this)])
          go_wp2_with fail
          go_ret
          exact ⟨by rw [HE.out]; rfl, HB6.out⟩
        · have HE : Hid (verE key t = 0) := hid (by rw [HVE.out, if_pos (HBB.out.2 rfl)])
          go_wp2_with fail
          go_ret
          exact ⟨by rw [HE.out]; rfl, HB6.out⟩
  · rw [decide_eq_false hok] at HM1
    have HE : Hid (verE key t = 25) := hid (if_neg hok)
    clear hok
    go_enter Tryz.func41, Tryz.ntmps41
    go_upto_region 1 with fail
    rw [← HW1.out]
    go_wp2_with fail
    refine HM1.out.mono ?_
    rintro er w2 ⟨rfl, b2⟩
    have HB2 := hid (HB1.out.trans (b2.mono HB1.out.size))
    go_wp2_with fail
    go_ret
    exact ⟨by rw [HE.out]; rfl, HB2.out⟩
end Go.Proofs.YtaadmgbmaekicaaGreatDoor.Sh
