/-
  The document's own side of layer 2: Tag, by contract.
-/
import Derived.Test.YtdmglanepjhdoaaDoorMcRows
import Derived.Test.YtdmglanepjhdoaaDoorShApp2
import Derived.Test.YtdmglanepjhdoaaDoorMcTag
namespace Go.Proofs.YtdmglanepjhdoaaDoor.Sh
open Go Go.RowKit
attribute [local irreducible] sha hexOf absorb sched rounds keyPad hmac

theorem xorAll_snoc {k : List UInt8} {j : Nat} {x y : UInt8} (h : k[j]? = some y) : xorAll (k.take (j + 1)) x = xorAll (k.take j) x ++ [y ^^^ x] := by
  unfold xorAll
  rw [take_snoc_of h]; simp
theorem hmac_eq' (key data : List UInt8) : hmac key data = sha (xorAll (keyPad key) 92 ++ sha (xorAll (keyPad key) 54 ++ data)) := by unfold hmac; rfl
theorem xor54 (y : UInt8) : bits .xor .u8 (y.toNat : Int) 54 = ((y ^^^ 54).toNat : Int) := b_xor y 54
theorem xor92 (y : UInt8) : bits .xor .u8 (y.toNat : Int) 92 = ((y ^^^ 92).toNat : Int) := b_xor y 92
set_option maxRecDepth 100000 in
set_option maxHeartbeats 4000000 in
theorem refTag_any (A D : Option Addr) (key data : List UInt8) (n c m dc : Nat) (hn : key.length = n) (hL : n ≤ 1099511627776) (hm : data.length = m) (hmL : 64 + m ≤ 1099511627776)
    (w : World) (hb : Byt w w.heap.size A key) (hd : Byt w w.heap.size D data) :
    Calls Tryd.prog 24 #[.slice A n c, .slice D m dc] w fun e w' => ∃ A' c', e = .returned (.slice A' 32 c') ∧ 32 ≤ c' ∧ c' ≤ 9223372036854775807 ∧ OwnB w' w.heap.size (.slice A' 32 c') 32 (hmac key data) ∧ Below w.heap.size w w' := by
  have HME := hid (hmac_eq' key data)
  have HXL := hid (fun x => (xorAll_length (keyPad key) x).trans (keyPad_length key))
  have HKL := hid (keyPad_length key)
  have HSL := hid (fun l => sha_length l)
  have HM := hid hm
  have HN := hid hn
  clear hm
  by_cases h64 : 64 < n
  · have HK : Hid (keyPad key = sha key ++ List.replicate (64 - 32) 0) := hid (by unfold keyPad; rw [if_pos (by omega), sha_length])
    have HS := hid (refSum_at A key n c hn hL w hb)
    clear hn
    go_enter Tryd.func24, Tryd.ntmps24
    go_wp2_with fail
    refine HS.out.mono ?_
    rintro er w1 ⟨A1, c1, rfl, hc1, y1, b1, _⟩
    clear HS
    go_wp2_with (at_builtin; (refine wpList_appB rfl (.tmp 12) (.tmp 14) rfl w.heap.size (.slice none 0 0) 0 [] (OwnB.nil _ _) rfl A1 32 c1 (sha key) rfl (HSL.out _) y1.reads (by omega) b1.size w b1 32 (by omega) ?_; intro A2 c2 w2 o2 _ b2; clear b1))
    obtain ⟨k0, hk0⟩ : ∃ k0, k0 = sha key := ⟨_, rfl⟩
    rw [← hk0] at HK o2
    have o2' : OwnB w2 w.heap.size (.slice A2 32 c2) 32 k0 := o2
    clear hk0 y1 o2
    go_loopw [5] (fun v wr => ∃ (A : Option Addr) (N c z : Nat), v = .slice A N c ∧ Hid (N = 32 + z) ∧ z ≤ 64 - 32 ∧ OwnB wr w.heap.size v N (k0 ++ List.replicate z 0) ∧ Below w.heap.size w wr) (fun v _ => 64 - lenV v)
    case atStart => exact ⟨A2, 32, c2, 0, rfl, hid rfl, Nat.zero_le _, by simpa using o2', b2⟩
    case round =>
      clear o2' b2
      obtain ⟨A3, N, c3, z, rfl, hN, hz, own, bel⟩ := hrel
      by_cases hlt : z < 64 - 32
      · have hNb : N < 64 := by have := hN.out; omega
        go_wp2_with (at_builtin; (refine wpList_appB rfl (.tmp 22) (.tmp 23) rfl w.heap.size (.slice A3 N c3) N _ (OwnB.alloc own _) rfl (some ⟨wr.heap.size, 0, none⟩) 1 1 [0] rfl rfl (reads_one wr 0 _ _) (by omega) (le_alloc bel.size _) w (bel.alloc bel.size _) (N + 1) (by omega) ?_; intro A4 c4 w4 own4 _ bel4))
        have HR : Hid (OwnB w4 w.heap.size (.slice A4 (N + 1) c4) (N + 1) (k0 ++ List.replicate (z + 1) 0)) := hid (by
          rw [List.replicate_succ', ← List.append_assoc]; exact own4)
        clear own4 own bel
        go_roundw
        case rel => exact ⟨A4, N + 1, c4, z + 1, rfl, hid (by rw [hN.out]; omega), by omega, HR.out, bel4⟩
        case measure => simp [lenV]; omega
      · have hzf : z = 64 - 32 := by omega
        have hN64 : N = 64 := by have := hN.out; omega
        subst hN64
        rw [hzf, ← HK.out] at own
        clear hzf hN
        have kb := own.byt
        obtain ⟨wb, hwb⟩ : ∃ wb, wb = wr := ⟨_, rfl⟩
        subst hwb
        clear own
        go_wp2
        go_loopw [6, 7, 8] (fun vi vo i wq => ∃ (j : Nat) (A5 A6 : Option Addr) (c5 c6 : Nat), j ≤ 64 ∧ i = .int .i64 j ∧ vi = .slice A5 j c5 ∧ vo = .slice A6 j c6 ∧ OwnB wq wb.heap.size vi j (xorAll ((keyPad key).take j) 54) ∧ OwnB wq wb.heap.size vo j (xorAll ((keyPad key).take j) 92) ∧ Apart vi vo ∧ Below wb.heap.size wb wq) (fun _ _ i _ => 64 - (intOf i).toNat)
        case atStart => exact ⟨0, none, none, 0, 0, by omega, rfl, rfl, rfl, OwnB.nil _ _, OwnB.nil _ _, Apart.nil _, Below.refl _ _⟩
        case round =>
          obtain ⟨j, A5, A6, c5, c6, hj, rfl, rfl, rfl, oi, oo, hap, bq⟩ := hrel
          by_cases hlt : j < 64
          · obtain ⟨ad, y, rfl, had, hy, hcy⟩ := (kb.below bq).get (k := j) (by rw [HKL.out]; exact hlt)
            obtain ⟨x5, hx5⟩ : ∃ x, x = y ^^^ 54 := ⟨_, rfl⟩
            obtain ⟨x9, hx9⟩ : ∃ x, x = y ^^^ 92 := ⟨_, rfl⟩
            have e5 := xor54 y
            have e9 := xor92 y
            rw [← hx5] at e5
            rw [← hx9] at e9
            have HY := hid (And.intro hy (And.intro hx5 hx9))
            have hk0 : (0 : Int) ≤ (j : Int) := Int.natCast_nonneg _
            have hk1 : (j : Int) < 64 := by omega
            clear hy hx5 hx9
            go_wp2_with (at_builtin; first
              | (refine wpList_appB2 rfl (.tmp 29) (.tmp 35) rfl wb.heap.size (.slice A5 j c5) j _ (OwnB.alloc oi _) rfl (some ⟨wr.heap.size, 0, none⟩) 1 1 [x5] rfl rfl (reads_one wr x5 _ _) (by omega) (le_alloc bq.size _) wb (bq.alloc bq.size _) (j + 1) (by omega) ?_
                 intro A7 c7 w7 oi7 gr7 b7 at7
                 have oo7 : OwnB w7 wb.heap.size (.slice A6 j c6) j _ := Apart.kept (OwnB.alloc oo _) gr7 hap
                 have hap7 : Apart (.slice A7 (j + 1) c7) (.slice A6 j c6) := Apart.app hap (OwnB.alloc oo _) at7
                 have hcy7 : w7.cell? (ad.add j) = some (.int .u8 y.toNat) := (b7.cell (by rw [block_add]; exact had)).trans ((bq.cell (by rw [block_add]; exact had)).symm.trans hcy)
                 clear gr7 at7 oi oo hap hcy)
              | (refine wpList_appB2 rfl (.tmp 37) (.tmp 43) rfl wb.heap.size (.slice A6 j c6) j _ (OwnB.alloc oo7 _) rfl (some ⟨w7.heap.size, 0, none⟩) 1 1 [x9] rfl rfl (reads_one w7 x9 _ _) (by omega) (le_alloc b7.size _) wb (b7.alloc b7.size _) (j + 1) (by omega) ?_
                 intro A8 c8 w8 oo8 gr8 b8 at8
                 have oi8 : OwnB w8 wb.heap.size (.slice A7 (j + 1) c7) (j + 1) _ := Apart.kept (OwnB.alloc oi7 _) gr8 hap7.symm
                 have hap8 : Apart (.slice A7 (j + 1) c7) (.slice A8 (j + 1) c8) := (Apart.app hap7.symm (OwnB.alloc oi7 _) at8).symm
                 clear gr8 at8 oi7 oo7 hap7 hcy7 b7))
            have HI : Hid (OwnB w8 wb.heap.size (.slice A7 (j + 1) c7) (j + 1) (xorAll ((keyPad key).take (j + 1)) 54)) := hid (by
              rw [xorAll_snoc HY.out.1, ← HY.out.2.1]; exact oi8)
            have HO : Hid (OwnB w8 wb.heap.size (.slice A8 (j + 1) c8) (j + 1) (xorAll ((keyPad key).take (j + 1)) 92)) := hid (by
              rw [xorAll_snoc HY.out.1, ← HY.out.2.2]; exact oo8)
            clear oi8 oo8 e5 e9 bq
            go_roundw
            case rel => exact ⟨j + 1, A7, A8, c7, c8, by omega, by go_num, rfl, rfl, HI.out, HO.out, hap8, b8⟩
            case measure => simp [intOf]; omega
          · obtain rfl : j = 64 := by omega
            rw [List.take_of_length_le (by rw [HKL.out]; omega)] at oi oo
            have bw : Below w.heap.size w wr := bel.trans (bq.mono bel.size)
            have hdw := ((hd.below bw).more bw.size).reads
            have HRS := hid (fun A' c' N l W (hl : l.length = N) (hN : N ≤ 1099511627776) (hB : Byt W W.heap.size A' l) => refSum_at A' l N c' hl hN W hB)
            clear kb hd
            go_wp2_with (at_builtin; (refine wpList_appB2 rfl (.tmp 45) (.tmp 46) rfl wb.heap.size (.slice A5 64 c5) 64 _ oi rfl D m dc data rfl HM.out hdw (by omega) bq.size wb bq (64 + m) rfl ?_
                                      intro A7 c7 w7 oi7 gr7 b7 _
                                      have oo7 : OwnB w7 wb.heap.size (.slice A6 64 c6) 64 _ := Apart.kept oo gr7 hap
                                      have hl7 := hid oi7.len
                                      have hy7 := oi7.byt
                                      clear gr7 oi oo hap hdw bw bq))
            refine (HRS.out A7 c7 (64 + m) _ w7 hl7.out (by omega) hy7).mono ?_
            rintro er w8 ⟨A8, c8, rfl, hc8, y8, b8, _⟩
            have oo8 := oo7.below b8
            have b08 := b7.trans (b8.mono b7.size)
            have hr8 := y8.reads
            clear oo7 oi7 hy7 b8 b7 y8 hl7
            go_wp2_with (at_builtin; (refine wpList_appB rfl (.tmp 48) (.tmp 50) rfl wb.heap.size (.slice A6 64 c6) 64 _ oo8 rfl A8 32 c8 _ rfl (HSL.out _) hr8 (by omega) b08.size wb b08 96 rfl ?_
                                      intro A9 c9 w9 o9 _ b9
                                      clear oo8 hr8 b08))
            have hl9 := hid o9.len
            have hy9 := o9.byt
            clear o9
            have bww : Below w.heap.size w w9 := bel.trans (b9.mono bel.size)
            clear b9
            go_wp2_with fail
            refine (HRS.out A9 c9 96 _ w9 hl9.out (by omega) hy9).mono ?_
            rintro er w10 ⟨A10, c10, rfl, hc10, _, b10, o10⟩
            have b010 := bww.trans (b10.mono bww.size)
            have hcm : c10 ≤ 9223372036854775807 := OwnB.cap_max o10
            have hfin : Hid (OwnB w10 w.heap.size (.slice A10 32 c10) 32 (hmac key data)) := hid (by
              rw [HME.out]
              exact OwnB.mono o10 bww.size)
            clear o10 b10 bww hl9 hy9
            go_wp2
            go_ret
            exact ⟨A10, c10, rfl, hc10, hcm, hfin.out, b010⟩
  · have HK : Hid (keyPad key = key ++ List.replicate (64 - n) 0) := hid (by unfold keyPad; rw [if_neg (by omega), hn])
    go_enter Tryd.func24, Tryd.ntmps24
    go_wp2_with (at_builtin; (refine wpList_appB rfl (.tmp 16) (.tmp 17) rfl w.heap.size (.slice none 0 0) 0 [] (OwnB.nil _ _) rfl A n c key rfl HN.out hb.reads (by omega) (Nat.le_refl _) w (Below.refl _ _) n (by omega) ?_; intro A2 c2 w2 o2 _ b2))
    have o2' : OwnB w2 w.heap.size (.slice A2 n c2) n key := o2
    clear o2 hn
    go_loopw [5] (fun v wr => ∃ (A : Option Addr) (N c z : Nat), v = .slice A N c ∧ Hid (N = n + z) ∧ z ≤ 64 - n ∧ OwnB wr w.heap.size v N (key ++ List.replicate z 0) ∧ Below w.heap.size w wr) (fun v _ => 64 - lenV v)
    case atStart => exact ⟨A2, n, c2, 0, rfl, hid rfl, Nat.zero_le _, by simpa using o2', b2⟩
    case round =>
      clear o2' b2
      obtain ⟨A3, N, c3, z, rfl, hN, hz, own, bel⟩ := hrel
      by_cases hlt : z < 64 - n
      · have hNb : N < 64 := by have := hN.out; omega
        go_wp2_with (at_builtin; (refine wpList_appB rfl (.tmp 22) (.tmp 23) rfl w.heap.size (.slice A3 N c3) N _ (OwnB.alloc own _) rfl (some ⟨wr.heap.size, 0, none⟩) 1 1 [0] rfl rfl (reads_one wr 0 _ _) (by omega) (le_alloc bel.size _) w (bel.alloc bel.size _) (N + 1) (by omega) ?_; intro A4 c4 w4 own4 _ bel4))
        have HR : Hid (OwnB w4 w.heap.size (.slice A4 (N + 1) c4) (N + 1) (key ++ List.replicate (z + 1) 0)) := hid (by
          rw [List.replicate_succ', ← List.append_assoc]; exact own4)
        clear own4 own bel
        go_roundw
        case rel => exact ⟨A4, N + 1, c4, z + 1, rfl, hid (by rw [hN.out]; omega), by omega, HR.out, bel4⟩
        case measure => simp [lenV]; omega
      · have hzf : z = 64 - n := by omega
        have hN64 : N = 64 := by have := hN.out; omega
        subst hN64
        rw [hzf, ← HK.out] at own
        clear hzf hN
        have kb := own.byt
        obtain ⟨wb, hwb⟩ : ∃ wb, wb = wr := ⟨_, rfl⟩
        subst hwb
        clear own
        go_wp2
        go_loopw [6, 7, 8] (fun vi vo i wq => ∃ (j : Nat) (A5 A6 : Option Addr) (c5 c6 : Nat), j ≤ 64 ∧ i = .int .i64 j ∧ vi = .slice A5 j c5 ∧ vo = .slice A6 j c6 ∧ OwnB wq wb.heap.size vi j (xorAll ((keyPad key).take j) 54) ∧ OwnB wq wb.heap.size vo j (xorAll ((keyPad key).take j) 92) ∧ Apart vi vo ∧ Below wb.heap.size wb wq) (fun _ _ i _ => 64 - (intOf i).toNat)
        case atStart => exact ⟨0, none, none, 0, 0, by omega, rfl, rfl, rfl, OwnB.nil _ _, OwnB.nil _ _, Apart.nil _, Below.refl _ _⟩
        case round =>
          obtain ⟨j, A5, A6, c5, c6, hj, rfl, rfl, rfl, oi, oo, hap, bq⟩ := hrel
          by_cases hlt : j < 64
          · obtain ⟨ad, y, rfl, had, hy, hcy⟩ := (kb.below bq).get (k := j) (by rw [HKL.out]; exact hlt)
            obtain ⟨x5, hx5⟩ : ∃ x, x = y ^^^ 54 := ⟨_, rfl⟩
            obtain ⟨x9, hx9⟩ : ∃ x, x = y ^^^ 92 := ⟨_, rfl⟩
            have e5 := xor54 y
            have e9 := xor92 y
            rw [← hx5] at e5
            rw [← hx9] at e9
            have HY := hid (And.intro hy (And.intro hx5 hx9))
            have hk0 : (0 : Int) ≤ (j : Int) := Int.natCast_nonneg _
            have hk1 : (j : Int) < 64 := by omega
            clear hy hx5 hx9
            go_wp2_with (at_builtin; first
              | (refine wpList_appB2 rfl (.tmp 29) (.tmp 35) rfl wb.heap.size (.slice A5 j c5) j _ (OwnB.alloc oi _) rfl (some ⟨wr.heap.size, 0, none⟩) 1 1 [x5] rfl rfl (reads_one wr x5 _ _) (by omega) (le_alloc bq.size _) wb (bq.alloc bq.size _) (j + 1) (by omega) ?_
                 intro A7 c7 w7 oi7 gr7 b7 at7
                 have oo7 : OwnB w7 wb.heap.size (.slice A6 j c6) j _ := Apart.kept (OwnB.alloc oo _) gr7 hap
                 have hap7 : Apart (.slice A7 (j + 1) c7) (.slice A6 j c6) := Apart.app hap (OwnB.alloc oo _) at7
                 have hcy7 : w7.cell? (ad.add j) = some (.int .u8 y.toNat) := (b7.cell (by rw [block_add]; exact had)).trans ((bq.cell (by rw [block_add]; exact had)).symm.trans hcy)
                 clear gr7 at7 oi oo hap hcy)
              | (refine wpList_appB2 rfl (.tmp 37) (.tmp 43) rfl wb.heap.size (.slice A6 j c6) j _ (OwnB.alloc oo7 _) rfl (some ⟨w7.heap.size, 0, none⟩) 1 1 [x9] rfl rfl (reads_one w7 x9 _ _) (by omega) (le_alloc b7.size _) wb (b7.alloc b7.size _) (j + 1) (by omega) ?_
                 intro A8 c8 w8 oo8 gr8 b8 at8
                 have oi8 : OwnB w8 wb.heap.size (.slice A7 (j + 1) c7) (j + 1) _ := Apart.kept (OwnB.alloc oi7 _) gr8 hap7.symm
                 have hap8 : Apart (.slice A7 (j + 1) c7) (.slice A8 (j + 1) c8) := (Apart.app hap7.symm (OwnB.alloc oi7 _) at8).symm
                 clear gr8 at8 oi7 oo7 hap7 hcy7 b7))
            have HI : Hid (OwnB w8 wb.heap.size (.slice A7 (j + 1) c7) (j + 1) (xorAll ((keyPad key).take (j + 1)) 54)) := hid (by
              rw [xorAll_snoc HY.out.1, ← HY.out.2.1]; exact oi8)
            have HO : Hid (OwnB w8 wb.heap.size (.slice A8 (j + 1) c8) (j + 1) (xorAll ((keyPad key).take (j + 1)) 92)) := hid (by
              rw [xorAll_snoc HY.out.1, ← HY.out.2.2]; exact oo8)
            clear oi8 oo8 e5 e9 bq
            go_roundw
            case rel => exact ⟨j + 1, A7, A8, c7, c8, by omega, by go_num, rfl, rfl, HI.out, HO.out, hap8, b8⟩
            case measure => simp [intOf]; omega
          · obtain rfl : j = 64 := by omega
            rw [List.take_of_length_le (by rw [HKL.out]; omega)] at oi oo
            have bw : Below w.heap.size w wr := bel.trans (bq.mono bel.size)
            have hdw := ((hd.below bw).more bw.size).reads
            have HRS := hid (fun A' c' N l W (hl : l.length = N) (hN : N ≤ 1099511627776) (hB : Byt W W.heap.size A' l) => refSum_at A' l N c' hl hN W hB)
            clear kb hd
            go_wp2_with (at_builtin; (refine wpList_appB2 rfl (.tmp 45) (.tmp 46) rfl wb.heap.size (.slice A5 64 c5) 64 _ oi rfl D m dc data rfl HM.out hdw (by omega) bq.size wb bq (64 + m) rfl ?_
                                      intro A7 c7 w7 oi7 gr7 b7 _
                                      have oo7 : OwnB w7 wb.heap.size (.slice A6 64 c6) 64 _ := Apart.kept oo gr7 hap
                                      have hl7 := hid oi7.len
                                      have hy7 := oi7.byt
                                      clear gr7 oi oo hap hdw bw bq))
            refine (HRS.out A7 c7 (64 + m) _ w7 hl7.out (by omega) hy7).mono ?_
            rintro er w8 ⟨A8, c8, rfl, hc8, y8, b8, _⟩
            have oo8 := oo7.below b8
            have b08 := b7.trans (b8.mono b7.size)
            have hr8 := y8.reads
            clear oo7 oi7 hy7 b8 b7 y8 hl7
            go_wp2_with (at_builtin; (refine wpList_appB rfl (.tmp 48) (.tmp 50) rfl wb.heap.size (.slice A6 64 c6) 64 _ oo8 rfl A8 32 c8 _ rfl (HSL.out _) hr8 (by omega) b08.size wb b08 96 rfl ?_
                                      intro A9 c9 w9 o9 _ b9
                                      clear oo8 hr8 b08))
            have hl9 := hid o9.len
            have hy9 := o9.byt
            clear o9
            have bww : Below w.heap.size w w9 := bel.trans (b9.mono bel.size)
            clear b9
            go_wp2_with fail
            refine (HRS.out A9 c9 96 _ w9 hl9.out (by omega) hy9).mono ?_
            rintro er w10 ⟨A10, c10, rfl, hc10, _, b10, o10⟩
            have b010 := bww.trans (b10.mono bww.size)
            have hcm : c10 ≤ 9223372036854775807 := OwnB.cap_max o10
            have hfin : Hid (OwnB w10 w.heap.size (.slice A10 32 c10) 32 (hmac key data)) := hid (by
              rw [HME.out]
              exact OwnB.mono o10 bww.size)
            clear o10 b10 bww hl9 hy9
            go_wp2
            go_ret
            exact ⟨A10, c10, rfl, hc10, hcm, hfin.out, b010⟩
end Go.Proofs.YtdmglanepjhdoaaDoor.Sh
