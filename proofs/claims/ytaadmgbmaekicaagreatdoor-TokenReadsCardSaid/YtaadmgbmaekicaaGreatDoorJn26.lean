/-
  The document's own side of layer 2: Tag, by contract.
-/
import Derived.Test.YtaadmgbmaekicaaGreatDoorJn25
import Derived.Test.YtaadmgbmaekicaaGreatDoorJn16
import Derived.Test.YtaadmgbmaekicaaGreatDoorJn7
set_option linter.unusedVariables false
set_option linter.unusedSimpArgs false
namespace Go.Proofs.YtaadmgbmaekicaaGreatDoor.Sh
open Go Go.RowKit
attribute [local irreducible] sha hexOf absorb sched rounds keyPad hmac

theorem xorAll_snoc {k : List UInt8} {j : Nat} {x y : UInt8} (h : k[j]? = some y) : xorAll (k.take (j + 1)) x = xorAll (k.take j) x ++ [y ^^^ x] := by
  unfold xorAll
  rw [take_snoc_of h]; simp
theorem hmac_eq' (key data : List UInt8) : hmac key data = sha (xorAll (keyPad key) 92 ++ sha (xorAll (keyPad key) 54 ++ data)) := by unfold hmac; rfl
theorem xor54 (y : UInt8) : bits .xor .u8 (y.toNat : Int) 54 = ((y ^^^ 54).toNat : Int) := b_xor y 54
theorem xor92 (y : UInt8) : bits .xor .u8 (y.toNat : Int) 92 = ((y ^^^ 92).toNat : Int) := b_xor y 92
set_option maxRecDepth 100000 in
set_option maxHeartbeats 4000000 in
theorem refTag_any (A D : Option Addr) (key data : List UInt8) (n c m dc : Nat) (hn : key.length = n) (hL : n ≤ 1099511627776) (hm : data.length = m) (hmL : 64 + m ≤ 1099511627776)
    (w : World) (hb : Byt w w.heap.size A key) (hd : Byt w w.heap.size D data) :
    Calls Tryz.prog 23 #[.slice A n c, .slice D m dc] w fun e w' => ∃ A' c', e = .returned (.slice A' 32 c') ∧ 32 ≤ c' ∧ c' ≤ 9223372036854775807 ∧ OwnB w' w.heap.size (.slice A' 32 c') 32 (hmac key data) ∧ Below w.heap.size w w' := by
  have HME := hid (hmac_eq' key data)
  have HXL := hid (fun x => (xorAll_length (keyPad key) x).trans (keyPad_length key))
  have HKL := hid (keyPad_length key)
  have HSL := hid (fun l => sha_length l)
  have HM := hid hm
  have HN := hid hn
  clear hm
  by_cases h64 : 64 < n
  · have HK : Hid (keyPad key = sha key ++ List.replicate (64 - 32) 0) := hid (by unfold keyPad; rw [if_pos (by omega), sha_length])
    have HS := hid (refSum_at A key n c hn hL w hb)
    clear hn
    go_enter Tryz.func23, Tryz.ntmps23
    go_wp2_with fail
    refine HS.out.mono ?_
    rintro er w1 ⟨A1, c1, rfl, hc1, y1, b1, _⟩
    clear HS
    go_wp2_with (at_builtin; (refine wpList_appB rfl (.tmp 12) (.tmp 14) rfl w.heap.size (.slice none 0 0) 0 [] (OwnB.nil _ _) rfl A1 32 c1 (sha key) rfl (HSL.out _) y1.reads (by omega) b1.size w b1 32 (by omega) ?_; intro A2 c2 w2 o2 _ b2; clear b1))
    obtain ⟨k0, hk0⟩ : ∃ k0, k0 = sha key := ⟨_, rfl⟩
    rw [← hk0] at HK o2
    have o2' : OwnB w2 w.heap.size (.slice A2 32 c2) 32 k0 := o2
    clear hk0 y1 o2
    go_loopw [5] (fun v wr => ∃ (A : Option Addr) (N c z : Nat), v = .slice A N c ∧ Hid (N = 32 + z) ∧ z ≤ 64 - 32 ∧ OwnB wr w.heap.size v N (k0 ++ List.replicate z 0) ∧ Below w.heap.size w wr) (fun v _ => 64 - lenV v)
    case atStart => exact ⟨A2, 32, c2, 0, rfl, hid rfl, Nat.zero_le _, by simpa using o2', b2⟩
    case round =>
      clear o2' b2
      obtain ⟨A3, N, c3, z, rfl, hN, hz, own, bel⟩ := hrel
      by_cases hlt : z < 64 - 32
      · have hNb : N < 64 := by have := hN.out; omega
        go_wp2_with (at_builtin; (refine wpList_appB rfl (.tmp 22) (.tmp 23) rfl w.heap.size (.slice A3 N c3) N _ (OwnB.alloc own _) rfl (some ⟨wr.heap.size, 0, none⟩) 1 1 [0] rfl rfl (reads_one wr 0 _ _) (by omega) (le_alloc bel.size _) w (bel.alloc bel.size _) (N + 1) (by omega) ?_; intro A4 c4 w4 own4 _ bel4))
        have HR : Hid (OwnB w4 w.heap.size (.slice A4 (N + 1) c4) (N + 1) (k0 ++ List.replicate (z + 1) 0)) := hid (by
          rw [List.replicate_succ', ← List.append_assoc]; exact own4)
        clear own4 own bel
        go_roundw
        case rel => exact ⟨A4, N + 1, c4, z + 1, rfl, hid (by rw [hN.out]; omega), by omega, HR.out, bel4⟩
        case measure => simp [lenV]; omega
      · have hzf : z = 64 - 32 := by omega
        have hN64 : N = 64 := by have := hN.out; omega
        subst hN64
        rw [hzf, ← HK.out] at own
        clear hzf hN
        have kb := own.byt
        obtain ⟨wb, hwb⟩ : ∃ wb, wb = wr := ⟨_, rfl⟩
        subst hwb
        clear own
        go_wp2
        go_loopw [6, 7, 8] (fun vi vo i wq => ∃ (j : Nat) (A5 A6 : Option Addr) (c5 c6 : Nat), j ≤ 64 ∧ i = .int .i64 j ∧ vi = .slice A5 j c5 ∧ vo = .slice A6 j c6 ∧ OwnB wq wb.heap.size vi j (xorAll ((keyPad key).take j) 54) ∧ OwnB wq wb.heap.size vo j (xorAll ((keyPad key).take j) 92) ∧ Apart vi vo ∧ Below wb.heap.size wb wq) (fun _ _ i _ => 64 - (intOf i).toNat)
        case atStart => exact ⟨0, none, none, 0, 0, by omega, rfl, rfl, rfl, OwnB.nil _ _, OwnB.nil _ _, Apart.nil _, Below.refl _ _⟩
        case round =>
          obtain ⟨j, A5, A6, c5, c6, hj, rfl, rfl, rfl, oi, oo, hap, bq⟩ := hrel
          by_cases hlt : j < 64
          · obtain ⟨ad, y, rfl, had, hy, hcy⟩ := (kb.below bq).get (k := j) (by rw [HKL.out]; exact hlt)
            obtain ⟨x5, hx5⟩ : ∃ x, x = y ^^^ 54 := ⟨_, rfl⟩
            obtain ⟨x9, hx9⟩ : ∃ x, x = y ^^^ 92 := ⟨_, rfl⟩
            have e5 := xor54 y
            have e9 := xor92 y
            rw [← hx5] at e5
            rw [← hx9] at e9
            have HY := hid (And.intro hy (And.intro hx5 hx9))
            have hk0 : (0 : Int) ≤ (j : Int) := Int.natCast_nonneg _
            have hk1 : (j : Int) < 64 := by omega
            clear hy hx5 hx9
            go_wp2_with (at_builtin; first
              | (refine wpList_appB2 rfl (.tmp 29) (.tmp 35) rfl wb.heap.size (.slice A5 j c5) j _ (OwnB.alloc oi _) rfl (some ⟨wr.heap.size, 0, none⟩) 1 1 [x5] rfl rfl (reads_one wr x5 _ _) (by omega) (le_alloc bq.size _) wb (bq.alloc bq.size _) (j + 1) (by omega) ?_
                 intro A7 c7 w7 oi7 gr7 b7 at7
                 have oo7 : OwnB w7 wb.heap.size (.slice A6 j c6) j _ := Apart.kept (OwnB.alloc oo _) gr7 hap
                 have hap7 : Apart (.slice A7 (j + 1) c7) (.slice A6 j c6) := Apart.app hap (OwnB.alloc oo _) at7
                 have hcy7 : w7.cell? (ad.add j) = some (.int .u8 y.toNat) := (b7.cell (by rw [block_add]; exact had)).trans ((bq.cell (by rw [block_add]; exact had)).symm.trans hcy)
                 clear gr7 at7 oi oo hap hcy)
              | (refine wpList_appB2 rfl (.tmp 37) (.tmp 43) rfl wb.heap.size (.slice A6 j c6) j _ (OwnB.alloc oo7 _) rfl (some ⟨w7.heap.size, 0, none⟩) 1 1 [x9] rfl rfl (reads_one w7 x9 _ _) (by omega) (le_alloc b7.size _) wb (b7.alloc b7.size _) (j + 1) (by omega) ?_
                 intro A8 c8 w8 oo8 gr8 b8 at8
                 have oi8 : OwnB w8 wb.heap.size (.slice A7 (j + 1) c7) (j + 1) _ := Apart.kept (OwnB.alloc oi7 _) gr8 hap7.symm
                 have hap8 : Apart (.slice A7 (j + 1) c7) (.slice A8 (j + 1) c8) := (Apart.app hap7.symm (OwnB.alloc oi7 _) at8).symm
                 clear gr8 at8 oi7 oo7 hap7 hcy7 b7))
            have HI : Hid (OwnB w8 wb.heap.size (.slice A7 (j + 1) c7) (j + 1) (xorAll ((keyPad key).take (j + 1)) 54)) := hid (by
              rw [xorAll_snoc HY.out.1, ← HY.out.2.1]; exact oi8)
            have HO : Hid (OwnB w8 wb.heap.size (.slice A8 (j + 1) c8) (j + 1) (xorAll ((keyPad key).take (j + 1)) 92)) := hid (by
              rw [xorAll_snoc HY.out.1, ← HY.out.2.2]; exact oo8)
            clear oi8 oo8 e5 e9 bq
            go_roundw
            case rel => exact ⟨j + 1, A7, A8, c7, c8, by omega, by go_num, rfl, rfl, HI.out, HO.out, hap8, b8⟩
            case measure => simp [intOf]; omega
          · obtain rfl : j = 64 := by omega
            rw [List.take_of_length_le (by rw [HKL.out]; omega)] at oi oo
            have bw : Below w.heap.size w wr := bel.trans (bq.mono bel.size)
            have hdw := ((hd.below bw).more bw.size).reads
            have HRS := hid (fun A' c' N l W (hl : l.length = N) (hN : N ≤ 1099511627776) (hB : Byt W W.heap.size A' l) => refSum_at A' l N c' hl hN W hB)
            clear kb hd
            go_wp2_with (at_builtin; (refine wpList_appB2 rfl (.tmp 45) (.tmp 46) rfl wb.heap.size (.slice A5 64 c5) 64 _ oi rfl D m dc data rfl HM.out hdw (by omega) bq.size wb bq (64 + m) rfl ?_
                                      intro A7 c7 w7 oi7 gr7 b7 _
                                      have oo7 : OwnB w7 wb.heap.size (.slice A6 64 c6) 64 _ := Apart.kept oo gr7 hap
                                      have hl7 := hid oi7.len
                                      have hy7 := oi7.byt
                                      clear gr7 oi oo hap hdw bw bq))
            refine (HRS.out A7 c7 (64 + m) _ w7 hl7.out (by omega) hy7).mono ?_
            rintro er w8 ⟨A8, c8, rfl, hc8, y8, b8, _⟩
            have oo8 := oo7.below b8
            have b08 := b7.trans (b8.mono b7.size)
            have hr8 := y8.reads
            clear oo7 oi7 hy7 b8 b7 y8 hl7
            go_wp2_with (at_builtin; (refine wpList_appB rfl (.tmp 48) (.tmp 50) rfl wb.heap.size (.slice A6 64 c6) 64 _ oo8 rfl A8 32 c8 _ rfl (HSL.out _) hr8 (by omega) b08.size wb b08 96 rfl ?_
                                      intro A9 c9 w9 o9 _ b9
                                      clear oo8 hr8 b08))
            have hl9 := hid o9.len
            have hy9 := o9.byt
            clear o9
            have bww : Below w.heap.size w w9 := bel.trans (b9.mono bel.size)
            clear b9
            go_wp2_with fail
            refine (HRS.out A9 c9 96 _ w9 hl9.out (by omega) hy9).mono ?_
            rintro er w10 ⟨A10, c10, rfl, hc10, _, b10, o10⟩
            have b010 := bww.trans (b10.mono bww.size)
            have hcm : c10 ≤ 9223372036854775807 := OwnB.cap_max o10
            have hfin : Hid (OwnB w10 w.heap.size (.slice A10 32 c10) 32 (hmac key data)) := hid (by
              rw [HME.out]
              exact OwnB.mono o10 bww.size)
            clear o10 b10 bww hl9 hy9
            go_wp2
            go_ret
            exact ⟨A10, c10, rfl, hc10, hcm, hfin.out, b010⟩
  · have HK : Hid (keyPad key = key ++ List.replicate (64 - n) 0) := hid (by unfold keyPad; rw [if_neg (by omega), hn])
    go_enter Tryz.func23, Tryz.ntmps23
    go_wp2_with (at_builtin; (refine wpList_appB rfl (.tmp 16) (.tmp 17) rfl w.heap.size (.slice none 0 0) 0 [] (OwnB.nil _ _) rfl A n c key rfl HN.out hb.reads (by omega) (Nat.le_refl _) w (Below.refl _ _) n (by omega) ?_; intro A2 c2 w2 o2 _ b2))
    have o2' : OwnB w2 w.heap.size (.slice A2 n c2) n key := o2
    clear o2 hn
    go_loopw [5] (fun v wr => ∃ (A : Option Addr) (N c z : Nat), v = .slice A N c ∧ Hid (N = n + z) ∧ z ≤ 64 - n ∧ OwnB wr w.heap.size v N (key ++ List.replicate z 0) ∧ Below w.heap.size w wr) (fun v _ => 64 - lenV v)
    case atStart => exact ⟨A2, n, c2, 0, rfl, hid rfl, Nat.zero_le _, by simpa using o2', b2⟩
    case round =>
      clear o2' b2
      obtain ⟨A3, N, c3, z, rfl, hN, hz, own, bel⟩ := hrel
      by_cases hlt : z < 64 - n
      · have hNb : N < 64 := by have := hN.out; omega
        go_wp2_with (at_builtin; (refine wpList_appB rfl (.tmp 22) (.tmp 23) rfl w.heap.size (.slice A3 N c3) N _ (OwnB.alloc own _) rfl (some ⟨wr.heap.size, 0, none⟩) 1 1 [0] rfl rfl (reads_one wr 0 _ _) (by omega) (le_alloc bel.size _) w (bel.alloc bel.size _) (N + 1) (by omega) ?_; intro A4 c4 w4 own4 _ bel4))
        have HR : Hid (OwnB w4 w.heap.size (.slice A4 (N + 1) c4) (N + 1) (key ++ List.replicate (z + 1) 0)) := hid (by
          rw [List.replicate_succ', ← List.append_assoc]; exact own4)
        clear own4 own bel
        go_roundw
        case rel => exact ⟨A4, N + 1, c4, z + 1, rfl, hid (by rw [hN.out]; omega), by omega, HR.out, bel4⟩
        case measure => simp [lenV]; omega
      · have hzf : z = 64 - n := by omega
        have hN64 : N = 64 := by have := hN.out; omega
        subst hN64
        rw [hzf, ← HK.out] at own
        clear hzf hN
        have kb := own.byt
        obtain ⟨wb, hwb⟩ : ∃ wb, wb = wr := ⟨_, rfl⟩
        subst hwb
        clear own
        go_wp2
        go_loopw [6, 7, 8] (fun vi vo i wq => ∃ (j : Nat) (A5 A6 : Option Addr) (c5 c6 : Nat), j ≤ 64 ∧ i = .int .i64 j ∧ vi = .slice A5 j c5 ∧ vo = .slice A6 j c6 ∧ OwnB wq wb.heap.size vi j (xorAll ((keyPad key).take j) 54) ∧ OwnB wq wb.heap.size vo j (xorAll ((keyPad key).take j) 92) ∧ Apart vi vo ∧ Below wb.heap.size wb wq) (fun _ _ i _ => 64 - (intOf i).toNat)
        case atStart => exact ⟨0, none, none, 0, 0, by omega, rfl, rfl, rfl, OwnB.nil _ _, OwnB.nil _ _, Apart.nil _, Below.refl _ _⟩
        case round =>
          obtain ⟨j, A5, A6, c5, c6, hj, rfl, rfl, rfl, oi, oo, hap, bq⟩ := hrel
          by_cases hlt : j < 64
          · obtain ⟨ad, y, rfl, had, hy, hcy⟩ := (kb.below bq).get (k := j) (by rw [HKL.out]; exact hlt)
            obtain ⟨x5, hx5⟩ : ∃ x, x = y ^^^ 54 := ⟨_, rfl⟩
            obtain ⟨x9, hx9⟩ : ∃ x, x = y ^^^ 92 := ⟨_, rfl⟩
            have e5 := xor54 y
            have e9 := xor92 y
            rw [← hx5] at e5
            rw [← hx9] at e9
            have HY := hid (And.intro hy (And.intro hx5 hx9))
            have hk0 : (0 : Int) ≤ (j : Int) := Int.natCast_nonneg _
            have hk1 : (j : Int) < 64 := by omega
            clear hy hx5 hx9
            go_wp2_with (at_builtin; first
              | (refine wpList_appB2 rfl (.tmp 29) (.tmp 35) rfl wb.heap.size (.slice A5 j c5) j _ (OwnB.alloc oi _) rfl (some ⟨wr.heap.size, 0, none⟩) 1 1 [x5] rfl rfl (reads_one wr x5 _ _) (by omega) (le_alloc bq.size _) wb (bq.alloc bq.size _) (j + 1) (by omega) ?_
                 intro A7 c7 w7 oi7 gr7 b7 at7
                 have oo7 : OwnB w7 wb.heap.size (.slice A6 j c6) j _ := Apart.kept (OwnB.alloc oo _) gr7 hap
                 have hap7 : Apart (.slice A7 (j + 1) c7) (.slice A6 j c6) := Apart.app hap (OwnB.alloc oo _) at7
                 have hcy7 : w7.cell? (ad.add j) = some (.int .u8 y.toNat) := (b7.cell (by rw [block_add]; exact had)).trans ((bq.cell (by rw [block_add]; exact had)).symm.trans hcy)
                 clear gr7 at7 oi oo hap hcy)
              | (refine wpList_appB2 rfl (.tmp 37) (.tmp 43) rfl wb.heap.size (.slice A6 j c6) j _ (OwnB.alloc oo7 _) rfl (some ⟨w7.heap.size, 0, none⟩) 1 1 [x9] rfl rfl (reads_one w7 x9 _ _) (by omega) (le_alloc b7.size _) wb (b7.alloc b7.size _) (j + 1) (by omega) ?_
                 intro A8 c8 w8 oo8 gr8 b8 at8
                 have oi8 : OwnB w8 wb.heap.size (.slice A7 (j + 1) c7) (j + 1) _ := Apart.kept (OwnB.alloc oi7 _) gr8 hap7.symm
                 have hap8 : Apart (.slice A7 (j + 1) c7) (.slice A8 (j + 1) c8) := (Apart.app hap7.symm (OwnB.alloc oi7 _) at8).symm
                 clear gr8 at8 oi7 oo7 hap7 hcy7 b7))
            have HI : Hid (OwnB w8 wb.heap.size (.slice A7 (j + 1) c7) (j + 1) (xorAll ((keyPad key).take (j + 1)) 54)) := hid (by
              rw [xorAll_snoc HY.out.1, ← HY.out.2.1]; exact oi8)
            have HO : Hid (OwnB w8 wb.heap.size (.slice A8 (j + 1) c8) (j + 1) (xorAll ((keyPad key).take (j + 1)) 92)) := hid (by
              rw [xorAll_snoc HY.out.1, ← HY.out.2.2]; exact oo8)
            clear oi8 oo8 e5 e9 bq
            go_roundw
            case rel => exact ⟨j + 1, A7, A8, c7, c8, by omega, by go_num, rfl, rfl, HI.out, HO.out, hap8, b8⟩
            case measure => simp [intOf]; omega
          · obtain rfl : j = 64 := by omega
            rw [List.take_of_length_le (by rw [HKL.out]; omega)] at oi oo
            have bw : Below w.heap.size w wr := bel.trans (bq.mono bel.size)
            have hdw := ((hd.below bw).more bw.size).reads
            have HRS := hid (fun A' c' N l W (hl : l.length = N) (hN : N ≤ 1099511627776) (hB : Byt W W.heap.size A' l) => refSum_at A' l N c' hl hN W hB)
            clear kb hd
            go_wp2_with (at_builtin; (refine wpList_appB2 rfl (.tmp 45) (.tmp 46) rfl wb.heap.size (.slice A5 64 c5) 64 _ oi rfl D m dc data rfl HM.out hdw (by omega) bq.size wb bq (64 + m) rfl ?_
                                      intro A7 c7 w7 oi7 gr7 b7 _
                                      have oo7 : OwnB w7 wb.heap.size (.slice A6 64 c6) 64 _ := Apart.kept oo gr7 hap
                                      have hl7 := hid oi7.len
                                      have hy7 := oi7.byt
                                      clear gr7 oi oo hap hdw bw bq))
            refine (HRS.out A7 c7 (64 + m) _ w7 hl7.out (by omega) hy7).mono ?_
            rintro er w8 ⟨A8, c8, rfl, hc8, y8, b8, _⟩
            have oo8 := oo7.below b8
            have b08 := b7.trans (b8.mono b7.size)
            have hr8 := y8.reads
            clear oo7 oi7 hy7 b8 b7 y8 hl7
            go_wp2_with (at_builtin; (refine wpList_appB rfl (.tmp 48) (.tmp 50) rfl wb.heap.size (.slice A6 64 c6) 64 _ oo8 rfl A8 32 c8 _ rfl (HSL.out _) hr8 (by omega) b08.size wb b08 96 rfl ?_
                                      intro A9 c9 w9 o9 _ b9
                                      clear oo8 hr8 b08))
            have hl9 := hid o9.len
            have hy9 := o9.byt
            clear o9
            have bww : Below w.heap.size w w9 := bel.trans (b9.mono bel.size)
            clear b9
            go_wp2_with fail
            refine (HRS.out A9 c9 96 _ w9 hl9.out (by omega) hy9).mono ?_
            rintro er w10 ⟨A10, c10, rfl, hc10, _, b10, o10⟩
            have b010 := bww.trans (b10.mono bww.size)
            have hcm : c10 ≤ 9223372036854775807 := OwnB.cap_max o10
            have hfin : Hid (OwnB w10 w.heap.size (.slice A10 32 c10) 32 (hmac key data)) := hid (by
              rw [HME.out]
              exact OwnB.mono o10 bww.size)
            clear o10 b10 bww hl9 hy9
            go_wp2
            go_ret
            exact ⟨A10, c10, rfl, hc10, hcm, hfin.out, b010⟩
end Go.Proofs.YtaadmgbmaekicaaGreatDoor.Sh
/-
  The document's own Last, Verify, Mint of a token, by contract.
-/
namespace Go.Proofs.YtaadmgbmaekicaaGreatDoor.Sh
open Go Go.RowKit

set_option linter.unusedSimpArgs false
set_option linter.unusedVariables false
theorem headB_le {t : Tok} (ok : OkTok t) : (headB t).length ≤ 3000 := by
  have h1 := enc_len_le (n := t.d.toNat) (by have := ok.d; omega)
  have h2 := enc_len_le (n := t.e.toNat) (by have := ok.e; omega)
  have h3 := enc_len_le (n := t.n.toNat) (by have := ok.n; omega)
  have h4 := encText_le t.who (mayL_size ok.who)
  have h5 := rollsB_le (fun r hr => (role_sizes (ok.roles.ok r hr)).2) ok.roles.len
  have h6 := enc_len_le (n := t.til.toNat) (by have := ok.til; omega)
  have h7 := enc_len_le (n := t.sup.length) (by have := ok.sl; omega)
  have h8 := idsTo_le ok.sup 64
  rw [idsTo_all ok.sl] at h8
  unfold headB
  simp only [List.length_append]
  omega
theorem cavB_le {c : Cav} (ok : OkCav c) : (cavB c).length ≤ 200 := by
  unfold cavB
  rcases ok with ⟨k, h, _⟩ | ⟨k, _, h1, h2, _⟩ | ⟨k, _, _, h⟩
  · rw [if_pos k, List.length_append, k]
    have h5 := rollsB_le (fun r hr => (role_sizes (h.ok r hr)).2) h.len
    have := enc_len_le (n := (1 : Int).toNat) (by omega)
    omega
  · rw [if_neg (by omega), if_pos k, List.length_append, k]
    have := enc_len_le (n := (2 : Int).toNat) (by omega)
    have := enc_len_le (n := c.til.toNat) (by omega)
    omega
  · rw [if_neg (by omega), if_neg (by omega), List.length_append, k]
    have := enc_len_le (n := (3 : Int).toNat) (by omega)
    have := encText_le c.aud (mayL_size h)
    omega
set_option maxHeartbeats 8000000 in
set_option maxRecDepth 100000 in
theorem refLast_any {w : World} {Q : Nat → Prop} {th : TH} {t : Tok} (a : TokAt w Q th t) (ok : OkTok t) (A : Option Addr) (key : List UInt8) (n c : Nat) (hn : key.length = n) (hL : n ≤ 1099511600000) (hb : Byt w w.heap.size A key) :
    Calls Tryz.prog 24 #[.slice A n c, .agg #[.int .i64 th.d, .int .i64 th.e, .int .i64 th.n, .string th.who, .slice th.rA th.rn th.rc, .int .i64 th.til, .slice th.sA th.sn th.sc, .slice th.cA th.cn th.cc, .slice th.tA th.tn th.tc]] w fun e w' => ∃ A' c', e = .returned (.slice A' 32 c') ∧ 32 ≤ c' ∧ c' ≤ 9223372036854775807 ∧ OwnB w' w.heap.size (.slice A' 32 c') 32 (lastT key t) ∧ Below w.heap.size w w' := by
  have HA := hid (fun W (hW : Below w.heap.size w W) => a.below hW)
  have HOK := hid ok
  have HK := hid (fun W (hW : Below w.heap.size w W) => (hb.below hW).more hW.size)
  have HLT : Hid (∀ k, k ≤ t.cavs.length → tagsT (hmac key (headB t)) (t.cavs.take k) = tagsT (hmac key (headB t)) (t.cavs.take k)) := hid (fun _ _ => rfl)
  have HND : Hid (lastT key t = tagsT (hmac key (headB t)) t.cavs) := hid rfl
  have hcl := a.cl
  have hc6 := ok.cl
  obtain ⟨d, e, m, who, rA, rn, rc, til, sA, sn, sc, cA, cn, cc, tA, tn, tc⟩ := th
  simp only at HA hcl ⊢
  have hcn : cn ≤ 6 := by omega
  obtain ⟨w1, hw1⟩ : ∃ y, y = w.alloc (.cells #[.int .i64 d, .int .i64 e, .int .i64 m, .string who, .slice rA rn rc, .int .i64 til, .slice sA sn sc, .slice cA cn cc, .slice tA tn tc] 27) := ⟨_, rfl⟩
  have HB1 : Hid (Below w.heap.size w w1) := hid (by rw [hw1]; exact (Below.refl _ _).alloc (Nat.le_refl _) _)
  have HX1 : Hid (ThAt w1 w.heap.size ⟨d, e, m, who, rA, rn, rc, til, sA, sn, sc, cA, cn, cc, tA, tn, tc⟩) := hid (by rw [hw1]; exact ThAt.new w ⟨d, e, m, who, rA, rn, rc, til, sA, sn, sc, cA, cn, cc, tA, tn, tc⟩)
  have HW1 := hid hw1
  have HC1 := hid (refHead_any (HA.out w1 HB1.out) HOK.out none [] 0 0 rfl (by omega) Byt.nil)
  simp only at HC1
  have HLN := hid hn
  have HCL := hid hcl
  have HHL := hid (headB_le ok)
  obtain ⟨c0, c1, c2, c3, c4, c5, c6, c7, c8⟩ := HX1.out.all
  simp only at c0 c1 c2 c3 c4 c5 c6 c7 c8
  clear a ok hw1 hn hb hcl hc6
  go_enter Tryz.func24, Tryz.ntmps24
  go_upto_region 1 with fail
  rw [← HW1.out]
  go_wp2_with fail
  refine HC1.out.mono ?_
  rintro er w2 hP
  obtain ⟨A2, c2', N2, rfl, hl2, hN2, y2, b2⟩ := hP.open
  rw [List.nil_append] at hl2 y2
  have HX2 := hid (HX1.out.below b2)
  have HB2 := hid (HB1.out.trans (b2.mono HB1.out.size))
  have HC2 := hid (refTag_any A A2 key (headB t) n c N2 c2' HLN.out (by omega) hl2 (by have := HHL.out; omega) w2 (HK.out w2 HB2.out) y2)
  clear hP hl2 hN2 y2 b2 c0 c1 c2 c3 c4 c5 c6 c7 c8 HX1 HB1
  go_wp2_with fail
  refine HC2.out.mono ?_
  rintro er w3 ⟨A3, c3', rfl, q1, q2, o3, b3⟩
  have HX3 := hid (HX2.out.below b3)
  have HB3 := hid (HB2.out.trans (b3.mono HB2.out.size))
  have HO3 : Hid (OwnB w3 w.heap.size (.slice A3 32 c3') 32 (tagsT (hmac key (headB t)) (t.cavs.take 0))) := hid (by simpa [tagsT] using o3.mono HB2.out.size)
  have HQ3 := hid (And.intro q1 q2)
  clear o3 b3 q1 q2 HX2 HB2 HC1 HC2
  go_wp2_with fail
  go_loopw [5, 6] (fun v i wr => ∃ (k c2 : Nat) (A2 : Option Addr), k ≤ cn ∧ v = .slice A2 32 c2 ∧ i = .int .i64 (k : Int) ∧ Hid (32 ≤ c2 ∧ c2 ≤ 9223372036854775807) ∧ Hid (OwnB wr w.heap.size (.slice A2 32 c2) 32 (tagsT (hmac key (headB t)) (t.cavs.take k))) ∧ Hid (ThAt wr w.heap.size ⟨d, e, m, who, rA, rn, rc, til, sA, sn, sc, cA, cn, cc, tA, tn, tc⟩) ∧ Hid (Below w.heap.size w wr)) (fun _ i _ => cn - (intOf i).toNat)
  case atStart => exact ⟨0, c3', A3, Nat.zero_le _, rfl, rfl, HQ3, HO3, HX3, HB3⟩
  case round =>
    clear HO3 HX3 HB3 HQ3
    obtain ⟨wj, hwj⟩ : ∃ x, x = wr := ⟨_, rfl⟩
    subst hwj
    obtain ⟨k, k2, A2, hk, rfl, rfl, HQ, HO, HX, HB⟩ := hrel
    have hk0 : (0 : Int) ≤ (k : Int) := Int.natCast_nonneg _
    obtain ⟨c0, c1, c2, c3, c4, c5, c6, c7, c8⟩ := HX.out.all
    simp only at c0 c1 c2 c3 c4 c5 c6 c7 c8
    by_cases hlt : k < cn
    · have hk1 : (k : Int) < (cn : Int) := by omega
      obtain ⟨cv, hx⟩ : ∃ r, t.cavs[k]? = some r := ⟨_, List.getElem?_eq_getElem (by rw [HCL.out]; exact hlt)⟩
      obtain ⟨ad, aj, ch, hA, hab, haj, hbj, hca, z0, z1, z2, z3⟩ := (HA.out wj HB.out).ce.at hx
      simp only at hA
      subst hA
      have hokc := HOK.out.cavs cv (List.mem_of_getElem? hx)
      have HNX : Hid (tagsT (hmac key (headB t)) (t.cavs.take (k + 1)) = hmac (tagsT (hmac key (headB t)) (t.cavs.take k)) (cavB cv)) := hid (by rw [take_snoc_of hx, tagsT_snoc])
      obtain ⟨T, hT⟩ : ∃ T, tagsT (hmac key (headB t)) (t.cavs.take k) = T := ⟨_, rfl⟩
      rw [hT] at HO HNX
      have HC := hid (refPutCaveat_any hca hokc none [] 0 0 rfl (by omega) Byt.nil)
      have HCB := hid (cavB_le hokc)
      obtain ⟨kd, rA', rn', rc', til', aud'⟩ := ch
      simp only at z0 z1 z2 z3 HC
      have haj2 : ad.add (k * 4) = aj := haj
      clear hx hab hbj hca hokc haj hT
      go_wp2_with fail
      refine HC.out.mono ?_
      rintro er w2 hP
      obtain ⟨A4, c4', N4, rfl, hl4, hN4, y4, b4⟩ := hP.open
      rw [List.nil_append] at hl4 y4
      have HX4 := hid (HX.out.below b4)
      have HB4 := hid (HB.out.trans (b4.mono HB.out.size))
      have HO4 := hid (OwnB.below HO.out b4)
      have HC2 := hid (refTag_any A2 A4 T (cavB cv) 32 k2 N4 c4' HO.out.len (by omega) hl4 (by have := HCB.out; omega) w2 HO4.out.byt y4)
      clear hP hl4 hN4 y4 b4 c0 c1 c2 c3 c4 c5 c6 c7 c8 z0 z1 z2 z3 HX HO
      go_wp2_with fail
      refine HC2.out.mono ?_
      rintro er w3 ⟨A3, c3', rfl, q1, q2, o3, b3⟩
      have HX3 := hid (HX4.out.below b3)
      have HB3 := hid (HB4.out.trans (b3.mono HB4.out.size))
      have HO3 : Hid (OwnB w3 w.heap.size (.slice A3 32 c3') 32 (tagsT (hmac key (headB t)) (t.cavs.take (k + 1)))) := hid (by rw [HNX.out]; exact o3.mono HB4.out.size)
      have HQ3 := hid (And.intro q1 q2)
      clear o3 b3 q1 q2 HX4 HB4
      go_wp2_with fail
      go_roundw
      case rel => exact ⟨k + 1, c3', A3, by omega, rfl, by go_num, HQ3, HO3, HX3, HB3⟩
      case measure => simp [intOf]; omega
    · obtain rfl : k = cn := by omega
      have HE : Hid (t.cavs.take k = t.cavs) := hid (List.take_of_length_le (by rw [HCL.out]; exact Nat.le_refl _))
      rw [HE.out] at HO
      go_wp2_with fail
      go_ret
      exact ⟨A2, k2, rfl, HQ.out.1, HQ.out.2, by rw [HND.out]; exact HO.out, HB.out⟩
end Go.Proofs.YtaadmgbmaekicaaGreatDoor.Sh
