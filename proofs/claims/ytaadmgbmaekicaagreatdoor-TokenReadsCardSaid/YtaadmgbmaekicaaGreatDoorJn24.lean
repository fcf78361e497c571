/-
  The document's own side: Sum, by contract.
-/
import Derived.Test.YtaadmgbmaekicaaGreatDoorJn2
import Derived.Test.YtaadmgbmaekicaaGreatDoorJn23
import Derived.Test.YtaadmgbmaekicaaGreatDoorJn17
import Derived.Test.YtaadmgbmaekicaaGreatDoorJn21
import Derived.Lib.SlBytesConst
set_option linter.unusedVariables false
set_option linter.unusedSimpArgs false
namespace Go.Proofs.YtaadmgbmaekicaaGreatDoor.Sh
open Go Go.RowKit
attribute [local irreducible] sched rounds absorb compress

theorem u8_moved (X : UInt32) (k : Nat) (y : UInt32) (hk : k < 32) (hy : y = X >>> UInt32.ofNat k) : IntKind.u8.wrap ((X.toNat : Int) / 2 ^ k) = (y.toUInt8.toNat : Int) := by
  rw [hy, shr_u32 X k (2 ^ k) hk rfl, IntKind.wrap_u8', UInt32.toNat_toUInt8]; simp
theorem zerosFor_lt (n : Nat) : zerosFor n < 64 := by unfold zerosFor; omega
theorem zerosFor_spec (n z : Nat) (h : z < zerosFor n) : (n + 1 + z) % 64 ≠ 56 := by unfold zerosFor at h; omega
theorem zerosFor_end (n : Nat) : (n + 1 + zerosFor n) % 64 = 56 := by unfold zerosFor; omega
theorem be_high (L k : Nat) (m : Int) (hm : m = 2 ^ k) (hk : 40 ≤ k) (hL : L ≤ 1099511627776) : (8 * (L : Int)) / m = ((UInt8.ofNat (8 * L / 2 ^ k)).toNat : Int) := by
  subst hm
  have h : 8 * L / 2 ^ k < 256 := by
    have h1 : 8 * L / 2 ^ k ≤ 8 * L / 2 ^ 40 := Nat.div_le_div_left (Nat.pow_le_pow_right (by omega) hk) (by omega)
    omega
  rw [UInt8.toNat_ofNat', Nat.mod_eq_of_lt h]
  simp
theorem be_byte0 (L : Nat) : (8 * (L : Int)) % 256 = ((UInt8.ofNat (8 * L / 2 ^ 0)).toNat : Int) := by
  rw [UInt8.toNat_ofNat']
  simp
theorem be_byte (L k : Nat) (m : Int) (hm : m = 2 ^ k) : (8 * (L : Int)) / m % 256 = ((UInt8.ofNat (8 * L / 2 ^ k)).toNat : Int) := by
  subst hm
  rw [UInt8.toNat_ofNat']
  simp
theorem pad_length (l : List UInt8) : (pad l).length = l.length + 1 + zerosFor l.length + 8 := by
  simp [pad, be8]; omega
theorem absorb_zero' (s : St) (l : List UInt8) : absorb s l 0 = s := by rw [absorb]
theorem absorb_succ' (s : St) (l : List UInt8) (k : Nat) : absorb s l (k + 1) = compress (absorb s l k) ((l.drop (64 * k)).take 64) := by rw [absorb]
theorem moved_at (x : UInt32) (k : Int) (h0 : 0 ≤ k) (hk : k < 64) (v : Int) (hv : (x.toNat : Int) / 2 ^ k.toNat = v) (w : World) :
    Calls Tryz.prog 104 #[.int .i64 x.toNat, .int .i64 k] w fun e w' => e = .returned (.int .i64 v) ∧ w = w' := by
  rw [← hv]
  exact moved_int x k h0 hk w
theorem digest_succ {s : St} {k : Nat} {x : UInt32} (h : s.list[k]? = some x) : (s.list.take (k + 1)).flatMap bytes4 = (s.list.take k).flatMap bytes4 ++ bytes4 x := by
  rw [take_snoc_of h]; simp
/-- The eight words of the beginning. -/
theorem init_wrd (w : World) (t : TypeId) : Wrd (w.alloc (.cells #[.int .i64 1779033703, .int .i64 3144134277, .int .i64 1013904242, .int .i64 2773480762, .int .i64 1359893119, .int .i64 2600822924, .int .i64 528734635, .int .i64 1541459225] t)) (w.heap.size + 1) (some ⟨w.heap.size, 0, none⟩) init.list := fun _ => by
  refine ⟨w.heap.size, rfl, by omega, fun j x hx => ?_⟩
  refine (cell_of_row _ w.heap.size j (iv init.list).toArray t (0, 0) (heap_alloc_new w _)).trans ?_
  simp [iv, hx]

set_option maxRecDepth 100000 in
set_option maxHeartbeats 4000000 in
theorem refSum_any (A : Option Addr) (l : List UInt8) (c : Nat) (hL : l.length ≤ 1099511627776) (w : World) (hbyt : Byt w w.heap.size A l) :
    Calls Tryz.prog 60 #[.slice A l.length c] w fun e w' => ∃ v, e = .returned v ∧ Told 5 w w' v (sha l) := by
  obtain ⟨L, hLe⟩ : ∃ L, L = l.length := ⟨_, rfl⟩
  rw [← hLe]
  have HL := hid hLe
  have hL1 : L ≤ 1099511627776 := by omega
  have hz := zerosFor_lt L
  clear hLe hL
  go_enter Tryz.func60, Tryz.ntmps60
  go_wp2_with (at_builtin; first
    | (refine wpList_appB rfl (.tmp 10) (.tmp 11) rfl w.heap.size (.slice none 0 0) 0 [] (OwnB.nil _ _) rfl A L c l rfl HL.out.symm hbyt.reads (by omega) (Nat.le_refl _) w (Below.refl _ _) L (by omega) ?_; intro A1 c1 w1 own1 _ bel1)
    | (refine wpList_appB rfl (.tmp 13) (.tmp 14) rfl w.heap.size (.slice A1 L c1) L l (OwnB.alloc own1 _) rfl (some ⟨w1.heap.size, 0, none⟩) 1 1 [128] rfl rfl (reads_one w1 128 _ _) (by omega) (le_alloc bel1.size _) w (bel1.alloc bel1.size _) (L + 1) (by omega) ?_; intro A2 c2 w2 own2 _ bel2; clear own1 bel1))
  go_loopw [3] (fun v wr => ∃ (A : Option Addr) (N c z : Nat), v = .slice A N c ∧ Hid (N = L + 1 + z) ∧ z ≤ zerosFor L ∧ OwnB wr w.heap.size v N (l ++ 128 :: List.replicate z 0) ∧ Below w.heap.size w wr) (fun v _ => zerosFor L + L + 1 - lenV v)
  case atStart => exact ⟨A2, L + 1, c2, 0, rfl, hid rfl, Nat.zero_le _, own2, bel2⟩
  case round =>
    clear own2 bel2
    obtain ⟨A3, N, c3, z, rfl, HN, hzz, own, bel⟩ := hrel
    by_cases hlt : z < zerosFor L
    · have hNb : N ≤ 2199023255552 := by have := HN.out; omega
      have ht : ((N : Int) % 64 != 56) = true := by rw [bne_iff_ne]; have := HN.out; have := zerosFor_spec L z hlt; omega
      go_wp2_with (at_builtin; (refine wpList_appB rfl (.tmp 20) (.tmp 21) rfl w.heap.size (.slice A3 N c3) N _ (OwnB.alloc own _) rfl (some ⟨wr.heap.size, 0, none⟩) 1 1 [0] rfl rfl (reads_one wr 0 _ _) (by omega) (le_alloc bel.size _) w (bel.alloc bel.size _) (N + 1) (by omega) ?_; intro A4 c4 w4 own4 _ bel4))
      have HR : Hid (OwnB w4 w.heap.size (.slice A4 (N + 1) c4) (N + 1) (l ++ 128 :: List.replicate (z + 1) 0)) := by
        rw [List.replicate_succ']
        have h := own4
        rw [List.append_assoc, List.cons_append] at h
        exact hid h
      clear own4 own bel ht
      go_roundw
      case rel => exact ⟨A4, N + 1, c4, z + 1, rfl, hid (by rw [HN.out]; omega), by omega, HR.out, bel4⟩
      case measure => simp [lenV]; have := HN.out; omega
    · have hzf : z = zerosFor L := by omega
      have hN2 : Hid (N = L + 1 + zerosFor L) := by rw [← hzf]; exact HN
      have ht : ((N : Int) % 64 != 56) = false := by rw [bne_eq_false_iff_eq]; have := hN2.out; have := zerosFor_end L; omega
      rw [hzf] at own
      clear hzf HN
      have hNb : N ≤ 2199023255552 := by have := hN2.out; omega
      obtain ⟨wa, hwa⟩ : ∃ wa, wa = wr := ⟨_, rfl⟩
      subst hwa
      go_wp2
      refine wp_loop_rounds 9 ?_
      rw [rounds_succ]
      go_wp2_with (at_builtin; (refine wpList_appB rfl (.tmp 30) (.tmp 36) rfl w.heap.size (.slice A3 (N) c3) (N) _ (OwnB.alloc own _) rfl (some ⟨wa.heap.size, 0, none⟩) 1 1 [UInt8.ofNat (8 * L / 2 ^ 56)] rfl rfl (reads_byte wa (8 * (L : Int) / 72057594037927936) _ (be_high L 56 72057594037927936 (by decide) (by omega) hL1) _ _) (by omega) (le_alloc bel.size _) w (bel.alloc bel.size _) (N + 1) (by omega) ?_; intro Ab0 cb0 wb0 ob0 _ bb0; clear own bel))
      rw [rounds_succ]
      go_wp2_with (at_builtin; (refine wpList_appB rfl (.tmp 30) (.tmp 36) rfl w.heap.size (.slice Ab0 (N + 1) cb0) (N + 1) _ (OwnB.alloc ob0 _) rfl (some ⟨wb0.heap.size, 0, none⟩) 1 1 [UInt8.ofNat (8 * L / 2 ^ 48)] rfl rfl (reads_byte wb0 (8 * (L : Int) / 281474976710656) _ (be_high L 48 281474976710656 (by decide) (by omega) hL1) _ _) (by omega) (le_alloc bb0.size _) w (bb0.alloc bb0.size _) (N + 2) (by omega) ?_; intro Ab1 cb1 wb1 ob1 _ bb1; clear ob0 bb0))
      rw [rounds_succ]
      go_wp2_with (at_builtin; (refine wpList_appB rfl (.tmp 30) (.tmp 36) rfl w.heap.size (.slice Ab1 (N + 2) cb1) (N + 2) _ (OwnB.alloc ob1 _) rfl (some ⟨wb1.heap.size, 0, none⟩) 1 1 [UInt8.ofNat (8 * L / 2 ^ 40)] rfl rfl (reads_byte wb1 (8 * (L : Int) / 1099511627776) _ (be_high L 40 1099511627776 (by decide) (by omega) hL1) _ _) (by omega) (le_alloc bb1.size _) w (bb1.alloc bb1.size _) (N + 3) (by omega) ?_; intro Ab2 cb2 wb2 ob2 _ bb2; clear ob1 bb1))
      rw [rounds_succ]
      go_wp2_with (at_builtin; (refine wpList_appB rfl (.tmp 30) (.tmp 36) rfl w.heap.size (.slice Ab2 (N + 3) cb2) (N + 3) _ (OwnB.alloc ob2 _) rfl (some ⟨wb2.heap.size, 0, none⟩) 1 1 [UInt8.ofNat (8 * L / 2 ^ 32)] rfl rfl (reads_byte wb2 (8 * (L : Int) / 4294967296 % 256) _ (be_byte L 32 4294967296 (by decide)) _ _) (by omega) (le_alloc bb2.size _) w (bb2.alloc bb2.size _) (N + 4) (by omega) ?_; intro Ab3 cb3 wb3 ob3 _ bb3; clear ob2 bb2))
      rw [rounds_succ]
      go_wp2_with (at_builtin; (refine wpList_appB rfl (.tmp 30) (.tmp 36) rfl w.heap.size (.slice Ab3 (N + 4) cb3) (N + 4) _ (OwnB.alloc ob3 _) rfl (some ⟨wb3.heap.size, 0, none⟩) 1 1 [UInt8.ofNat (8 * L / 2 ^ 24)] rfl rfl (reads_byte wb3 (8 * (L : Int) / 16777216 % 256) _ (be_byte L 24 16777216 (by decide)) _ _) (by omega) (le_alloc bb3.size _) w (bb3.alloc bb3.size _) (N + 5) (by omega) ?_; intro Ab4 cb4 wb4 ob4 _ bb4; clear ob3 bb3))
      rw [rounds_succ]
      go_wp2_with (at_builtin; (refine wpList_appB rfl (.tmp 30) (.tmp 36) rfl w.heap.size (.slice Ab4 (N + 5) cb4) (N + 5) _ (OwnB.alloc ob4 _) rfl (some ⟨wb4.heap.size, 0, none⟩) 1 1 [UInt8.ofNat (8 * L / 2 ^ 16)] rfl rfl (reads_byte wb4 (8 * (L : Int) / 65536 % 256) _ (be_byte L 16 65536 (by decide)) _ _) (by omega) (le_alloc bb4.size _) w (bb4.alloc bb4.size _) (N + 6) (by omega) ?_; intro Ab5 cb5 wb5 ob5 _ bb5; clear ob4 bb4))
      rw [rounds_succ]
      go_wp2_with (at_builtin; (refine wpList_appB rfl (.tmp 30) (.tmp 36) rfl w.heap.size (.slice Ab5 (N + 6) cb5) (N + 6) _ (OwnB.alloc ob5 _) rfl (some ⟨wb5.heap.size, 0, none⟩) 1 1 [UInt8.ofNat (8 * L / 2 ^ 8)] rfl rfl (reads_byte wb5 (8 * (L : Int) / 256 % 256) _ (be_byte L 8 256 (by decide)) _ _) (by omega) (le_alloc bb5.size _) w (bb5.alloc bb5.size _) (N + 7) (by omega) ?_; intro Ab6 cb6 wb6 ob6 _ bb6; clear ob5 bb5))
      rw [rounds_succ]
      go_wp2_with (at_builtin; (refine wpList_appB rfl (.tmp 30) (.tmp 36) rfl w.heap.size (.slice Ab6 (N + 7) cb6) (N + 7) _ (OwnB.alloc ob6 _) rfl (some ⟨wb6.heap.size, 0, none⟩) 1 1 [UInt8.ofNat (8 * L / 2 ^ 0)] rfl rfl (reads_byte wb6 (8 * (L : Int) % 256) _ (be_byte0 L) _ _) (by omega) (le_alloc bb6.size _) w (bb6.alloc bb6.size _) (N + 8) (by omega) ?_; intro Ab7 cb7 wb7 ob7 _ bb7; clear ob6 bb6))
      rw [rounds_succ]
      go_wp2_with fail
      obtain ⟨m, hm⟩ : ∃ m, N + 8 = 64 * m := ⟨(N + 8) / 64, by have := hN2.out; have := zerosFor_end L; omega⟩
      rw [hm]
      obtain ⟨p, hp⟩ : ∃ p, p = pad l := ⟨_, rfl⟩
      have ho : OwnB wb7 w.heap.size (.slice Ab7 (64 * m) cb7) (64 * m) p := by
        have h := ob7
        rw [hm] at h
        rw [hp, pad, ← HL.out]
        simpa [be8] using h
      have hpl : p.length = 64 * m := ho.len
      have hcc := ho.cap
      have hsh : sha l = digest (absorb init p m) := by
        unfold sha
        rw [← hp, hpl, Nat.mul_div_cancel_left _ (by omega)]
      have HSH := hid hsh
      have HPL := hid hpl
      have hmb : m ≤ 68719476736 := by omega
      clear hm hsh hpl hp ob7
      obtain ⟨wx, hwx⟩ : ∃ wx, wx = wb7.alloc (.cells #[.int .i64 1779033703, .int .i64 3144134277, .int .i64 1013904242, .int .i64 2773480762, .int .i64 1359893119, .int .i64 2600822924, .int .i64 528734635, .int .i64 1541459225] 3) := ⟨_, rfl⟩
      rw [← hwx]
      have bx : Below w.heap.size w wx := by rw [hwx]; exact bb7.alloc bb7.size _
      have hby : Byt wx wx.heap.size Ab7 p := by
        have hle : Below wb7.heap.size wb7 wx := by rw [hwx]; exact (Below.refl _ _).alloc (Nat.le_refl _) _
        exact (ho.byt.below hle).more hle.size
      have hiw : Wrd wx wx.heap.size (some ⟨wb7.heap.size, 0, none⟩) init.list := by rw [hwx, World.size_alloc]; exact init_wrd _ _
      clear hwx ho bb7
      go_loopw [6, 7] (fun s i wq => ∃ (k : Nat) (As : Option Addr) (cs : Nat), k ≤ m ∧ i = .int .i64 (64 * (k : Int)) ∧ s = .slice As 8 cs ∧ Wrd wq wq.heap.size As (absorb init p k).list ∧ Below wx.heap.size wx wq) (fun _ i _ => 64 * m - (intOf i).toNat)
      case atStart => exact ⟨0, _, 8, by omega, rfl, rfl, by rw [absorb_zero']; exact hiw, Below.refl _ _⟩
      case round =>
        clear hiw
        obtain ⟨k, As, cs, hk, rfl, rfl, hst, hbel⟩ := hrel
        by_cases hlt : k < m
        · obtain ⟨ad, x0, rfl, had, _, _⟩ := (hby.below hbel).get (k := 64 * k) (by rw [HPL.out]; omega)
          obtain ⟨S, hS⟩ : ∃ S, S = absorb init p k := ⟨_, rfl⟩
          rw [← hS] at hst
          obtain ⟨blk, hblk⟩ : ∃ blk, blk = (p.drop (64 * k)).take 64 := ⟨_, rfl⟩
          have hbl : blk.length = 64 := by rw [hblk, List.length_take, List.length_drop, HPL.out]; omega
          have hbyt : Byt wr wr.heap.size (some (ad.add (64 * k))) blk := by
            have := ((hby.below hbel).more hbel.size).cut (lo := 64 * k) (hi := 64 * k + 64) (cap := cb7) (by omega) (by rw [HPL.out]; omega) (by rw [HPL.out]; omega)
            rw [if_neg (by omega)] at this
            rw [hblk, show (p.drop (64 * k)).take 64 = (p.take (64 * k + 64)).drop (64 * k) from by rw [List.drop_take]; congr 1; omega]
            exact this
          have HS : Hid (absorb init p (k + 1) = compress S blk) := hid (by rw [absorb_succ', ← hS, ← hblk])
          have hcap : ¬ cb7 = 64 * k := by omega
          have e4 : 64 * k + 64 - 64 * k = 64 := by omega
          have hk0 : (0 : Int) ≤ (k : Int) := Int.natCast_nonneg _
          have hk2 : 64 * (k : Int) + 64 ≤ (cb7 : Int) := by omega
          have hk3 : 64 * (k : Int) < 64 * (m : Int) := by omega
          have HB := hid (block_any S As (some (ad.add (64 * k))) blk cs (cb7 - 64 * k) hbl (by omega) wr hst hbyt)
          clear hS hblk hbl hst hbyt had hby
          go_wp2_with fail
          refine HB.out.mono ?_
          rintro er w5 ⟨v5, rfl, own5, bel5⟩
          obtain ⟨A5, c5, rfl, _⟩ := own_slice own5
          have HW : Hid (Wrd w5 w5.heap.size A5 (absorb init p (k + 1)).list) := hid (by rw [HS.out]; exact Wrd.of_own own5)
          have bel6 := hbel.trans (bel5.mono hbel.size)
          clear own5 bel5 HB e4
          go_wp2
          go_roundw
          case rel => exact ⟨k + 1, A5, c5, by omega, congrArg (Value.int .i64) (by omega), rfl, HW.out, bel6⟩
          case measure => simp [intOf]; omega
        · have hkm : (k : Int) = (m : Int) := by omega
          rw [hkm]
          obtain rfl : k = m := by omega
          clear hkm
          obtain ⟨T, hT⟩ : ∃ T, T = absorb init p k := ⟨_, rfl⟩
          rw [← hT] at hst
          have HD : Hid (digest T = sha l) := hid (by rw [hT, HSH.out])
          obtain ⟨bs, rfl, hbs, hcs⟩ := hst (by simp [St.list])
          have HCS := hid hcs
          have b0 : Below w.heap.size w wr := bx.trans (hbel.mono bx.size)
          clear hT hcs hbel hby bx
          obtain ⟨wy, hwy⟩ : ∃ wy, wy = wr := ⟨_, rfl⟩
          subst hwy
          go_wp2_with fail
          go_loopw [8, 9] (fun o i wq => ∃ (k : Nat) (A : Option Addr) (c : Nat), k ≤ 8 ∧ i = .int .i64 k ∧ o = .slice A (4 * k) c ∧ OwnB wq wy.heap.size o (4 * k) ((T.list.take k).flatMap bytes4) ∧ Below wy.heap.size wy wq) (fun _ i _ => 8 - (intOf i).toNat)
          case atStart => exact ⟨0, none, 0, by omega, rfl, rfl, OwnB.nil _ _, Below.refl _ _⟩
          case round =>
            obtain ⟨j, Aj, cj, hj, rfl, rfl, own, bel⟩ := hrel
            by_cases hlt : j < 8
            · obtain ⟨X, hX⟩ : ∃ X, T.list[j]? = some X := ⟨T.list[j]'hlt, List.getElem?_eq_getElem _⟩
              have c1 := (bel.cell (p := ⟨bs, j, none⟩) hbs).trans (HCS.out j X hX)
              have lX := lt32 X
              have HX := hid hX
              clear hX
              have hk0 : (0 : Int) ≤ (j : Int) := Int.natCast_nonneg _
              have hk1 : (j : Int) < 8 := by omega
              obtain ⟨z24, h24⟩ : ∃ z : Int, z = (X.toNat : Int) / 2 ^ (24 : Int).toNat := ⟨_, rfl⟩
              obtain ⟨z16, h16⟩ : ∃ z : Int, z = (X.toNat : Int) / 2 ^ (16 : Int).toNat := ⟨_, rfl⟩
              obtain ⟨z8, h8⟩ : ∃ z : Int, z = (X.toNat : Int) / 2 ^ (8 : Int).toNat := ⟨_, rfl⟩
              have M24 := hid (moved_at X 24 (by omega) (by omega) z24 h24.symm)
              have M16 := hid (moved_at X 16 (by omega) (by omega) z16 h16.symm)
              have M8 := hid (moved_at X 8 (by omega) (by omega) z8 h8.symm)
              obtain ⟨y0, hy0⟩ : ∃ y, y = (X >>> 24).toUInt8 := ⟨_, rfl⟩
              obtain ⟨y1, hy1⟩ : ∃ y, y = (X >>> 16).toUInt8 := ⟨_, rfl⟩
              obtain ⟨y2, hy2⟩ : ∃ y, y = (X >>> 8).toUInt8 := ⟨_, rfl⟩
              obtain ⟨y3, hy3⟩ : ∃ y, y = X.toUInt8 := ⟨_, rfl⟩
              have e0 : IntKind.u8.wrap z24 = (y0.toNat : Int) := by rw [h24, hy0]; exact u8_moved X 24 _ (by omega) rfl
              have e1 : IntKind.u8.wrap z16 = (y1.toNat : Int) := by rw [h16, hy1]; exact u8_moved X 16 _ (by omega) rfl
              have e2 : IntKind.u8.wrap z8 = (y2.toNat : Int) := by rw [h8, hy2]; exact u8_moved X 8 _ (by omega) rfl
              have e3 : IntKind.u8.wrap (X.toNat : Int) = (y3.toNat : Int) := by rw [hy3, IntKind.wrap_u8', UInt32.toNat_toUInt8]; simp
              have HY := hid (And.intro hy0 (And.intro hy1 (And.intro hy2 hy3)))
              clear h24 h16 h8 hy0 hy1 hy2 hy3
              go_wp2_with fail
              go_region_held3 (fun w' => w'.cell? ⟨bs, j, none⟩ = some (.int .i64 X.toNat))
                (first | exact (hkp ⟨bs, j, none⟩ hbs).trans c1 | go_keep)
                (first
                  | (go_at_call 104; (with_reducible refine (M24.out _).mono ?_); rintro er wq' ⟨rfl, rfl⟩)
                  | (go_at_call 104; (with_reducible refine (M16.out _).mono ?_); rintro er wq' ⟨rfl, rfl⟩)
                  | (go_at_call 104; (with_reducible refine (M8.out _).mono ?_); rintro er wq' ⟨rfl, rfl⟩)
                  | (refine step_appB (by rfl) (.tmp 56) (.tmp 80) (by rfl) wy.heap.size (.slice Aj (4 * j) cj) (4 * j) ((T.list.take j).flatMap bytes4) ((own.alloc _).drew) (by rfl) (some ⟨wr.heap.size, 0, none⟩) 4 4 [y0, y1, y2, y3] (by rfl) (by rfl) (reads_newd wr #[.int .u8 y0.toNat, .int .u8 y1.toNat, .int .u8 y2.toNat, .int .u8 y3.toNat] 5 (0, 0)) (by omega) (by exact le_alloc bel.size _) wy ((bel.alloc bel.size _).drew) (4 * j + 4) (by omega) ?_; intro A6 c6 w6 own6 gr6 bel6; have hkp : ∀ p : Addr, p.block < wy.heap.size → w6.cell? p = wr.cell? p := fun p hp => (bel6.cell hp).trans (bel.cell hp).symm)
                  | fail)
              have HR : Hid (OwnB w6 wy.heap.size (.slice A6 (4 * (j + 1)) c6) (4 * (j + 1)) ((T.list.take (j + 1)).flatMap bytes4)) := hid (by
                rw [digest_succ HX.out]
                have hy := HY.out
                rw [hy.1, hy.2.1, hy.2.2.1, hy.2.2.2] at own6
                exact own6)
              clear own6 own bel c1 e0 e1 e2 e3 hkp gr6
              go_wp2
              go_roundw
              case rel => exact ⟨j + 1, A6, c6, by omega, by go_num, by rw [show 4 * (j + 1) = 4 * j + 4 by omega], HR.out, bel6⟩
              case measure => simp [intOf]; omega
            · obtain rfl : j = 8 := by omega
              have htk : T.list.take 8 = T.list := rfl
              rw [htk] at own
              have hfin : Told 5 w wr (.slice Aj (4 * 8) cj) (sha l) := by
                rw [← HD.out]
                refine ⟨?_, b0.trans (bel.mono b0.size)⟩
                have h := own.mono b0.size
                rw [← h.len] at h
                exact h
              have HF := hid hfin
              clear hfin own bel htk
              go_wp2
              go_ret
              exact ⟨_, rfl, HF.out⟩
end Go.Proofs.YtaadmgbmaekicaaGreatDoor.Sh
/-
  The document's examples hold: lives, by contract; what the kernel reckons of three digests.
-/
namespace Go.Proofs.YtaadmgbmaekicaaGreatDoor.Sh
open Go Go.RowKit

set_option maxRecDepth 100000 in
theorem hexes_none : hexOf (sha []) = [101, 51, 98, 48, 99, 52, 52, 50, 57, 56, 102, 99, 49, 99, 49, 52, 57, 97, 102, 98, 102, 52, 99, 56, 57, 57, 54, 102, 98, 57, 50, 52, 50, 55, 97, 101, 52, 49, 101, 52, 54, 52, 57, 98, 57, 51, 52, 99, 97, 52, 57, 53, 57, 57, 49, 98, 55, 56, 53, 50, 98, 56, 53, 53] := by decide +kernel
set_option maxRecDepth 100000 in
theorem hexes_abc : hexOf (sha [97, 98, 99]) = [98, 97, 55, 56, 49, 54, 98, 102, 56, 102, 48, 49, 99, 102, 101, 97, 52, 49, 52, 49, 52, 48, 100, 101, 53, 100, 97, 101, 50, 50, 50, 51, 98, 48, 48, 51, 54, 49, 97, 51, 57, 54, 49, 55, 55, 97, 57, 99, 98, 52, 49, 48, 102, 102, 54, 49, 102, 50, 48, 48, 49, 53, 97, 100] := by decide +kernel
theorem hexes_two : hexOf [0, 171] = [48, 48, 97, 98] := by decide +kernel
theorem sha_length (l : List UInt8) : (sha l).length = 32 := by
  simp [sha, digest, St.list, bytes4]

attribute [local irreducible] sha hexOf absorb sched rounds

theorem byt_lit (w : World) (cs : List UInt8) (t : TypeId) (fr : Nat × Nat) : Byt (w.alloc (.cells (bv cs).toArray t fr)) (w.alloc (.cells (bv cs).toArray t fr)).heap.size (some ⟨w.heap.size, 0, none⟩) cs := fun _ =>
  ⟨_, rfl, by simp, fun j x hx => World.news_of_block (cs := (bv cs).toArray) (t := t) (fr := fr) (heap_alloc_new w _) j _ (by simp [bv, hx])⟩

end Go.Proofs.YtaadmgbmaekicaaGreatDoor.Sh
/-
  The walks of ShaSums, ShaLong and ShaStays, out of the contracts.
-/
namespace Go.Proofs.YtaadmgbmaekicaaGreatDoor.Sh
open Go Go.RowKit
attribute [local irreducible] sha hexOf absorb sched rounds

theorem sum_at (A : Option Addr) (l : List UInt8) (n c : Nat) (hn : l.length = n) (hc : n ≤ c) (hcm : c ≤ 9223372036854775807) (hL : n ≤ 1099511627776) (w : World) (hT : Tab w) (hbyt : Byt w w.heap.size A l) :
    Calls Tryz.prog 53 #[.slice A n c] w fun e w' => ∃ A' c', e = .returned (.slice A' 32 c') ∧ 32 ≤ c' ∧ Byt w' w'.heap.size A' (sha l) ∧ Below w.heap.size w w' ∧ w'.ownsRow w.heap.size 5 1 (.slice A' 32 c') 32 (bv (sha l)) := by
  subst hn
  refine (sum_any A l c hc hcm hL w hT hbyt).mono fun e w' ⟨v, he, ht⟩ => ?_
  obtain ⟨A', c', rfl, h1, h2, h3, h4⟩ := ht.at (sha_length l)
  exact ⟨A', c', he, h1, h2, h3, h4⟩
theorem refSum_at (A : Option Addr) (l : List UInt8) (n c : Nat) (hn : l.length = n) (hL : n ≤ 1099511627776) (w : World) (hbyt : Byt w w.heap.size A l) :
    Calls Tryz.prog 60 #[.slice A n c] w fun e w' => ∃ A' c', e = .returned (.slice A' 32 c') ∧ 32 ≤ c' ∧ Byt w' w'.heap.size A' (sha l) ∧ Below w.heap.size w w' ∧ w'.ownsRow w.heap.size 5 1 (.slice A' 32 c') 32 (bv (sha l)) := by
  subst hn
  refine (refSum_any A l c hL w hbyt).mono fun e w' ⟨v, he, ht⟩ => ?_
  obtain ⟨A', c', rfl, h1, h2, h3, h4⟩ := ht.at (sha_length l)
  exact ⟨A', c', he, h1, h2, h3, h4⟩

theorem neg_rem (n : Int) (h : n < 0) : -(n + 1).tmod 300 = (-(n + 1)) % 300 := by
  rw [← Int.neg_tmod, Int.tmod_eq_emod_of_nonneg (by omega)]
theorem rem300 (n : Int) : ∃ N : Nat, N < 300 ∧ n % 300 = (N : Int) := ⟨(n % 300).toNat, by omega, by omega⟩

end Go.Proofs.YtaadmgbmaekicaaGreatDoor.Sh
