/-
  The program's side: Sum, by contract.
-/
import Derived.Test.YtaadmgbmaekicaaGreatDoorJn20
import Derived.Deep.RegionWith
import Derived.Deep.DeepCutAuto
import Derived.Deep.DrawnRows
set_option linter.unusedVariables false
set_option linter.unusedSimpArgs false
namespace Go.Proofs.YtaadmgbmaekicaaGreatDoor.Sh
open Go Go.RowKit

theorem tailPad_length (r : List UInt8) (L : Nat) : (tailPad r L).length = r.length + 9 + zerosFor r.length := by
  simp [tailPad, be8]; omega
theorem zerosFor_mod (n : Nat) : zerosFor (n % 64) = zerosFor n := by unfold zerosFor; rw [Nat.mod_mod]
theorem pad_split (l : List UInt8) : pad l = l.take (64 * (l.length / 64)) ++ tailPad (l.drop (64 * (l.length / 64))) l.length := by
  unfold pad tailPad
  have hz : zerosFor (l.drop (64 * (l.length / 64))).length = zerosFor l.length := by
    rw [List.length_drop, ← zerosFor_mod l.length]; congr 1; omega
  rw [hz, ← List.append_assoc, List.take_append_drop]
theorem sha_split (l : List UInt8) (m : Nat) (hm : (tailPad (l.drop (64 * (l.length / 64))) l.length).length = 64 * m) :
    sha l = digest (absorb (absorb init (l.take (64 * (l.length / 64))) (l.length / 64)) (tailPad (l.drop (64 * (l.length / 64))) l.length) m) := by
  have h1 : (l.take (64 * (l.length / 64))).length = 64 * (l.length / 64) := by rw [List.length_take]; omega
  have h2 : (pad l).length / 64 = l.length / 64 + m := by
    rw [pad_split, List.length_append, h1, hm]; omega
  unfold sha
  rw [h2, pad_split, absorb_append _ _ _ _ _ h1]

theorem told_byt {e : TypeId} {w0 w' : World} {A : Option Addr} {k c : Nat} {l : List UInt8} (h : Told e w0 w' (.slice A k c) l) : Byt w' w'.heap.size A l := by
  obtain ⟨A', c', hv, _, hb⟩ := h.slice
  injection hv with hA
  subst hA
  exact hb
theorem raw4 (x : UInt32) : [Value.int .u8 ((x.toNat : Int) / 16777216 % 256), .int .u8 ((x.toNat : Int) / 65536 % 256), .int .u8 ((x.toNat : Int) / 256 % 256), .int .u8 ((x.toNat : Int) % 256)] = bv (bytes4 x) := by
  have h : ∀ (n : Nat) (m : Int), n < 32 → m = 2 ^ n → (x.toNat : Int) / m % 256 = (((x >>> UInt32.ofNat n).toUInt8).toNat : Int) := fun n m hn hm => by
    rw [shr_u32 x n m hn hm, UInt32.toNat_toUInt8]; simp
  have h0 : (x.toNat : Int) % 256 = ((x.toUInt8).toNat : Int) := by rw [UInt32.toNat_toUInt8]; simp
  rw [h 24 16777216 (by omega) (by decide), h 16 65536 (by omega) (by decide), h 8 256 (by omega) (by decide), h0]
  rfl
theorem raw_one (x0 x1 x2 x3 : Int) : ∀ u ∈ [Value.int .u8 x0, .int .u8 x1, .int .u8 x2, .int .u8 x3], u.oneCell' = true := by
  intro u hu
  simp only [List.mem_cons, List.not_mem_nil, or_false] at hu
  rcases hu with rfl | rfl | rfl | rfl <;> rfl
/-- Eight stores, behind a name. -/
theorem set8_named {a w1 : World} {B g : Nat} {S T : St} (h : StIs w1 g S) (hb : Below B a w1) (hg : B ≤ g) : StIs ((((((((w1.setCell ⟨g, 0, none⟩ (.int .u32 T.a.toNat)).setCell ⟨g, 1, none⟩ (.int .u32 T.b.toNat)).setCell ⟨g, 2, none⟩ (.int .u32 T.c.toNat)).setCell ⟨g, 3, none⟩ (.int .u32 T.d.toNat)).setCell ⟨g, 4, none⟩ (.int .u32 T.e.toNat)).setCell ⟨g, 5, none⟩ (.int .u32 T.f.toNat)).setCell ⟨g, 6, none⟩ (.int .u32 T.g.toNat)).setCell ⟨g, 7, none⟩ (.int .u32 T.h.toNat)) g T ∧ Below B a ((((((((w1.setCell ⟨g, 0, none⟩ (.int .u32 T.a.toNat)).setCell ⟨g, 1, none⟩ (.int .u32 T.b.toNat)).setCell ⟨g, 2, none⟩ (.int .u32 T.c.toNat)).setCell ⟨g, 3, none⟩ (.int .u32 T.d.toNat)).setCell ⟨g, 4, none⟩ (.int .u32 T.e.toNat)).setCell ⟨g, 5, none⟩ (.int .u32 T.f.toNat)).setCell ⟨g, 6, none⟩ (.int .u32 T.g.toNat)).setCell ⟨g, 7, none⟩ (.int .u32 T.h.toNat)) :=
  ⟨StIs.set8 h, by
    repeat' (refine Below.setCell ?_ hg _)
    exact hb⟩
attribute [local irreducible] sched rounds absorb
theorem init_val : stv init = .agg #[.int .u32 1779033703, .int .u32 3144134277, .int .u32 1013904242, .int .u32 2773480762, .int .u32 1359893119, .int .u32 2600822924, .int .u32 528734635, .int .u32 1541459225] := rfl
theorem init_st (w : World) : StIs (World.drew (w.alloc (.cells #[.int .u32 1779033703, .int .u32 3144134277, .int .u32 1013904242, .int .u32 2773480762, .int .u32 1359893119, .int .u32 2600822924, .int .u32 528734635, .int .u32 1541459225] 120))) w.heap.size init := heap_alloc_new w _

set_option maxRecDepth 100000 in
set_option maxHeartbeats 1000000 in
theorem sum_any (A : Option Addr) (l : List UInt8) (c : Nat) (hc : l.length ≤ c) (hcm : c ≤ 9223372036854775807) (hL : l.length ≤ 1099511627776) (w : World) (hT : Tab w) (hbyt : Byt w w.heap.size A l) :
    Calls Tryz.prog 53 #[.slice A l.length c] w fun e w' => ∃ v, e = .returned v ∧ Told 5 w w' v (sha l) := by
  obtain ⟨q, hq⟩ : ∃ q, q = l.length / 64 := ⟨_, rfl⟩
  have e0 : (l.length : Int) - (l.length : Int) % 64 = 64 * (q : Int) := by omega
  have HQ := hid hq
  have hq1 : 64 * q ≤ l.length := by omega
  have hq2 : 64 * (q : Int) ≤ (c : Int) := by omega
  have hq3 : (0 : Int) ≤ 64 * (q : Int) := by omega
  clear hq
  have e1 : (64 * (q : Int)).toNat = 64 * q := by omega
  have hlt : (l.take (64 * q)).length = 64 * q := by rw [List.length_take]; omega
  have hinit := absorb_any init A (l.take (64 * q)) c q hlt (by omega) hcm
  rw [init_val] at hinit
  obtain ⟨T1, hT1⟩ : ∃ T1, T1 = absorb init (l.take (64 * q)) q := ⟨_, rfl⟩
  rw [← hT1] at hinit
  unfold stv at hinit
  have HI := hid hinit
  have HT1 := hid hT1
  have HN : Hid (∀ o, w.heap.size < (w.alloc o).drew.heap.size) := hid (fun o => by show _ < (w.alloc o).heap.size; simp)
  have HTA : Hid (∀ o, Tab (w.alloc o).drew) := hid (fun o => hT.below hT.pos (((Below.refl _ _).alloc (Nat.le_refl _) o).drew))
  have HBA : Hid (∀ o, Byt (w.alloc o).drew (w.alloc o).drew.heap.size A (l.take (64 * q))) := hid (fun o => ((hbyt.below (((Below.refl _ _).alloc (Nat.le_refl _) o).drew)).more (Nat.le_of_lt (HN.out o))).head)
  clear hinit hT1 hlt
  go_enter Tryz.func53, Tryz.ntmps53
  go_wp2
  go_region_with ((first | (go_at_call 100; go_loud (refine (HI.out _ (HTA.out _) (HBA.out _)).mono ?_; rintro er w1 ⟨rfl, hb1⟩; have hst1 : StIs w1 w.heap.size init := (init_st w).below hb1 (HN.out _); have hb01 : Below w.heap.size w w1 := (((Below.refl _ _).alloc (Nat.le_refl _) _).drew).trans (hb1.mono (Nat.le_of_lt (HN.out _))); obtain ⟨⟨z0, z1, z2, z3, z4, z5, z6, z7⟩, y0, y1, y2, y3, y4, y5, y6, y7⟩ := row8 hst1)) | fail))
  have hfin := set8_named (T := T1) hst1 hb01 (Nat.le_refl _)
  generalize hW2 : ((((((((w1.setCell ⟨w.heap.size, 0, none⟩ (.int .u32 T1.a.toNat)).setCell ⟨w.heap.size, 1, none⟩ (.int .u32 T1.b.toNat)).setCell ⟨w.heap.size, 2, none⟩ (.int .u32 T1.c.toNat)).setCell ⟨w.heap.size, 3, none⟩ (.int .u32 T1.d.toNat)).setCell ⟨w.heap.size, 4, none⟩ (.int .u32 T1.e.toNat)).setCell ⟨w.heap.size, 5, none⟩ (.int .u32 T1.f.toNat)).setCell ⟨w.heap.size, 6, none⟩ (.int .u32 T1.g.toNat)).setCell ⟨w.heap.size, 7, none⟩ (.int .u32 T1.h.toNat)) = W2 at hfin ⊢
  obtain ⟨hst2, hb02⟩ := hfin
  clear hW2 z0 z1 z2 z3 z4 z5 z6 z7 y0 y1 y2 y3 y4 y5 y6 y7 hst1 hb01 hb1 HI HTA HBA HN e0
  have hq4 : l.length - 64 * q < 64 := by have := HQ.out; omega
  obtain ⟨m, hm, hm2⟩ : ∃ m, m ≤ 2 ∧ ((l.length - 64 * q < 56 ∧ 64 * m = 64) ∨ (56 ≤ l.length - 64 * q ∧ 64 * m = 128)) := by
    by_cases h56 : l.length - 64 * q < 56
    · exact ⟨1, by omega, .inl ⟨h56, rfl⟩⟩
    · exact ⟨2, by omega, .inr ⟨by omega, rfl⟩⟩
  obtain ⟨A2, hA2⟩ : ∃ A2, A2 = (if c = 64 * q then A else A.map (·.add (64 * q))) := ⟨_, rfl⟩
  obtain ⟨r, hr⟩ : ∃ r, r = l.drop (64 * q) := ⟨_, rfl⟩
  have hrl : r.length = l.length - 64 * q := by rw [hr, List.length_drop]
  have hbr : Byt w w.heap.size A2 r := by
    have := hbyt.cut (lo := 64 * q) (hi := l.length) (cap := c) (by omega) (Nat.le_refl _) hc
    rw [List.take_length, ← hA2, ← hr] at this
    exact this
  have hN2 := hst2.lt
  have HE := hid (fun W (hW : Byt W W.heap.size A2 r) => ending_sz A2 r (c - 64 * q) l.length (64 * m) hL (by omega) (by rw [hrl]; exact hm2) W hW)
  rw [hrl] at HE
  have HR := hid hr
  have HB2 := hid (hbr.below hb02)
  have eA := hA2.symm
  clear hr hbr hrl hA2
  obtain ⟨T2, hT2⟩ : ∃ T2, T2 = absorb T1 (tailPad r l.length) m := ⟨_, rfl⟩
  have HTL : Hid ((tailPad r l.length).length = 64 * m) := hid (by
    have hrl : r.length = l.length - 64 * q := by rw [HR.out, List.length_drop]
    rw [tailPad_length, hrl]; unfold zerosFor; omega)
  have HAB := hid (fun W (hW : Tab W) B (hB : Byt W W.heap.size B (tailPad r l.length)) => absorb_any T1 B (tailPad r l.length) (64 * m) m HTL.out (by rw [HTL.out]; omega) (by omega) W hW hB)
  rw [← hT2] at HAB
  unfold stv at HAB
  have HT2 := hid hT2
  have HTB := hid (hT.below hT.pos hb02)
  clear hT2
  obtain ⟨⟨z0, z1, z2, z3, z4, z5, z6, z7⟩, _⟩ := row8 hst2
  go_wp2
  have HDone : Hid (digest T2 = sha l) := hid (by
    have hq := HQ.out
    subst hq
    rw [HT2.out, HT1.out, HR.out]
    rw [HR.out] at HTL
    exact (sha_split l m HTL.out).symm)
  go_cut [] (fun wx => StIs wx w.heap.size T2 ∧ Below w.heap.size w wx)
  case first =>
    go_region_with ((first
      | (go_at_call 101; refine (HE.out _ (show Byt W2.drew W2.drew.heap.size A2 r from HB2.out.more (Nat.le_of_lt hN2))).mono ?_; rintro er w3 ⟨rfl, hb3⟩; have hst3 : StIs w3 w.heap.size T1 := StIs.below (w := W2.drew) hst2 hb3.2 hN2; obtain ⟨⟨z0, z1, z2, z3, z4, z5, z6, z7⟩, _⟩ := row8 hst3; have HT3 := hid (Tab.below (w := W2.drew) HTB.out (Nat.lt_of_le_of_lt (Nat.zero_le _) hN2) hb3.2); have HB3 := hid (told_byt hb3); have HN3 := hid (Nat.lt_of_lt_of_le hN2 hb3.2.size); have HBL3 := hid (hb02.drew.trans (hb3.2.mono (Nat.le_of_lt hN2))); clear hb3)
      | (go_at_call 100; refine (HAB.out w3 HT3.out _ HB3.out).mono ?_; rintro er w4 ⟨rfl, hb4⟩; have hst4 : StIs w4 w.heap.size T1 := hst3.below hb4 HN3.out; obtain ⟨⟨z0, z1, z2, z3, z4, z5, z6, z7⟩, y0, y1, y2, y3, y4, y5, y6, y7⟩ := row8 hst4; have hb04 := HBL3.out.trans (hb4.mono (Nat.le_of_lt HN3.out)); clear hb4)
      | fail))
    all_goals
      have hfin := set8_named (T := T2) hst4 hb04 (Nat.le_refl _)
      generalize hW5 : ((((((((w4.setCell ⟨w.heap.size, 0, none⟩ (.int .u32 T2.a.toNat)).setCell ⟨w.heap.size, 1, none⟩ (.int .u32 T2.b.toNat)).setCell ⟨w.heap.size, 2, none⟩ (.int .u32 T2.c.toNat)).setCell ⟨w.heap.size, 3, none⟩ (.int .u32 T2.d.toNat)).setCell ⟨w.heap.size, 4, none⟩ (.int .u32 T2.e.toNat)).setCell ⟨w.heap.size, 5, none⟩ (.int .u32 T2.f.toNat)).setCell ⟨w.heap.size, 6, none⟩ (.int .u32 T2.g.toNat)).setCell ⟨w.heap.size, 7, none⟩ (.int .u32 T2.h.toNat)) = W5 at hfin ⊢
      go_wp2_with fail
      go_meet
      exact hfin
  case rest =>
    obtain ⟨hst5, hb05⟩ := hcut
    clear z0 z1 z2 z3 z4 z5 z6 z7 hst2 hb02 HE HB2 HAB HTB hm2 hq4 eA e1 hbyt HT2 HT1 HR HTL HQ hq1 hq2 hq3
    obtain ⟨i0, hi0, hz0, hz1, hz2⟩ := info_parts info_u8
    have i0x := fun w => index8_0 (.int .u32 T2.a.toNat) (.int .u32 T2.b.toNat) (.int .u32 T2.c.toNat) (.int .u32 T2.d.toNat) (.int .u32 T2.e.toNat) (.int .u32 T2.f.toNat) (.int .u32 T2.g.toNat) (.int .u32 T2.h.toNat) w
    have i1x := fun w => index8_1 (.int .u32 T2.a.toNat) (.int .u32 T2.b.toNat) (.int .u32 T2.c.toNat) (.int .u32 T2.d.toNat) (.int .u32 T2.e.toNat) (.int .u32 T2.f.toNat) (.int .u32 T2.g.toNat) (.int .u32 T2.h.toNat) w
    have i2x := fun w => index8_2 (.int .u32 T2.a.toNat) (.int .u32 T2.b.toNat) (.int .u32 T2.c.toNat) (.int .u32 T2.d.toNat) (.int .u32 T2.e.toNat) (.int .u32 T2.f.toNat) (.int .u32 T2.g.toNat) (.int .u32 T2.h.toNat) w
    have i3x := fun w => index8_3 (.int .u32 T2.a.toNat) (.int .u32 T2.b.toNat) (.int .u32 T2.c.toNat) (.int .u32 T2.d.toNat) (.int .u32 T2.e.toNat) (.int .u32 T2.f.toNat) (.int .u32 T2.g.toNat) (.int .u32 T2.h.toNat) w
    have i4x := fun w => index8_4 (.int .u32 T2.a.toNat) (.int .u32 T2.b.toNat) (.int .u32 T2.c.toNat) (.int .u32 T2.d.toNat) (.int .u32 T2.e.toNat) (.int .u32 T2.f.toNat) (.int .u32 T2.g.toNat) (.int .u32 T2.h.toNat) w
    have i5x := fun w => index8_5 (.int .u32 T2.a.toNat) (.int .u32 T2.b.toNat) (.int .u32 T2.c.toNat) (.int .u32 T2.d.toNat) (.int .u32 T2.e.toNat) (.int .u32 T2.f.toNat) (.int .u32 T2.g.toNat) (.int .u32 T2.h.toNat) w
    have i6x := fun w => index8_6 (.int .u32 T2.a.toNat) (.int .u32 T2.b.toNat) (.int .u32 T2.c.toNat) (.int .u32 T2.d.toNat) (.int .u32 T2.e.toNat) (.int .u32 T2.f.toNat) (.int .u32 T2.g.toNat) (.int .u32 T2.h.toNat) w
    have i7x := fun w => index8_7 (.int .u32 T2.a.toNat) (.int .u32 T2.b.toNat) (.int .u32 T2.c.toNat) (.int .u32 T2.d.toNat) (.int .u32 T2.e.toNat) (.int .u32 T2.f.toNat) (.int .u32 T2.g.toNat) (.int .u32 T2.h.toNat) w
    go_wp2_with (at_make; refine wpList_make_own _ rfl _ _ 22 rfl w.heap.size 5 i0 (.int .u8 0) 1 Tryz.underlying22 hi0 hz0 hz1 .i64 .i64 _ 32 rfl rfl (by omega) (by rw [hz2]; omega) (by unfold maxLen; omega) hb05.size ?_; intro w6 hown6 hg6; have hb6 := hb05.grown hg6 hb05.size (by simp); have hst6 : StIs w6 w.heap.size T2 := (hg6.block _ hst5.lt (by simp)).trans hst5; obtain ⟨⟨z0, z1, z2, z3, z4, z5, z6, z7⟩, _⟩ := row8 hst6; clear hg6)
    refine wp_loop_rounds 9 ?_
    rw [rounds_succ]
    go_wp2_with (at_builtin; refine wpList_append_lies _ rfl (.tmp 33) (.tmp 45) 22 rfl w.heap.size 5 i0 (.int .u8 0) 1 1 Tryz.underlying22 hi0 hz0 hz1 hz2 rfl (by omega) (.slice (some ⟨wc.heap.size, 0, none⟩) 0 32) 0 [] rfl (hown6.alloc _) ⟨w6.heap.size, 0, none⟩ 4 4 [.int .u8 ((T2.a.toNat : Int) / 16777216 % 256), .int .u8 ((T2.a.toNat : Int) / 65536 % 256), .int .u8 ((T2.a.toNat : Int) / 256 % 256), .int .u8 ((T2.a.toNat : Int) % 256)] rfl rfl (World.news_of_block (cs := #[.int .u8 ((T2.a.toNat : Int) / 16777216 % 256), .int .u8 ((T2.a.toNat : Int) / 65536 % 256), .int .u8 ((T2.a.toNat : Int) / 256 % 256), .int .u8 ((T2.a.toNat : Int) % 256)]) (t := 5) (fr := (0, 0)) (heap_alloc_new w6 _)) (raw_one _ _ _ _) (by omega) (by decide) (by omega) (le_alloc hb6.size _) _ rfl ?_; intro g0 cap0 w7 hq0 hg0 _ _; have hb7 := (hb6.alloc hb6.size _).grown hg0 (le_alloc hb6.size _) (fun g hg => (hown6.lt g hg).1); have hown7 : w7.ownsRow w.heap.size 5 1 (.slice (some ⟨g0, 0, none⟩) 4 cap0) 4 (bv (bytes4 T2.a)) := (by have h := hq0; rw [raw4] at h; exact h); clear hq0 hg0 hown6 hb6)
    rw [rounds_succ]
    go_wp2_with (at_builtin; refine wpList_append_lies _ rfl (.tmp 33) (.tmp 45) 22 rfl w.heap.size 5 i0 (.int .u8 0) 1 1 Tryz.underlying22 hi0 hz0 hz1 hz2 rfl (by omega) (.slice (some ⟨g0, 0, none⟩) 4 cap0) 4 (bv (bytes4 T2.a)) rfl (hown7.alloc _) ⟨w7.heap.size, 0, none⟩ 4 4 [.int .u8 ((T2.b.toNat : Int) / 16777216 % 256), .int .u8 ((T2.b.toNat : Int) / 65536 % 256), .int .u8 ((T2.b.toNat : Int) / 256 % 256), .int .u8 ((T2.b.toNat : Int) % 256)] rfl rfl (World.news_of_block (cs := #[.int .u8 ((T2.b.toNat : Int) / 16777216 % 256), .int .u8 ((T2.b.toNat : Int) / 65536 % 256), .int .u8 ((T2.b.toNat : Int) / 256 % 256), .int .u8 ((T2.b.toNat : Int) % 256)]) (t := 5) (fr := (0, 0)) (heap_alloc_new w7 _)) (raw_one _ _ _ _) (by omega) (by decide) (by omega) (le_alloc hb7.size _) _ rfl ?_; intro g1 cap1 w8 hq1 hg1 _ _; have hb8 := (hb7.alloc hb7.size _).grown hg1 (le_alloc hb7.size _) (fun g hg => (hown7.lt g hg).1); have hown8 : w8.ownsRow w.heap.size 5 1 (.slice (some ⟨g1, 0, none⟩) 8 cap1) 8 (bv (bytes4 T2.a ++ bytes4 T2.b)) := (by have h := hq1; rw [raw4, ← bv_append] at h; exact h); clear hq1 hg1 hown7 hb7)
    rw [rounds_succ]
    go_wp2_with (at_builtin; refine wpList_append_lies _ rfl (.tmp 33) (.tmp 45) 22 rfl w.heap.size 5 i0 (.int .u8 0) 1 1 Tryz.underlying22 hi0 hz0 hz1 hz2 rfl (by omega) (.slice (some ⟨g1, 0, none⟩) 8 cap1) 8 (bv (bytes4 T2.a ++ bytes4 T2.b)) rfl (hown8.alloc _) ⟨w8.heap.size, 0, none⟩ 4 4 [.int .u8 ((T2.c.toNat : Int) / 16777216 % 256), .int .u8 ((T2.c.toNat : Int) / 65536 % 256), .int .u8 ((T2.c.toNat : Int) / 256 % 256), .int .u8 ((T2.c.toNat : Int) % 256)] rfl rfl (World.news_of_block (cs := #[.int .u8 ((T2.c.toNat : Int) / 16777216 % 256), .int .u8 ((T2.c.toNat : Int) / 65536 % 256), .int .u8 ((T2.c.toNat : Int) / 256 % 256), .int .u8 ((T2.c.toNat : Int) % 256)]) (t := 5) (fr := (0, 0)) (heap_alloc_new w8 _)) (raw_one _ _ _ _) (by omega) (by decide) (by omega) (le_alloc hb8.size _) _ rfl ?_; intro g2 cap2 w9 hq2 hg2 _ _; have hb9 := (hb8.alloc hb8.size _).grown hg2 (le_alloc hb8.size _) (fun g hg => (hown8.lt g hg).1); have hown9 : w9.ownsRow w.heap.size 5 1 (.slice (some ⟨g2, 0, none⟩) 12 cap2) 12 (bv (bytes4 T2.a ++ bytes4 T2.b ++ bytes4 T2.c)) := (by have h := hq2; rw [raw4, ← bv_append] at h; exact h); clear hq2 hg2 hown8 hb8)
    rw [rounds_succ]
    go_wp2_with (at_builtin; refine wpList_append_lies _ rfl (.tmp 33) (.tmp 45) 22 rfl w.heap.size 5 i0 (.int .u8 0) 1 1 Tryz.underlying22 hi0 hz0 hz1 hz2 rfl (by omega) (.slice (some ⟨g2, 0, none⟩) 12 cap2) 12 (bv (bytes4 T2.a ++ bytes4 T2.b ++ bytes4 T2.c)) rfl (hown9.alloc _) ⟨w9.heap.size, 0, none⟩ 4 4 [.int .u8 ((T2.d.toNat : Int) / 16777216 % 256), .int .u8 ((T2.d.toNat : Int) / 65536 % 256), .int .u8 ((T2.d.toNat : Int) / 256 % 256), .int .u8 ((T2.d.toNat : Int) % 256)] rfl rfl (World.news_of_block (cs := #[.int .u8 ((T2.d.toNat : Int) / 16777216 % 256), .int .u8 ((T2.d.toNat : Int) / 65536 % 256), .int .u8 ((T2.d.toNat : Int) / 256 % 256), .int .u8 ((T2.d.toNat : Int) % 256)]) (t := 5) (fr := (0, 0)) (heap_alloc_new w9 _)) (raw_one _ _ _ _) (by omega) (by decide) (by omega) (le_alloc hb9.size _) _ rfl ?_; intro g3 cap3 w10 hq3 hg3 _ _; have hb10 := (hb9.alloc hb9.size _).grown hg3 (le_alloc hb9.size _) (fun g hg => (hown9.lt g hg).1); have hown10 : w10.ownsRow w.heap.size 5 1 (.slice (some ⟨g3, 0, none⟩) 16 cap3) 16 (bv (bytes4 T2.a ++ bytes4 T2.b ++ bytes4 T2.c ++ bytes4 T2.d)) := (by have h := hq3; rw [raw4, ← bv_append] at h; exact h); clear hq3 hg3 hown9 hb9)
    rw [rounds_succ]
    go_wp2_with (at_builtin; refine wpList_append_lies _ rfl (.tmp 33) (.tmp 45) 22 rfl w.heap.size 5 i0 (.int .u8 0) 1 1 Tryz.underlying22 hi0 hz0 hz1 hz2 rfl (by omega) (.slice (some ⟨g3, 0, none⟩) 16 cap3) 16 (bv (bytes4 T2.a ++ bytes4 T2.b ++ bytes4 T2.c ++ bytes4 T2.d)) rfl (hown10.alloc _) ⟨w10.heap.size, 0, none⟩ 4 4 [.int .u8 ((T2.e.toNat : Int) / 16777216 % 256), .int .u8 ((T2.e.toNat : Int) / 65536 % 256), .int .u8 ((T2.e.toNat : Int) / 256 % 256), .int .u8 ((T2.e.toNat : Int) % 256)] rfl rfl (World.news_of_block (cs := #[.int .u8 ((T2.e.toNat : Int) / 16777216 % 256), .int .u8 ((T2.e.toNat : Int) / 65536 % 256), .int .u8 ((T2.e.toNat : Int) / 256 % 256), .int .u8 ((T2.e.toNat : Int) % 256)]) (t := 5) (fr := (0, 0)) (heap_alloc_new w10 _)) (raw_one _ _ _ _) (by omega) (by decide) (by omega) (le_alloc hb10.size _) _ rfl ?_; intro g4 cap4 w11 hq4 hg4 _ _; have hb11 := (hb10.alloc hb10.size _).grown hg4 (le_alloc hb10.size _) (fun g hg => (hown10.lt g hg).1); have hown11 : w11.ownsRow w.heap.size 5 1 (.slice (some ⟨g4, 0, none⟩) 20 cap4) 20 (bv (bytes4 T2.a ++ bytes4 T2.b ++ bytes4 T2.c ++ bytes4 T2.d ++ bytes4 T2.e)) := (by have h := hq4; rw [raw4, ← bv_append] at h; exact h); clear hq4 hg4 hown10 hb10)
    rw [rounds_succ]
    go_wp2_with (at_builtin; refine wpList_append_lies _ rfl (.tmp 33) (.tmp 45) 22 rfl w.heap.size 5 i0 (.int .u8 0) 1 1 Tryz.underlying22 hi0 hz0 hz1 hz2 rfl (by omega) (.slice (some ⟨g4, 0, none⟩) 20 cap4) 20 (bv (bytes4 T2.a ++ bytes4 T2.b ++ bytes4 T2.c ++ bytes4 T2.d ++ bytes4 T2.e)) rfl (hown11.alloc _) ⟨w11.heap.size, 0, none⟩ 4 4 [.int .u8 ((T2.f.toNat : Int) / 16777216 % 256), .int .u8 ((T2.f.toNat : Int) / 65536 % 256), .int .u8 ((T2.f.toNat : Int) / 256 % 256), .int .u8 ((T2.f.toNat : Int) % 256)] rfl rfl (World.news_of_block (cs := #[.int .u8 ((T2.f.toNat : Int) / 16777216 % 256), .int .u8 ((T2.f.toNat : Int) / 65536 % 256), .int .u8 ((T2.f.toNat : Int) / 256 % 256), .int .u8 ((T2.f.toNat : Int) % 256)]) (t := 5) (fr := (0, 0)) (heap_alloc_new w11 _)) (raw_one _ _ _ _) (by omega) (by decide) (by omega) (le_alloc hb11.size _) _ rfl ?_; intro g5 cap5 w12 hq5 hg5 _ _; have hb12 := (hb11.alloc hb11.size _).grown hg5 (le_alloc hb11.size _) (fun g hg => (hown11.lt g hg).1); have hown12 : w12.ownsRow w.heap.size 5 1 (.slice (some ⟨g5, 0, none⟩) 24 cap5) 24 (bv (bytes4 T2.a ++ bytes4 T2.b ++ bytes4 T2.c ++ bytes4 T2.d ++ bytes4 T2.e ++ bytes4 T2.f)) := (by have h := hq5; rw [raw4, ← bv_append] at h; exact h); clear hq5 hg5 hown11 hb11)
    rw [rounds_succ]
    go_wp2_with (at_builtin; refine wpList_append_lies _ rfl (.tmp 33) (.tmp 45) 22 rfl w.heap.size 5 i0 (.int .u8 0) 1 1 Tryz.underlying22 hi0 hz0 hz1 hz2 rfl (by omega) (.slice (some ⟨g5, 0, none⟩) 24 cap5) 24 (bv (bytes4 T2.a ++ bytes4 T2.b ++ bytes4 T2.c ++ bytes4 T2.d ++ bytes4 T2.e ++ bytes4 T2.f)) rfl (hown12.alloc _) ⟨w12.heap.size, 0, none⟩ 4 4 [.int .u8 ((T2.g.toNat : Int) / 16777216 % 256), .int .u8 ((T2.g.toNat : Int) / 65536 % 256), .int .u8 ((T2.g.toNat : Int) / 256 % 256), .int .u8 ((T2.g.toNat : Int) % 256)] rfl rfl (World.news_of_block (cs := #[.int .u8 ((T2.g.toNat : Int) / 16777216 % 256), .int .u8 ((T2.g.toNat : Int) / 65536 % 256), .int .u8 ((T2.g.toNat : Int) / 256 % 256), .int .u8 ((T2.g.toNat : Int) % 256)]) (t := 5) (fr := (0, 0)) (heap_alloc_new w12 _)) (raw_one _ _ _ _) (by omega) (by decide) (by omega) (le_alloc hb12.size _) _ rfl ?_; intro g6 cap6 w13 hq6 hg6 _ _; have hb13 := (hb12.alloc hb12.size _).grown hg6 (le_alloc hb12.size _) (fun g hg => (hown12.lt g hg).1); have hown13 : w13.ownsRow w.heap.size 5 1 (.slice (some ⟨g6, 0, none⟩) 28 cap6) 28 (bv (bytes4 T2.a ++ bytes4 T2.b ++ bytes4 T2.c ++ bytes4 T2.d ++ bytes4 T2.e ++ bytes4 T2.f ++ bytes4 T2.g)) := (by have h := hq6; rw [raw4, ← bv_append] at h; exact h); clear hq6 hg6 hown12 hb12)
    rw [rounds_succ]
    go_wp2_with (at_builtin; refine wpList_append_lies _ rfl (.tmp 33) (.tmp 45) 22 rfl w.heap.size 5 i0 (.int .u8 0) 1 1 Tryz.underlying22 hi0 hz0 hz1 hz2 rfl (by omega) (.slice (some ⟨g6, 0, none⟩) 28 cap6) 28 (bv (bytes4 T2.a ++ bytes4 T2.b ++ bytes4 T2.c ++ bytes4 T2.d ++ bytes4 T2.e ++ bytes4 T2.f ++ bytes4 T2.g)) rfl (hown13.alloc _) ⟨w13.heap.size, 0, none⟩ 4 4 [.int .u8 ((T2.h.toNat : Int) / 16777216 % 256), .int .u8 ((T2.h.toNat : Int) / 65536 % 256), .int .u8 ((T2.h.toNat : Int) / 256 % 256), .int .u8 ((T2.h.toNat : Int) % 256)] rfl rfl (World.news_of_block (cs := #[.int .u8 ((T2.h.toNat : Int) / 16777216 % 256), .int .u8 ((T2.h.toNat : Int) / 65536 % 256), .int .u8 ((T2.h.toNat : Int) / 256 % 256), .int .u8 ((T2.h.toNat : Int) % 256)]) (t := 5) (fr := (0, 0)) (heap_alloc_new w13 _)) (raw_one _ _ _ _) (by omega) (by decide) (by omega) (le_alloc hb13.size _) _ rfl ?_; intro g7 cap7 w14 hq7 hg7 _ _; have hb14 := (hb13.alloc hb13.size _).grown hg7 (le_alloc hb13.size _) (fun g hg => (hown13.lt g hg).1); have hown14 : w14.ownsRow w.heap.size 5 1 (.slice (some ⟨g7, 0, none⟩) 32 cap7) 32 (bv (bytes4 T2.a ++ bytes4 T2.b ++ bytes4 T2.c ++ bytes4 T2.d ++ bytes4 T2.e ++ bytes4 T2.f ++ bytes4 T2.g ++ bytes4 T2.h)) := (by have h := hq7; rw [raw4, ← bv_append] at h; exact h); clear hq7 hg7 hown13 hb13)
    rw [rounds_succ]
    go_wp2
    go_ret
    have hd : digest T2 = bytes4 T2.a ++ bytes4 T2.b ++ bytes4 T2.c ++ bytes4 T2.d ++ bytes4 T2.e ++ bytes4 T2.f ++ bytes4 T2.g ++ bytes4 T2.h := by simp [digest, St.list]
    refine ⟨_, rfl, ?_, hb14⟩
    rw [← HDone.out, hd]
    exact hown14
end Go.Proofs.YtaadmgbmaekicaaGreatDoor.Sh
