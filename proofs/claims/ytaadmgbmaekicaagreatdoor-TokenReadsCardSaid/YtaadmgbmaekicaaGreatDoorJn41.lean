/-
  The program's own Mint of a token, by contract. Written by mk_tkpgj.py.
-/
import Derived.Test.YtaadmgbmaekicaaGreatDoorJn40
import Derived.Test.YtaadmgbmaekicaaGreatDoorJn39
set_option linter.unusedVariables false
set_option linter.unusedSimpArgs false
namespace Go.Proofs.YtaadmgbmaekicaaGreatDoor.Sh
open Go Go.RowKit

set_option linter.unusedSimpArgs false
set_option linter.unusedVariables false
theorem OpN.wide {w : World} {T : TypeId} {k B B' U U' n : Nat} {A : Option Addr} (h : OpN w T k B U A n) (h1 : B' ≤ B) (h2 : U ≤ U') : OpN w T k B' U' A n := fun h0 => by
  obtain ⟨g, e, k1, k2, r⟩ := h h0
  exact ⟨g, e, Nat.le_trans h1 k1, Nat.lt_of_lt_of_le k2 h2, r⟩
theorem TokWr.wide {w : World} {B B' U U' : Nat} {th : TH} {hs : List CH} (h : TokWr w B U th hs) (h1 : B' ≤ B) (h2 : U ≤ U') : TokWr w B' U' th hs :=
  ⟨h.r.wide h1 h2, h.s.wide h1 h2, h.t.wide h1 h2, h.len, fun h0 => by
    obtain ⟨g, cs, e, k1, k2, r⟩ := h.c h0
    exact ⟨g, cs, e, Nat.le_trans h1 k1, Nat.lt_of_lt_of_le k2 h2, r⟩, fun i x hi => ⟨(h.cr i x hi).1, (h.cr i x hi).2.1, (h.cr i x hi).2.2.wide h1 h2⟩⟩
/-- A new token behind a store into another new block. -/
theorem NewTok.then {w w6 w7 w8 : World} {th : TH} {t : Tok} {X : Nat → Prop} (h : NewTok w6 w7 th t) (b : Below w.heap.size w w6) (hg : Grew w7 w8 X) (hx : ∀ c, w6.heap.size ≤ c → ¬ X c) (hx2 : ∀ c, X c → w.heap.size ≤ c) : NewTok w w8 th t := by
  obtain ⟨hs, hw⟩ := h.wr
  have s1 := b.size
  have s2 := h.below.size
  refine ⟨(h.at_.grew hg (fun c hc => hx c hc)).imp (fun c hc _ => Nat.le_trans s1 hc), ⟨hs, (hw.grew hg (fun c hc _ => hx c hc)).wide s1 hg.size⟩, ?_⟩
  exact hg.then_below (b.trans (h.below.mono s1)) (by omega) hx2
theorem NewTok.zero {w w' : World} (b : Below w.heap.size w w') : NewTok w w' TH.zero Tok.zero :=
  ⟨TokAt.zero w' _, ⟨[], ⟨OpN.nil _ _ _ _ _ _, OpN.nil _ _ _ _ _ _, OpN.nil _ _ _ _ _ _, rfl, fun h => absurd h (by simp [TH.zero]), fun i h hi => by simp at hi⟩⟩, b⟩
def zero32 : Array Value := (List.replicate 32 (Value.int .u8 0)).toArray
theorem make32 (w : World) : (Instr.makeSlice 22 (.int .i64 32) (.int .i64 32)).run Tryz.prog w = .ok (.slice (some ⟨w.heap.size, 0, none⟩) 32 32) (w.alloc (.cells zero32 5)) := by kernel_rfl
theorem byt_zero32 (w : World) (Q : Nat → Prop) (g : Nat) (hq : Q g) (h : w.heap[g]? = some (.cells zero32 5 (0, 0))) : BytQ w Q (some ⟨g, 0, none⟩) (List.replicate 32 0) := fun _ => by
  refine ⟨_, rfl, hq, (Array.getElem?_eq_some_iff.1 h).1, fun j x hx => ?_⟩
  obtain ⟨hj, e⟩ := List.getElem?_eq_some_iff.1 hx
  rw [List.length_replicate] at hj
  rw [List.getElem_replicate] at e
  subst e
  rw [addr_rowE, cell_of_row _ _ j _ _ (0, 0) h]
  unfold zero32
  rw [List.getElem?_toArray, List.getElem?_replicate, if_pos hj]
  rfl
/-- The boxed token with no caveats and a zero tag. -/
structure Bare3 (w w1 w3 : World) (th : TH) (gb : Nat) : Prop where
  hx : ThAt w3 w.heap.size { th with cA := none, cn := 0, cc := 0, tA := some ⟨gb, 0, none⟩, tn := 32, tc := 32 }
  hz : ThAt w3 (w.heap.size + 1) TH.zero
  row : w3.heap[gb]? = some (.cells zero32 5 (0, 0))
  gb : w.heap.size ≤ gb
  below : Below w.heap.size w w3
theorem bare3_a {w w1 : World} {th : TH} (hx : ThAt w1 w.heap.size th) (hz : ThAt w1 (w.heap.size + 1) TH.zero) (b : Below w.heap.size w w1) (hs : w1.heap.size = w.heap.size + 2) :
    Bare3 w w1 (((w1.alloc (.cells zero32 5)).setCell ⟨w.heap.size, 7, none⟩ (.slice none 0 0)).setCell ⟨w.heap.size, 8, none⟩ (.slice (some ⟨w1.heap.size, 0, none⟩) 32 32)) th w1.heap.size := by
  have b2 : Below w1.heap.size w1 (w1.alloc (.cells zero32 5)) := (Below.refl _ _).alloc (Nat.le_refl _) _
  refine ⟨((hx.below b2).cavs none 0 0).tag _ 32 32, ?_, ?_, by omega, ?_⟩
  · exact ((hz.below b2).other (gro_set1 _ _ 7 _) (by omega)).other (gro_set1 _ _ 8 _) (by omega)
  · have h := heap_alloc_new w1 (.cells zero32 5)
    rw [heap_setCell_other _ _ _ _ (by simp; omega), heap_setCell_other _ _ _ _ (by simp; omega)]
    exact h
  · exact ((b.trans (b2.mono (by omega))).setCell (p := ⟨w.heap.size, 7, none⟩) (Nat.le_refl _) _).setCell (p := ⟨w.heap.size, 8, none⟩) (Nat.le_refl _) _
theorem bare3_b {w w1 : World} {th : TH} (hx : ThAt w1 w.heap.size th) (hz : ThAt w1 (w.heap.size + 1) TH.zero) (b : Below w.heap.size w w1) (hs : w1.heap.size = w.heap.size + 2) :
    Bare3 w w1 (((w1.setCell ⟨w.heap.size, 7, none⟩ (.slice none 0 0)).alloc (.cells zero32 5)).setCell ⟨w.heap.size, 8, none⟩ (.slice (some ⟨w1.heap.size, 0, none⟩) 32 32)) th w1.heap.size := by
  have hs2 : (w1.setCell ⟨w.heap.size, 7, none⟩ (.slice none 0 0)).heap.size = w1.heap.size := World.size_setCell _ _ _
  have b2 : Below (w1.setCell ⟨w.heap.size, 7, none⟩ (.slice none 0 0)).heap.size (w1.setCell ⟨w.heap.size, 7, none⟩ (.slice none 0 0)) ((w1.setCell ⟨w.heap.size, 7, none⟩ (.slice none 0 0)).alloc (.cells zero32 5)) := (Below.refl _ _).alloc (Nat.le_refl _) _
  refine ⟨((hx.cavs none 0 0).below b2).tag _ 32 32, ?_, ?_, by omega, ?_⟩
  · exact ((hz.other (gro_set1 _ _ 7 _) (by omega)).below b2).other (gro_set1 _ _ 8 _) (by omega)
  · have h := heap_alloc_new (w1.setCell ⟨w.heap.size, 7, none⟩ (.slice none 0 0)) (.cells zero32 5)
    rw [hs2] at h
    rw [heap_setCell_other _ _ _ _ (by simp; omega)]
    exact h
  · exact (((b.setCell (p := ⟨w.heap.size, 7, none⟩) (Nat.le_refl _) _).trans (b2.mono (by rw [hs2]; omega)))).setCell (p := ⟨w.heap.size, 8, none⟩) (Nat.le_refl _) _
theorem below_x' {w w' : World} {B x : Nat} (h : Below B w w') (w2 : World) (hg : w'.grownBy w2 (some x)) (hB : B ≤ w'.heap.size) (hx : B ≤ x) : Below B w w2 := h.grown hg hB (fun b e => by injection e with e; omega)
theorem Bare3.drew {w w1 w3 : World} {th : TH} {gb : Nat} (h : Bare3 w w1 w3 th gb) : Bare3 w w1 w3.drew th gb := ⟨h.hx, h.hz, h.row, h.gb, h.below.drew⟩
open Classical in
set_option maxHeartbeats 16000000 in
set_option maxRecDepth 100000 in
theorem pMint12_any {w : World} (hT : Tab w) {Q : Nat → Prop} {th : TH} {t : Tok} (a : TokAt w Q th t) (hf : FewTok t) (A : Option Addr) (key : List UInt8) (n c : Nat) (hn : key.length = n) (hL : n ≤ 100) (hnc : n ≤ c) (hcm : c ≤ 9223372036854775807) (hb : Byt w w.heap.size A key) :
    Calls Tryz.prog 7 #[.slice A n c, .agg #[.int .i64 th.d, .int .i64 th.e, .int .i64 th.n, .string th.who, .slice th.rA th.rn th.rc, .int .i64 th.til, .slice th.sA th.sn th.sc, .slice th.cA th.cn th.cc, .slice th.tA th.tn th.tc]] w fun e w' => ∃ th', e = .returned (.tuple #[.agg th'.cells.toArray, .int .i64 (mintE t)]) ∧ NewTok w w' th' (mintR key t) := by
  have HA := hid (fun W (hW : Below w.heap.size w W) => a.below hW)
  have HK := hid (fun W (hW : Below w.heap.size w W) => (hb.below hW).more hW.size)
  have HTT := hid (fun W (hW : Below w.heap.size w W) => hT.below hT.pos hW)
  have HN := hid hn
  have HF0 : Hid (FewTok (bareT t)) := hid ⟨hf.r, hf.s, by simp [bareT], by simp [bareT], by simp [bareT]⟩
  have hmk := make32
  have HA0 := hid a
  obtain ⟨d, e, m, who, rA, rn, rc, til, sA, sn, sc, cA, cn, cc, tA, tn, tc⟩ := th
  simp only at HA ⊢
  obtain ⟨w1, hw1⟩ : ∃ y, y = (w.alloc (.cells #[.int .i64 d, .int .i64 e, .int .i64 m, .string who, .slice rA rn rc, .int .i64 til, .slice sA sn sc, .slice cA cn cc, .slice tA tn tc] 27)).alloc (.cells #[.int .i64 0, .int .i64 0, .int .i64 0, .string ⟨#[]⟩, .slice none 0 0, .int .i64 0, .slice none 0 0, .slice none 0 0, .slice none 0 0] 27) := ⟨_, rfl⟩
  have HB1 : Hid (Below w.heap.size w w1) := hid (by rw [hw1]; exact below_alloc2 w _ _)
  have HX1 : Hid (ThAt w1 w.heap.size ⟨d, e, m, who, rA, rn, rc, til, sA, sn, sc, cA, cn, cc, tA, tn, tc⟩) := hid (by
    rw [hw1]
    exact (ThAt.new w ⟨d, e, m, who, rA, rn, rc, til, sA, sn, sc, cA, cn, cc, tA, tn, tc⟩).below ((Below.refl _ _).alloc (Nat.le_refl _) _))
  have HZ1 : Hid (ThAt w1 (w.heap.size + 1) TH.zero) := hid (by
    rw [hw1]
    have q := ThAt.new (w.alloc (.cells #[.int .i64 d, .int .i64 e, .int .i64 m, .string who, .slice rA rn rc, .int .i64 til, .slice sA sn sc, .slice cA cn cc, .slice tA tn tc] 27)) TH.zero
    rw [World.size_alloc] at q
    exact q)
  have HS1 : Hid (w1.heap.size = w.heap.size + 2) := hid (by rw [hw1]; simp)
  have HBA := hid (bare3_a HX1.out HZ1.out HB1.out HS1.out)
  have HBB := hid (bare3_b HX1.out HZ1.out HB1.out HS1.out)
  have HW1 := hid hw1
  obtain ⟨c0, c1, c2, c3, c4, c5, c6, c7, c8⟩ := HX1.out.all
  have f7 := HX1.out.f 7
  have f8 := HX1.out.f 8
  simp only at c0 c1 c2 c3 c4 c5 c6 c7 c8
  clear a hw1 hn hb hf hT
  go_enter Tryz.func7, Tryz.ntmps7
  go_upto_region 1 with fail
  rw [← HW1.out]
  have HA1 : Below w1.heap.size w1 (w1.alloc (.cells zero32 5)) := (Below.refl _ _).alloc (Nat.le_refl _) _
  have x2 := HX1.out.below HA1
  have k1 := x2.all.2.2.2.2.2.2.2.1
  have k2 := x2.f 7
  have k3 := x2.all.2.2.2.2.2.2.2.2
  have k4 := x2.f 8
  have x3 := (HX1.out.cavs none 0 0).below (show Below (w1.setCell ⟨w.heap.size, 7, none⟩ (.slice none 0 0)).heap.size (w1.setCell ⟨w.heap.size, 7, none⟩ (.slice none 0 0)) ((w1.setCell ⟨w.heap.size, 7, none⟩ (.slice none 0 0)).alloc (.cells zero32 5)) from (Below.refl _ _).alloc (Nat.le_refl _) _)
  have k5 := x3.all.2.2.2.2.2.2.2.2
  have k6 := x3.f 8
  simp only at k1 k3 k5
  clear HA1 x2 x3
  go_region
  · obtain ⟨w3, hw3⟩ : ∃ y, y = (((w1.alloc (.cells zero32 5)).setCell ⟨w.heap.size, 7, none⟩ (.slice none 0 0)).setCell ⟨w.heap.size, 8, none⟩ (.slice (some ⟨w1.heap.size, 0, none⟩) 32 32)).drew := ⟨_, rfl⟩
    have HB3 : Hid (Bare3 w w1 w3 ⟨d, e, m, who, rA, rn, rc, til, sA, sn, sc, cA, cn, cc, tA, tn, tc⟩ w1.heap.size) := hid (by rw [hw3]; exact HBA.out.drew)
    rw [← hw3]
    clear hw3
    clear HBA HBB k1 k2 k3 k4 k5 k6 f7 f8 c0 c1 c2 c3 c4 c5 c6 c7 c8 HX1 HZ1 HW1
    have HX3 : Hid (ThAt w3 w.heap.size ⟨d, e, m, who, rA, rn, rc, til, sA, sn, sc, none, 0, 0, some ⟨w1.heap.size, 0, none⟩, 32, 32⟩) := hid HB3.out.hx
    have HZ3 := hid HB3.out.hz
    have HA3 : Hid (TokAt w3 (fun b => Q b ∨ w.heap.size ≤ b) ⟨d, e, m, who, rA, rn, rc, til, sA, sn, sc, none, 0, 0, some ⟨w1.heap.size, 0, none⟩, 32, 32⟩ (bareT t)) := hid (by
      have a := HA.out w3 HB3.out.below
      exact ⟨a.d, a.e, a.n, a.who, a.til, a.rl, a.rc, a.rm, a.re.imp (fun _ h _ => .inl h), a.sl, a.sc, a.sm, a.se.imp (fun _ h _ => .inl h), rfl, Nat.le_refl _, by show (0 : Nat) ≤ _; omega, CavsQ.nil, by simp [bareT], Nat.le_refl _, by show (32 : Nat) ≤ _; omega, byt_zero32 w3 _ _ (.inr HB3.out.gb) HB3.out.row⟩)
    have HM3 := hid (pMay12_any HA3.out HF0.out)
    obtain ⟨c0, c1, c2, c3, c4, c5, c6, c7, c8⟩ := HX3.out.all
    simp only at c0 c1 c2 c3 c4 c5 c6 c7 c8 HM3
    by_cases hok : OkTok (bareT t)
    · rw [decide_eq_true hok] at HM3
      have HOK := hid hok
      have HEE : Hid (mintE t = 0) := hid (if_pos hok)
      have HRR : Hid (mintR key t = mintT key t) := hid (if_pos hok)
      clear hok
      go_wp2_with fail
      refine HM3.out.mono ?_
      rintro er w4 ⟨rfl, b4⟩
      have HX4 := hid (HX3.out.below b4)
      have HZ4 := hid (HZ3.out.below b4)
      have HA4 := hid (HA3.out.below b4)
      have HB4 := hid (HB3.out.below.trans (b4.mono HB3.out.below.size))
      have HH4 := hid (phead_any HA4.out HOK.out)
      clear b4 c0 c1 c2 c3 c4 c5 c6 c7 c8
      obtain ⟨c0, c1, c2, c3, c4, c5, c6, c7, c8⟩ := HX4.out.all
      simp only at c0 c1 c2 c3 c4 c5 c6 c7 c8 HH4
      go_wp2_with fail
      refine HH4.out.mono ?_
      rintro er w5 hP
      obtain ⟨A5, c5', N5, rfl, hl5, hN5, hc5, o5, b5⟩ := hP.all
      have HX5 := hid (HX4.out.below b5)
      have HZ5 := hid (HZ4.out.below b5)
      have HA5 := hid (HA4.out.below b5)
      have HB5 := hid (HB4.out.trans (b5.mono HB4.out.size))
      have hle5 : N5 ≤ 3000 := by rw [← hl5]; exact headB_le HOK.out
      obtain ⟨w6, hw6⟩ : ∃ y, y = w5.alloc (.cells #[.slice A5 N5 c5'] 22) := ⟨_, rfl⟩
      have HT5 := hid (ptag1_any A A5 key (headB (bareT t)) n c N5 c5' HN.out hnc hcm (by omega) hl5 hN5 hc5 (by omega) w5 w6 hw6 (HTT.out w5 HB5.out) (HK.out w5 HB5.out) o5.byt)
      have HW6 := hid hw6
      have HB6 : Hid (Below w5.heap.size w5 w6) := hid (by rw [hw6]; exact (Below.refl _ _).alloc (Nat.le_refl _) _)
      clear hP hl5 o5 b5 hw6 c0 c1 c2 c3 c4 c5 c6 c7 c8
      obtain ⟨c0, c1, c2, c3, c4, c5, c6, c7, c8⟩ := HX5.out.all
      simp only at c0 c1 c2 c3 c4 c5 c6 c7 c8
      go_wp2_with fail
      rw [← HW6.out]
      refine HT5.out.mono ?_
      rintro er w7 ⟨A7, c7', rfl, h71, h72, o7, b7⟩
      have HX7 := hid (HX5.out.below b7)
      have HZ7 := hid (HZ5.out.below b7)
      have HA7 := hid (HA5.out.below b7)
      have HB7 := hid (HB5.out.trans (b7.mono HB5.out.size))
      have HO7 := hid o7
      have HS5 : Hid (w.heap.size + 2 ≤ w5.heap.size) := hid (by have := HZ5.out.lt; omega)
      obtain ⟨w8, hw8⟩ : ∃ y, y = w7.setCell ⟨w.heap.size, 8, none⟩ (.slice A7 32 c7') := ⟨_, rfl⟩
      have HG8 : Hid (w7.grownBy w8 (some w.heap.size)) := hid (by rw [hw8]; exact gro_set1 _ _ _ _)
      have HX8 : Hid (ThAt w8 w.heap.size ⟨d, e, m, who, rA, rn, rc, til, sA, sn, sc, none, 0, 0, A7, 32, c7'⟩) := hid (by rw [hw8]; exact HX7.out.tag A7 32 c7')
      have HZ8 := hid (HZ7.out.other HG8.out (by omega))
      have HO8 := hid (HO7.out.other HG8.out (by have := HS5.out; omega))
      have HB8 : Hid (Below w.heap.size w w8) := hid (below_x' HB7.out w8 HG8.out HB7.out.size (Nat.le_refl _))
      have HA8 : Hid (TokAt w8 (fun _ => True) ⟨d, e, m, who, rA, rn, rc, til, sA, sn, sc, none, 0, 0, A7, 32, c7'⟩ (mintT key t)) := hid (by
        have a := HA.out w8 HB8.out
        exact ⟨a.d, a.e, a.n, a.who, a.til, a.rl, a.rc, a.rm, a.re.imp (fun _ _ _ => trivial), a.sl, a.sc, a.sm, a.se.imp (fun _ _ _ => trivial), rfl, Nat.le_refl _, by show (0 : Nat) ≤ _; omega, CavsQ.nil, by simp [mintT, hmac, sha_len], h71, h72, BytQ.own HO8.out (fun _ _ => trivial)⟩)
      have HC8 := hid (pcopied_any HA8.out (FewTok.ok HOK.out.mint))
      have HW8 := hid hw8
      clear o7 b7 hw8 c0 c1 c2 c3 c4 c5 c6 c7 c8
      obtain ⟨c0, c1, c2, c3, c4, c5, c6, c7, c8⟩ := HX7.out.all
      simp only at c0 c1 c2 c3 c4 c5 c6 c7 c8 HC8
      have q8 := HX7.out.f 8
      go_upto_region 5 with fail
      rw [← HW8.out]
      clear c0 c1 c2 c3 c4 c5 c6 c7 c8 q8
      obtain ⟨c0, c1, c2, c3, c4, c5, c6, c7, c8⟩ := HX8.out.all
      simp only at c0 c1 c2 c3 c4 c5 c6 c7 c8
      go_wp2_with fail
      refine HC8.out.mono ?_
      rintro er w9 ⟨k, rfl, nt⟩
      have HNT := hid nt
      have HZ9 := hid (HZ8.out.below nt.below)
      unfold TH.cells
      clear nt c0 c1 c2 c3 c4 c5 c6 c7 c8
      obtain ⟨z0, z1, z2, z3, z4, z5, z6, z7, z8⟩ := HZ9.out.all
      simp only [TH.zero, E0] at z0 z1 z2 z3 z4 z5 z6 z7 z8
      have g0 := HZ9.out.f 0
      have g1 := HZ9.out.f 1
      have g2 := HZ9.out.f 2
      have g3 := HZ9.out.f 3
      have g4 := HZ9.out.f 4
      have g5 := HZ9.out.f 5
      have g6 := HZ9.out.f 6
      have g7 := HZ9.out.f 7
      have g8 := HZ9.out.f 8
      obtain ⟨hput, hgro⟩ := HZ9.out.put k
      obtain ⟨wz, hwz⟩ : ∃ y, y = (((((((((w9.setCell ⟨w.heap.size + 1, 0, none⟩ (.int .i64 k.d)).setCell ⟨w.heap.size + 1, 1, none⟩ (.int .i64 k.e)).setCell ⟨w.heap.size + 1, 2, none⟩ (.int .i64 k.n)).setCell ⟨w.heap.size + 1, 3, none⟩ (.string k.who)).setCell ⟨w.heap.size + 1, 4, none⟩ (.slice k.rA k.rn k.rc)).setCell ⟨w.heap.size + 1, 5, none⟩ (.int .i64 k.til)).setCell ⟨w.heap.size + 1, 6, none⟩ (.slice k.sA k.sn k.sc)).setCell ⟨w.heap.size + 1, 7, none⟩ (.slice k.cA k.cn k.cc)).setCell ⟨w.heap.size + 1, 8, none⟩ (.slice k.tA k.tn k.tc)) := ⟨_, rfl⟩
      rw [← hwz] at hput hgro
      have HPZ := hid hput
      have HGZ : Hid (Grew w9 wz (fun b => b = w.heap.size + 1)) := hid (Grew.of_gro hgro rfl)
      have HWZ := hid hwz
      have HS8 : Hid (w.heap.size + 2 ≤ w8.heap.size) := hid (by have := HZ8.out.lt; omega)
      clear hput hgro hwz
      go_wp2_with fail
      rw [← HWZ.out]
      refine bodyPost_ret (results_cell_tmp (h := Tryz.results7) _ _ (w.heap.size + 1) 0 (TH.cells k) _ rfl (range_row HPZ.out) Tryz.underlying27 rfl info_token) rfl ?_
      rw [HEE.out, HRR.out]
      exact ⟨k, rfl, HNT.out.then HB8.out HGZ.out (fun c hc h => by have := HS8.out; omega) (fun c h => by omega)⟩
    · rw [decide_eq_false hok] at HM3
      have HEE : Hid (mintE t = 25) := hid (if_neg hok)
      have HRR : Hid (mintR key t = Tok.zero) := hid (if_neg hok)
      clear hok
      go_wp2_with fail
      refine HM3.out.mono ?_
      rintro er w4 ⟨rfl, b4⟩
      have HZ9 := hid (HZ3.out.below b4)
      have HB4 := hid (HB3.out.below.trans (b4.mono HB3.out.below.size))
      clear b4 c0 c1 c2 c3 c4 c5 c6 c7 c8
      obtain ⟨z0, z1, z2, z3, z4, z5, z6, z7, z8⟩ := HZ9.out.all
      simp only [TH.zero, E0] at z0 z1 z2 z3 z4 z5 z6 z7 z8
      have g0 := HZ9.out.f 0
      have g1 := HZ9.out.f 1
      have g2 := HZ9.out.f 2
      have g3 := HZ9.out.f 3
      have g4 := HZ9.out.f 4
      have g5 := HZ9.out.f 5
      have g6 := HZ9.out.f 6
      have g7 := HZ9.out.f 7
      have g8 := HZ9.out.f 8
      obtain ⟨hput, hgro⟩ := HZ9.out.put TH.zero
      obtain ⟨wz, hwz⟩ : ∃ y, y = (((((((((w4.setCell ⟨w.heap.size + 1, 0, none⟩ (.int .i64 0)).setCell ⟨w.heap.size + 1, 1, none⟩ (.int .i64 0)).setCell ⟨w.heap.size + 1, 2, none⟩ (.int .i64 0)).setCell ⟨w.heap.size + 1, 3, none⟩ (.string ⟨#[]⟩)).setCell ⟨w.heap.size + 1, 4, none⟩ (.slice none 0 0)).setCell ⟨w.heap.size + 1, 5, none⟩ (.int .i64 0)).setCell ⟨w.heap.size + 1, 6, none⟩ (.slice none 0 0)).setCell ⟨w.heap.size + 1, 7, none⟩ (.slice none 0 0)).setCell ⟨w.heap.size + 1, 8, none⟩ (.slice none 0 0)) := ⟨_, rfl⟩
      simp only [TH.zero, E0] at hput hgro
      rw [← hwz] at hput hgro
      have HPZ := hid hput
      have HBZ : Hid (Below w.heap.size w wz) := hid (below_x' HB4.out wz hgro HB4.out.size (by omega))
      have HWZ := hid hwz
      clear hput hgro hwz
      go_wp2_with fail
      rw [← HWZ.out]
      refine bodyPost_ret (results_cell_tmp (h := Tryz.results7) _ _ (w.heap.size + 1) 0 (TH.cells TH.zero) _ rfl (range_row HPZ.out) Tryz.underlying27 rfl info_token) rfl ?_
      rw [HEE.out, HRR.out]
      exact ⟨TH.zero, rfl, NewTok.zero HBZ.out⟩
  · obtain ⟨w3, hw3⟩ : ∃ y, y = (((w1.setCell ⟨w.heap.size, 7, none⟩ (.slice none 0 0)).alloc (.cells zero32 5)).setCell ⟨w.heap.size, 8, none⟩ (.slice (some ⟨w1.heap.size, 0, none⟩) 32 32)).drew := ⟨_, rfl⟩
    have HB3 : Hid (Bare3 w w1 w3 ⟨d, e, m, who, rA, rn, rc, til, sA, sn, sc, cA, cn, cc, tA, tn, tc⟩ w1.heap.size) := hid (by rw [hw3]; exact HBB.out.drew)
    rw [← hw3]
    clear hw3
    clear HBA HBB k1 k2 k3 k4 k5 k6 f7 f8 c0 c1 c2 c3 c4 c5 c6 c7 c8 HX1 HZ1 HW1
    have HX3 : Hid (ThAt w3 w.heap.size ⟨d, e, m, who, rA, rn, rc, til, sA, sn, sc, none, 0, 0, some ⟨w1.heap.size, 0, none⟩, 32, 32⟩) := hid HB3.out.hx
    have HZ3 := hid HB3.out.hz
    have HA3 : Hid (TokAt w3 (fun b => Q b ∨ w.heap.size ≤ b) ⟨d, e, m, who, rA, rn, rc, til, sA, sn, sc, none, 0, 0, some ⟨w1.heap.size, 0, none⟩, 32, 32⟩ (bareT t)) := hid (by
      have a := HA.out w3 HB3.out.below
      exact ⟨a.d, a.e, a.n, a.who, a.til, a.rl, a.rc, a.rm, a.re.imp (fun _ h _ => .inl h), a.sl, a.sc, a.sm, a.se.imp (fun _ h _ => .inl h), rfl, Nat.le_refl _, by show (0 : Nat) ≤ _; omega, CavsQ.nil, by simp [bareT], Nat.le_refl _, by show (32 : Nat) ≤ _; omega, byt_zero32 w3 _ _ (.inr HB3.out.gb) HB3.out.row⟩)
    have HM3 := hid (pMay12_any HA3.out HF0.out)
    obtain ⟨c0, c1, c2, c3, c4, c5, c6, c7, c8⟩ := HX3.out.all
    simp only at c0 c1 c2 c3 c4 c5 c6 c7 c8 HM3
    by_cases hok : OkTok (bareT t)
    · rw [decide_eq_true hok] at HM3
      have HOK := hid hok
      have HEE : Hid (mintE t = 0) := hid (if_pos hok)
      have HRR : Hid (mintR key t = mintT key t) := hid (if_pos hok)
      clear hok
      go_wp2_with fail
      refine HM3.out.mono ?_
      rintro er w4 ⟨rfl, b4⟩
      have HX4 := hid (HX3.out.below b4)
      have HZ4 := hid (HZ3.out.below b4)
      have HA4 := hid (HA3.out.below b4)
      have HB4 := hid (HB3.out.below.trans (b4.mono HB3.out.below.size))
      have HH4 := hid (phead_any HA4.out HOK.out)
      clear b4 c0 c1 c2 c3 c4 c5 c6 c7 c8
      obtain ⟨c0, c1, c2, c3, c4, c5, c6, c7, c8⟩ := HX4.out.all
      simp only at c0 c1 c2 c3 c4 c5 c6 c7 c8 HH4
      go_wp2_with fail
      refine HH4.out.mono ?_
      rintro er w5 hP
      obtain ⟨A5, c5', N5, rfl, hl5, hN5, hc5, o5, b5⟩ := hP.all
      have HX5 := hid (HX4.out.below b5)
      have HZ5 := hid (HZ4.out.below b5)
      have HA5 := hid (HA4.out.below b5)
      have HB5 := hid (HB4.out.trans (b5.mono HB4.out.size))
      have hle5 : N5 ≤ 3000 := by rw [← hl5]; exact headB_le HOK.out
      obtain ⟨w6, hw6⟩ : ∃ y, y = w5.alloc (.cells #[.slice A5 N5 c5'] 22) := ⟨_, rfl⟩
      have HT5 := hid (ptag1_any A A5 key (headB (bareT t)) n c N5 c5' HN.out hnc hcm (by omega) hl5 hN5 hc5 (by omega) w5 w6 hw6 (HTT.out w5 HB5.out) (HK.out w5 HB5.out) o5.byt)
      have HW6 := hid hw6
      have HB6 : Hid (Below w5.heap.size w5 w6) := hid (by rw [hw6]; exact (Below.refl _ _).alloc (Nat.le_refl _) _)
      clear hP hl5 o5 b5 hw6 c0 c1 c2 c3 c4 c5 c6 c7 c8
      obtain ⟨c0, c1, c2, c3, c4, c5, c6, c7, c8⟩ := HX5.out.all
      simp only at c0 c1 c2 c3 c4 c5 c6 c7 c8
      go_wp2_with fail
      rw [← HW6.out]
      refine HT5.out.mono ?_
      rintro er w7 ⟨A7, c7', rfl, h71, h72, o7, b7⟩
      have HX7 := hid (HX5.out.below b7)
      have HZ7 := hid (HZ5.out.below b7)
      have HA7 := hid (HA5.out.below b7)
      have HB7 := hid (HB5.out.trans (b7.mono HB5.out.size))
      have HO7 := hid o7
      have HS5 : Hid (w.heap.size + 2 ≤ w5.heap.size) := hid (by have := HZ5.out.lt; omega)
      obtain ⟨w8, hw8⟩ : ∃ y, y = w7.setCell ⟨w.heap.size, 8, none⟩ (.slice A7 32 c7') := ⟨_, rfl⟩
      have HG8 : Hid (w7.grownBy w8 (some w.heap.size)) := hid (by rw [hw8]; exact gro_set1 _ _ _ _)
      have HX8 : Hid (ThAt w8 w.heap.size ⟨d, e, m, who, rA, rn, rc, til, sA, sn, sc, none, 0, 0, A7, 32, c7'⟩) := hid (by rw [hw8]; exact HX7.out.tag A7 32 c7')
      have HZ8 := hid (HZ7.out.other HG8.out (by omega))
      have HO8 := hid (HO7.out.other HG8.out (by have := HS5.out; omega))
      have HB8 : Hid (Below w.heap.size w w8) := hid (below_x' HB7.out w8 HG8.out HB7.out.size (Nat.le_refl _))
      have HA8 : Hid (TokAt w8 (fun _ => True) ⟨d, e, m, who, rA, rn, rc, til, sA, sn, sc, none, 0, 0, A7, 32, c7'⟩ (mintT key t)) := hid (by
        have a := HA.out w8 HB8.out
        exact ⟨a.d, a.e, a.n, a.who, a.til, a.rl, a.rc, a.rm, a.re.imp (fun _ _ _ => trivial), a.sl, a.sc, a.sm, a.se.imp (fun _ _ _ => trivial), rfl, Nat.le_refl _, by show (0 : Nat) ≤ _; omega, CavsQ.nil, by simp [mintT, hmac, sha_len], h71, h72, BytQ.own HO8.out (fun _ _ => trivial)⟩)
      have HC8 := hid (pcopied_any HA8.out (FewTok.ok HOK.out.mint))
      have HW8 := hid hw8
      clear o7 b7 hw8 c0 c1 c2 c3 c4 c5 c6 c7 c8
      obtain ⟨c0, c1, c2, c3, c4, c5, c6, c7, c8⟩ := HX7.out.all
      simp only at c0 c1 c2 c3 c4 c5 c6 c7 c8 HC8
      have q8 := HX7.out.f 8
      go_upto_region 5 with fail
      rw [← HW8.out]
      clear c0 c1 c2 c3 c4 c5 c6 c7 c8 q8
      obtain ⟨c0, c1, c2, c3, c4, c5, c6, c7, c8⟩ := HX8.out.all
      simp only at c0 c1 c2 c3 c4 c5 c6 c7 c8
      go_wp2_with fail
      refine HC8.out.mono ?_
      rintro er w9 ⟨k, rfl, nt⟩
      have HNT := hid nt
      have HZ9 := hid (HZ8.out.below nt.below)
      unfold TH.cells
      clear nt c0 c1 c2 c3 c4 c5 c6 c7 c8
      obtain ⟨z0, z1, z2, z3, z4, z5, z6, z7, z8⟩ := HZ9.out.all
      simp only [TH.zero, E0] at z0 z1 z2 z3 z4 z5 z6 z7 z8
      have g0 := HZ9.out.f 0
      have g1 := HZ9.out.f 1
      have g2 := HZ9.out.f 2
      have g3 := HZ9.out.f 3
      have g4 := HZ9.out.f 4
      have g5 := HZ9.out.f 5
      have g6 := HZ9.out.f 6
      have g7 := HZ9.out.f 7
      have g8 := HZ9.out.f 8
      obtain ⟨hput, hgro⟩ := HZ9.out.put k
      obtain ⟨wz, hwz⟩ : ∃ y, y = (((((((((w9.setCell ⟨w.heap.size + 1, 0, none⟩ (.int .i64 k.d)).setCell ⟨w.heap.size + 1, 1, none⟩ (.int .i64 k.e)).setCell ⟨w.heap.size + 1, 2, none⟩ (.int .i64 k.n)).setCell ⟨w.heap.size + 1, 3, none⟩ (.string k.who)).setCell ⟨w.heap.size + 1, 4, none⟩ (.slice k.rA k.rn k.rc)).setCell ⟨w.heap.size + 1, 5, none⟩ (.int .i64 k.til)).setCell ⟨w.heap.size + 1, 6, none⟩ (.slice k.sA k.sn k.sc)).setCell ⟨w.heap.size + 1, 7, none⟩ (.slice k.cA k.cn k.cc)).setCell ⟨w.heap.size + 1, 8, none⟩ (.slice k.tA k.tn k.tc)) := ⟨_, rfl⟩
      rw [← hwz] at hput hgro
      have HPZ := hid hput
      have HGZ : Hid (Grew w9 wz (fun b => b = w.heap.size + 1)) := hid (Grew.of_gro hgro rfl)
      have HWZ := hid hwz
      have HS8 : Hid (w.heap.size + 2 ≤ w8.heap.size) := hid (by have := HZ8.out.lt; omega)
      clear hput hgro hwz
      go_wp2_with fail
      rw [← HWZ.out]
      refine bodyPost_ret (results_cell_tmp (h := Tryz.results7) _ _ (w.heap.size + 1) 0 (TH.cells k) _ rfl (range_row HPZ.out) Tryz.underlying27 rfl info_token) rfl ?_
      rw [HEE.out, HRR.out]
      exact ⟨k, rfl, HNT.out.then HB8.out HGZ.out (fun c hc h => by have := HS8.out; omega) (fun c h => by omega)⟩
    · rw [decide_eq_false hok] at HM3
      have HEE : Hid (mintE t = 25) := hid (if_neg hok)
      have HRR : Hid (mintR key t = Tok.zero) := hid (if_neg hok)
      clear hok
      go_wp2_with fail
      refine HM3.out.mono ?_
      rintro er w4 ⟨rfl, b4⟩
      have HZ9 := hid (HZ3.out.below b4)
      have HB4 := hid (HB3.out.below.trans (b4.mono HB3.out.below.size))
      clear b4 c0 c1 c2 c3 c4 c5 c6 c7 c8
      obtain ⟨z0, z1, z2, z3, z4, z5, z6, z7, z8⟩ := HZ9.out.all
      simp only [TH.zero, E0] at z0 z1 z2 z3 z4 z5 z6 z7 z8
      have g0 := HZ9.out.f 0
      have g1 := HZ9.out.f 1
      have g2 := HZ9.out.f 2
      have g3 := HZ9.out.f 3
      have g4 := HZ9.out.f 4
      have g5 := HZ9.out.f 5
      have g6 := HZ9.out.f 6
      have g7 := HZ9.out.f 7
      have g8 := HZ9.out.f 8
      obtain ⟨hput, hgro⟩ := HZ9.out.put TH.zero
      obtain ⟨wz, hwz⟩ : ∃ y, y = (((((((((w4.setCell ⟨w.heap.size + 1, 0, none⟩ (.int .i64 0)).setCell ⟨w.heap.size + 1, 1, none⟩ (.int .i64 0)).setCell ⟨w.heap.size + 1, 2, none⟩ (.int .i64 0)).setCell ⟨w.heap.size + 1, 3, none⟩ (.string ⟨#[]⟩)).setCell ⟨w.heap.size + 1, 4, none⟩ (.slice none 0 0)).setCell ⟨w.heap.size + 1, 5, none⟩ (.int .i64 0)).setCell ⟨w.heap.size + 1, 6, none⟩ (.slice none 0 0)).setCell ⟨w.heap.size + 1, 7, none⟩ (.slice none 0 0)).setCell ⟨w.heap.size + 1, 8, none⟩ (.slice none 0 0)) := ⟨_, rfl⟩
      simp only [TH.zero, E0] at hput hgro
      rw [← hwz] at hput hgro
      have HPZ := hid hput
      have HBZ : Hid (Below w.heap.size w wz) := hid (below_x' HB4.out wz hgro HB4.out.size (by omega))
      have HWZ := hid hwz
      clear hput hgro hwz
      go_wp2_with fail
      rw [← HWZ.out]
      refine bodyPost_ret (results_cell_tmp (h := Tryz.results7) _ _ (w.heap.size + 1) 0 (TH.cells TH.zero) _ rfl (range_row HPZ.out) Tryz.underlying27 rfl info_token) rfl ?_
      rw [HEE.out, HRR.out]
      exact ⟨TH.zero, rfl, NewTok.zero HBZ.out⟩
end Go.Proofs.YtaadmgbmaekicaaGreatDoor.Sh
