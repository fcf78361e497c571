/-
  The document's own Verify and Mint of a token, by contract.
-/
import Derived.Test.YtaadmgbmaekicaaGreatDoorJn26
import Derived.Test.YtaadmgbmaekicaaGreatDoorJn9
import Derived.Deep.Cut
set_option linter.unusedVariables false
set_option linter.unusedSimpArgs false
namespace Go.Proofs.YtaadmgbmaekicaaGreatDoor.Sh
open Go Go.RowKit

set_option linter.unusedSimpArgs false
set_option linter.unusedVariables false
open Classical in
/-- What Verify answers. -/
noncomputable def verE (key : List UInt8) (t : Tok) : Int := if OkTok t then (if lastT key t = t.tag then 0 else 20) else 25
end Go.Proofs.YtaadmgbmaekicaaGreatDoor.Sh
/-
  The document's own Mint of a token, by contract.
-/
namespace Go.Proofs.YtaadmgbmaekicaaGreatDoor.Sh
open Go Go.RowKit

set_option linter.unusedSimpArgs false
set_option linter.unusedVariables false
def TH.zero : TH := ⟨0, 0, 0, E0, none, 0, 0, 0, none, 0, 0, none, 0, 0, none, 0, 0⟩
theorem TokAt.zero (w : World) (Q : Nat → Prop) : TokAt w Q TH.zero Tok.zero :=
  ⟨rfl, rfl, rfl, rfl, rfl, rfl, Nat.le_refl _, by show (0 : Nat) ≤ _; omega, ElsQ.nil, rfl, Nat.le_refl _, by show (0 : Nat) ≤ _; omega, ElsQ.nil, rfl, Nat.le_refl _, by show (0 : Nat) ≤ _; omega, CavsQ.nil, rfl, Nat.le_refl _, by show (0 : Nat) ≤ _; omega, fun h => absurd h (by simp [Tok.zero])⟩
theorem OkTok.bare_iff {t : Tok} {g : List UInt8} (hg : g.length = 32) : OkTok { t with cavs := [], tag := g } ↔ OkTok (bareT t) :=
  ⟨fun h => ⟨h.d, h.e, h.n, h.til, h.who, h.roles, h.some_, h.sl, by simp [bareT], by simp [bareT], h.sup, by simp [bareT]⟩, fun h => ⟨h.d, h.e, h.n, h.til, h.who, h.roles, h.some_, h.sl, by simp, hg, h.sup, by simp⟩⟩
open Classical in
noncomputable def mintE (t : Tok) : Int := if OkTok (bareT t) then 0 else 25
open Classical in
noncomputable def mintR (key : List UInt8) (t : Tok) : Tok := if OkTok (bareT t) then mintT key t else Tok.zero
theorem BytQ.own {w : World} {B n c : Nat} {Q : Nat → Prop} {A : Option Addr} {l : List UInt8} (h : OwnB w B (.slice A n c) n l) (hQ : ∀ b, B ≤ b → Q b) : BytQ w Q A l := fun hn => by
  obtain ⟨ad, e, hb, hc⟩ := h.byt hn
  subst e
  exact ⟨ad, rfl, hQ _ (World.ownsRow.lt h _ rfl).1, hb, hc⟩
theorem info_token : (Tryz.prog.info? 27).map (·.size) = some 9 := by kernel_rfl
theorem nine_gro (w : World) (g : Nat) (v0 v1 v2 v3 v4 v5 v6 v7 v8 : Value) : w.grownBy (((((((((w.setCell ⟨g, 0, none⟩ v0).setCell ⟨g, 1, none⟩ v1).setCell ⟨g, 2, none⟩ v2).setCell ⟨g, 3, none⟩ v3).setCell ⟨g, 4, none⟩ v4).setCell ⟨g, 5, none⟩ v5).setCell ⟨g, 6, none⟩ v6).setCell ⟨g, 7, none⟩ v7).setCell ⟨g, 8, none⟩ v8) (some g) :=
  ((((((((gro_set1 w g 0 _).trans (gro_set1 _ g 1 _)).trans (gro_set1 _ g 2 _)).trans (gro_set1 _ g 3 _)).trans (gro_set1 _ g 4 _)).trans (gro_set1 _ g 5 _)).trans (gro_set1 _ g 6 _)).trans (gro_set1 _ g 7 _)).trans (gro_set1 _ g 8 _)
/-- All nine cells are written. -/
theorem ThAt.put {w : World} {g : Nat} {h : TH} (a : ThAt w g h) (x : TH) : ThAt (((((((((w.setCell ⟨g, 0, none⟩ (.int .i64 x.d)).setCell ⟨g, 1, none⟩ (.int .i64 x.e)).setCell ⟨g, 2, none⟩ (.int .i64 x.n)).setCell ⟨g, 3, none⟩ (.string x.who)).setCell ⟨g, 4, none⟩ (.slice x.rA x.rn x.rc)).setCell ⟨g, 5, none⟩ (.int .i64 x.til)).setCell ⟨g, 6, none⟩ (.slice x.sA x.sn x.sc)).setCell ⟨g, 7, none⟩ (.slice x.cA x.cn x.cc)).setCell ⟨g, 8, none⟩ (.slice x.tA x.tn x.tc)) g x ∧ w.grownBy (((((((((w.setCell ⟨g, 0, none⟩ (.int .i64 x.d)).setCell ⟨g, 1, none⟩ (.int .i64 x.e)).setCell ⟨g, 2, none⟩ (.int .i64 x.n)).setCell ⟨g, 3, none⟩ (.string x.who)).setCell ⟨g, 4, none⟩ (.slice x.rA x.rn x.rc)).setCell ⟨g, 5, none⟩ (.int .i64 x.til)).setCell ⟨g, 6, none⟩ (.slice x.sA x.sn x.sc)).setCell ⟨g, 7, none⟩ (.slice x.cA x.cn x.cc)).setCell ⟨g, 8, none⟩ (.slice x.tA x.tn x.tc)) (some g) :=
  ⟨nine_set (show w.heap[g]? = some (.cells #[.int .i64 h.d, .int .i64 h.e, .int .i64 h.n, .string h.who, .slice h.rA h.rn h.rc, .int .i64 h.til, .slice h.sA h.sn h.sc, .slice h.cA h.cn h.cc, .slice h.tA h.tn h.tc] 27 (0, 0)) from a), nine_gro w g _ _ _ _ _ _ _ _ _⟩
theorem ThAt.cavs {w : World} {g : Nat} {h : TH} (a : ThAt w g h) (A : Option Addr) (n c : Nat) : ThAt (w.setCell ⟨g, 7, none⟩ (.slice A n c)) g { h with cA := A, cn := n, cc := c } := heap_setCell_same w g 7 _ _ _ a
theorem ThAt.tag {w : World} {g : Nat} {h : TH} (a : ThAt w g h) (A : Option Addr) (n c : Nat) : ThAt (w.setCell ⟨g, 8, none⟩ (.slice A n c)) g { h with tA := A, tn := n, tc := c } := heap_setCell_same w g 8 _ _ _ a
theorem ThAt.other {w w' : World} {g x : Nat} {h : TH} (a : ThAt w g h) (hg : w.grownBy w' (some x)) (hx : x ≠ g) : ThAt w' g h := (hg.block g a.lt (fun e => hx (by injection e with e; exact e.symm))).trans a
theorem OwnB.other {w w' : World} {B n x : Nat} {v : Value} {l : List UInt8} (h : OwnB w B v n l) (hg : w.grownBy w' (some x)) (hx : x < B) : OwnB w' B v n l :=
  World.ownsRow.kept h hg (by
    cases e : v.ownBlock with
    | none => exact .inl rfl
    | some k => exact .inr (fun e2 => by have := (World.ownsRow.lt h k e).1; injection e2 with e2; omega))
theorem TokAt.retag {w : World} {Q : Nat → Prop} {th : TH} {t : Tok} (a : TokAt w Q th t) {B w0 c : Nat} {A : Option Addr} {g : List UInt8} (o : OwnB w B (.slice A 32 c) 32 g) (hB : w0 ≤ B) (h1 : 32 ≤ c) (h2 : c ≤ 9223372036854775807) :
    TokAt w (fun b => Q b ∨ w0 ≤ b) { th with cA := none, cn := 0, cc := 0, tA := A, tn := 32, tc := c } { t with cavs := [], tag := g } :=
  ⟨a.d, a.e, a.n, a.who, a.til, a.rl, a.rc, a.rm, a.re.imp (fun _ h _ => .inl h), a.sl, a.sc, a.sm, a.se.imp (fun _ h _ => .inl h), rfl, Nat.le_refl _, by show (0 : Nat) ≤ _; omega, CavsQ.nil, o.len, h1, h2, BytQ.own o (fun b hb => .inr (by omega))⟩
open Classical in
set_option maxHeartbeats 16000000 in
set_option maxRecDepth 100000 in
theorem refMint_any {w : World} {Q : Nat → Prop} {th : TH} {t : Tok} (a : TokAt w Q th t) (hrm : th.rn ≤ 1099511627776) (A : Option Addr) (key : List UInt8) (n c : Nat) (hn : key.length = n) (hL : n ≤ 1099511600000) (hb : Byt w w.heap.size A key) :
    Calls Tryz.prog 8 #[.slice A n c, .agg #[.int .i64 th.d, .int .i64 th.e, .int .i64 th.n, .string th.who, .slice th.rA th.rn th.rc, .int .i64 th.til, .slice th.sA th.sn th.sc, .slice th.cA th.cn th.cc, .slice th.tA th.tn th.tc]] w fun e w' => ∃ th', e = .returned (.tuple #[.agg th'.cells.toArray, .int .i64 (mintE t)]) ∧ TokAt w' (fun b => Q b ∨ w.heap.size ≤ b) th' (mintR key t) ∧ Below w.heap.size w w' := by
  have HA := hid (fun W (hW : Below w.heap.size w W) => a.below hW)
  have HK := hid (fun W (hW : Below w.heap.size w W) => (hb.below hW).more hW.size)
  obtain ⟨d, e, m, who, rA, rn, rc, til, sA, sn, sc, cA, cn, cc, tA, tn, tc⟩ := th
  simp only at HA hrm ⊢
  obtain ⟨w1, hw1⟩ : ∃ y, y = (w.alloc (.cells #[.int .i64 d, .int .i64 e, .int .i64 m, .string who, .slice rA rn rc, .int .i64 til, .slice sA sn sc, .slice cA cn cc, .slice tA tn tc] 27)).alloc (.cells #[.int .i64 0, .int .i64 0, .int .i64 0, .string ⟨#[]⟩, .slice none 0 0, .int .i64 0, .slice none 0 0, .slice none 0 0, .slice none 0 0] 27) := ⟨_, rfl⟩
  have HB1 : Hid (Below w.heap.size w w1) := hid (by rw [hw1]; exact ((Below.refl _ _).alloc (Nat.le_refl _) _).alloc (by simp) _)
  have HX1 : Hid (ThAt w1 w.heap.size ⟨d, e, m, who, rA, rn, rc, til, sA, sn, sc, cA, cn, cc, tA, tn, tc⟩) := hid (by
    rw [hw1]
    exact (ThAt.new w ⟨d, e, m, who, rA, rn, rc, til, sA, sn, sc, cA, cn, cc, tA, tn, tc⟩).below ((Below.refl _ _).alloc (Nat.le_refl _) _))
  have HZ1 : Hid (ThAt w1 (w.heap.size + 1) TH.zero) := hid (by
    rw [hw1]
    have q := ThAt.new (w.alloc (.cells #[.int .i64 d, .int .i64 e, .int .i64 m, .string who, .slice rA rn rc, .int .i64 til, .slice sA sn sc, .slice cA cn cc, .slice tA tn tc] 27)) TH.zero
    rw [World.size_alloc] at q
    exact q)
  have HS1 : Hid (w1.heap.size = w.heap.size + 2) := hid (by rw [hw1]; simp)
  have HW1 := hid hw1
  obtain ⟨w2, hw2⟩ : ∃ y, y = w1.setCell ⟨w.heap.size, 7, none⟩ (.slice none 0 0) := ⟨_, rfl⟩
  have HX2 : Hid (ThAt w2 w.heap.size ⟨d, e, m, who, rA, rn, rc, til, sA, sn, sc, none, 0, 0, tA, tn, tc⟩) := hid (by rw [hw2]; exact HX1.out.cavs none 0 0)
  have HZ2 : Hid (ThAt w2 (w.heap.size + 1) TH.zero) := hid (by rw [hw2]; exact HZ1.out.other (gro_set1 _ _ _ _) (by omega))
  have HB2 : Hid (Below w.heap.size w w2) := hid (by rw [hw2]; exact HB1.out.setCell (p := ⟨w.heap.size, 7, none⟩) (Nat.le_refl _) _)
  have HW2 := hid hw2
  have hw2s : w2.heap.size = w1.heap.size := by rw [hw2]; simp
  have HT2 := hid (refTag_any none none [] [] 0 0 0 0 rfl (by omega) rfl (by omega) w2 Byt.nil Byt.nil)
  have HMY := hid (fun W (th' : TH) (t' : Tok) (a' : TokAt W (fun b => Q b ∨ w.heap.size ≤ b) th' t') (h1 : th'.rn ≤ 1099511627776) (h2 : t'.cavs = []) => refMay12_any a' h1 (fun c hc => by rw [h2] at hc; cases hc))
  have HLN := hid hn
  obtain ⟨c0, c1, c2, c3, c4, c5, c6, c7, c8⟩ := HX1.out.all
  have f7 := HX1.out.f 7
  simp only at c0 c1 c2 c3 c4 c5 c6 c7 c8
  clear a hw1 hw2 hn hb
  go_enter Tryz.func8, Tryz.ntmps8
  go_upto_region 1 with fail
  rw [← HW1.out]
  go_upto_region 2 with fail
  rw [← HW2.out]
  clear c0 c1 c2 c3 c4 c5 c6 c7 c8 f7 HX1 HZ1 HB1 HW1 HW2
  go_wp2_with fail
  refine HT2.out.mono ?_
  rintro er w3 ⟨A3, c3', rfl, q1, q2, o3, b3⟩
  have HX3 := hid (HX2.out.below b3)
  have HZ3 := hid (HZ2.out.below b3)
  have HB3 := hid (HB2.out.trans (b3.mono HB2.out.size))
  have HO3 := hid o3
  have HQ3 := hid (And.intro q1 q2)
  have hs12 : w.heap.size + 2 ≤ w2.heap.size := by rw [hw2s, HS1.out]; exact Nat.le_refl _
  have f8 := HX3.out.f 8
  obtain ⟨c0, c1, c2, c3, c4, c5, c6, c7, c8⟩ := HX3.out.all
  simp only at c0 c1 c2 c3 c4 c5 c6 c7 c8
  obtain ⟨w4, hw4⟩ : ∃ y, y = w3.setCell ⟨w.heap.size, 8, none⟩ (.slice A3 32 c3') := ⟨_, rfl⟩
  have HX4 : Hid (ThAt w4 w.heap.size ⟨d, e, m, who, rA, rn, rc, til, sA, sn, sc, none, 0, 0, A3, 32, c3'⟩) := hid (by rw [hw4]; exact HX3.out.tag A3 32 c3')
  have HZ4 : Hid (ThAt w4 (w.heap.size + 1) TH.zero) := hid (by rw [hw4]; exact HZ3.out.other (gro_set1 _ _ _ _) (by omega))
  have HB4 : Hid (Below w.heap.size w w4) := hid (by rw [hw4]; exact HB3.out.setCell (p := ⟨w.heap.size, 8, none⟩) (Nat.le_refl _) _)
  have HO4 : Hid (OwnB w4 w2.heap.size (.slice A3 32 c3') 32 (hmac [] [])) := hid (by rw [hw4]; exact HO3.out.other (gro_set1 _ _ _ _) (by omega))
  have HW4 := hid hw4
  have HA4 := hid (TokAt.retag (HA.out w4 HB4.out) HO4.out (show w.heap.size ≤ w2.heap.size by omega) HQ3.out.1 HQ3.out.2)
  simp only at HA4
  have HLT : Hid ((hmac [] []).length = 32) := hid HO4.out.len
  have HM4 := hid (HMY.out w4 _ _ HA4.out hrm rfl)
  simp only at HM4
  clear hw4 b3 o3 q1 q2
  go_upto_region 3 with fail
  rw [← HW4.out]
  clear c0 c1 c2 c3 c4 c5 c6 c7 c8 f8 HX3 HZ3 HB3 HO3 HW4 HX2 HZ2 HB2 HT2
  obtain ⟨c0, c1, c2, c3, c4, c5, c6, c7, c8⟩ := HX4.out.all
  simp only at c0 c1 c2 c3 c4 c5 c6 c7 c8
  by_cases hok : OkTok (bareT t)
  · have hok4 : OkTok { t with cavs := [], tag := hmac [] [] } := (OkTok.bare_iff HLT.out).2 hok
    rw [decide_eq_true hok4] at HM4
    have HEE : Hid (mintE t = 0) := hid (if_pos hok)
    have HRR : Hid (mintR key t = mintT key t) := hid (if_pos hok)
    go_wp2_with fail
    refine HM4.out.mono ?_
    rintro er w5 ⟨rfl, b5⟩
    have HX5 := hid (HX4.out.below b5)
    have HZ5 := hid (HZ4.out.below b5)
    have HB5 := hid (HB4.out.trans (b5.mono HB4.out.size))
    have HL5 := hid (refLast_any (HA4.out.below b5) hok4 A key n c HLN.out hL (HK.out w5 HB5.out))
    simp only at HL5
    have HA5 := hid (HA.out w5 HB5.out)
    have hs25 : w.heap.size + 2 ≤ w5.heap.size := by
      have h4 : w.heap.size + 1 < w4.heap.size := HZ4.out.lt
      have := b5.size
      omega
    clear b5 c0 c1 c2 c3 c4 c5 c6 c7 c8 HX4 HZ4 HB4 HO4 HA4 HM4 hok hok4
    obtain ⟨c0, c1, c2, c3, c4, c5, c6, c7, c8⟩ := HX5.out.all
    simp only at c0 c1 c2 c3 c4 c5 c6 c7 c8
    go_wp2_with fail
    refine HL5.out.mono ?_
    rintro er w6 ⟨A6, c6', rfl, q1, q2, o6, b6⟩
    have HX6 := hid (HX5.out.below b6)
    have HZ6 := hid (HZ5.out.below b6)
    have HB6 := hid (HB5.out.trans (b6.mono HB5.out.size))
    have f8 := HX6.out.f 8
    clear c0 c1 c2 c3 c4 c5 c6 c7 c8
    obtain ⟨c0, c1, c2, c3, c4, c5, c6, c7, c8⟩ := HX6.out.all
    simp only at c0 c1 c2 c3 c4 c5 c6 c7 c8
    obtain ⟨w7, hw7⟩ : ∃ y, y = w6.setCell ⟨w.heap.size, 8, none⟩ (.slice A6 32 c6') := ⟨_, rfl⟩
    have HX7 : Hid (ThAt w7 w.heap.size ⟨d, e, m, who, rA, rn, rc, til, sA, sn, sc, none, 0, 0, A6, 32, c6'⟩) := hid (by rw [hw7]; exact HX6.out.tag A6 32 c6')
    have HZ7 : Hid (ThAt w7 (w.heap.size + 1) TH.zero) := hid (by rw [hw7]; exact HZ6.out.other (gro_set1 _ _ _ _) (by omega))
    have HB7 : Hid (Below w.heap.size w w7) := hid (by rw [hw7]; exact HB6.out.setCell (p := ⟨w.heap.size, 8, none⟩) (Nat.le_refl _) _)
    have HO7 : Hid (OwnB w7 w5.heap.size (.slice A6 32 c6') 32 (hmac key (headB t))) := hid (by
      rw [hw7]
      exact OwnB.other (show OwnB w6 w5.heap.size (.slice A6 32 c6') 32 (hmac key (headB t)) from o6) (gro_set1 _ _ _ _) (by omega))
    have HQ6 := hid (And.intro q1 q2)
    have HW7 := hid hw7
    clear hw7 o6 b6 q1 q2
    go_upto_region 7 with fail
    rw [← HW7.out]
    clear c0 c1 c2 c3 c4 c5 c6 c7 c8 f8 HX6 HZ6 HB6 HW7 HX5 HZ5 HB5 HL5
    obtain ⟨c0, c1, c2, c3, c4, c5, c6, c7, c8⟩ := HX7.out.all
    obtain ⟨z0, z1, z2, z3, z4, z5, z6, z7, z8⟩ := HZ7.out.all
    have g0 := HZ7.out.f 0
    have g1 := HZ7.out.f 1
    have g2 := HZ7.out.f 2
    have g3 := HZ7.out.f 3
    have g4 := HZ7.out.f 4
    have g5 := HZ7.out.f 5
    have g6 := HZ7.out.f 6
    have g7 := HZ7.out.f 7
    have g8 := HZ7.out.f 8
    simp only at c0 c1 c2 c3 c4 c5 c6 c7 c8 z0 z1 z2 z3 z4 z5 z6 z7 z8
    obtain ⟨hput, hgro⟩ := HZ7.out.put ⟨d, e, m, who, rA, rn, rc, til, sA, sn, sc, none, 0, 0, A6, 32, c6'⟩
    try simp only at hput hgro
    have HPUT := hid hput
    have HGRO := hid hgro
    clear hput hgro
    go_wp2_with fail
    refine bodyPost_ret (results_cell_tmp (h := Tryz.results8) _ _ (w.heap.size + 1) 0 [.int .i64 d, .int .i64 e, .int .i64 m, .string who, .slice rA rn rc, .int .i64 til, .slice sA sn sc, .slice none 0 0, .slice A6 32 c6'] _ rfl (range_row HPUT.out) Tryz.underlying27 rfl info_token) rfl ?_
    have HB8 := HB7.out.grown HGRO.out HB7.out.size (fun b e => by injection e with e; omega)
    exact ⟨⟨d, e, m, who, rA, rn, rc, til, sA, sn, sc, none, 0, 0, A6, 32, c6'⟩, by rw [HEE.out]; rfl, by rw [HRR.out]; exact TokAt.retag (HA.out _ HB8) (HO7.out.other HGRO.out (by omega)) (by omega) HQ6.out.1 HQ6.out.2, HB8⟩
  · have hok4 : ¬ OkTok { t with cavs := [], tag := hmac [] [] } := fun h => hok ((OkTok.bare_iff HLT.out).1 h)
    rw [decide_eq_false hok4] at HM4
    have HEE : Hid (mintE t = 25) := hid (if_neg hok)
    have HRR : Hid (mintR key t = Tok.zero) := hid (if_neg hok)
    go_wp2_with fail
    refine HM4.out.mono ?_
    rintro er w5 ⟨rfl, b5⟩
    have HX5 := hid (HX4.out.below b5)
    have HZ5 := hid (HZ4.out.below b5)
    have HB5 := hid (HB4.out.trans (b5.mono HB4.out.size))
    clear b5 c0 c1 c2 c3 c4 c5 c6 c7 c8 HX4 HZ4 HB4 HO4 HA4 HM4 hok hok4
    obtain ⟨z0, z1, z2, z3, z4, z5, z6, z7, z8⟩ := HZ5.out.all
    have g0 := HZ5.out.f 0
    have g1 := HZ5.out.f 1
    have g2 := HZ5.out.f 2
    have g3 := HZ5.out.f 3
    have g4 := HZ5.out.f 4
    have g5 := HZ5.out.f 5
    have g6 := HZ5.out.f 6
    have g7 := HZ5.out.f 7
    have g8 := HZ5.out.f 8
    try simp only [TH.zero] at z0 z1 z2 z3 z4 z5 z6 z7 z8
    obtain ⟨hput, hgro⟩ := HZ5.out.put ⟨0, 0, 0, ⟨#[]⟩, none, 0, 0, 0, none, 0, 0, none, 0, 0, none, 0, 0⟩
    try simp only at hput hgro
    have HPUT := hid hput
    have HGRO := hid hgro
    clear hput hgro
    go_wp2_with fail
    refine bodyPost_ret (results_cell_tmp (h := Tryz.results8) _ _ (w.heap.size + 1) 0 [.int .i64 0, .int .i64 0, .int .i64 0, .string ⟨#[]⟩, .slice none 0 0, .int .i64 0, .slice none 0 0, .slice none 0 0, .slice none 0 0] _ rfl (range_row HPUT.out) Tryz.underlying27 rfl info_token) rfl ?_
    have HB8 := HB5.out.grown HGRO.out HB5.out.size (fun b e => by injection e with e; omega)
    exact ⟨TH.zero, by rw [HEE.out]; rfl, by rw [HRR.out]; exact TokAt.zero _ _, HB8⟩
end Go.Proofs.YtaadmgbmaekicaaGreatDoor.Sh
