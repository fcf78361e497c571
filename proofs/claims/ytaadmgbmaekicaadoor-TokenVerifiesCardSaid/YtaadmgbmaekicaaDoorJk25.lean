/-
  The document's own Verify and Mint of a token, by contract.
-/
import Derived.Test.YtaadmgbmaekicaaDoorJk24
import Derived.Test.YtaadmgbmaekicaaDoorJk7
import Derived.Deep.Cut
set_option linter.unusedVariables false
set_option linter.unusedSimpArgs false
namespace Go.Proofs.YtaadmgbmaekicaaDoor.Sh
open Go Go.RowKit

set_option linter.unusedSimpArgs false
set_option linter.unusedVariables false
open Classical in
/-- What Verify answers. -/
noncomputable def verE (key : List UInt8) (t : Tok) : Int := if OkTok t then (if lastT key t = t.tag then 0 else 20) else 25
open Classical in
set_option maxHeartbeats 8000000 in
set_option maxRecDepth 100000 in
theorem refVerify_any {w : World} {Q : Nat → Prop} {th : TH} {t : Tok} (a : TokAt w Q th t) (hrm : th.rn ≤ 1099511627776) (hcr : ∀ c ∈ t.cavs, c.roles.length ≤ 1099511627776) (A : Option Addr) (key : List UInt8) (n c : Nat) (hn : key.length = n) (hL : n ≤ 1099511600000) (hb : Byt w w.heap.size A key) :
    Calls Tryd.prog 10 #[.slice A n c, .agg #[.int .i64 th.d, .int .i64 th.e, .int .i64 th.n, .string th.who, .slice th.rA th.rn th.rc, .int .i64 th.til, .slice th.sA th.sn th.sc, .slice th.cA th.cn th.cc, .slice th.tA th.tn th.tc]] w fun e w' => e = .returned (.int .i64 (verE key t)) ∧ Below w.heap.size w w' := by
  have HM := hid (fun W (hW : Below w.heap.size w W) => refMay12_any (a.below hW) hrm hcr)
  have HLA := hid (fun (ok : OkTok t) W (hW : Below w.heap.size w W) => refLast_any (a.below hW) ok A key n c hn hL ((hb.below hW).more hW.size))
  have HTE := hid (fun W (hW : Below w.heap.size w W) => (a.below hW).te.byt)
  have htl := a.tl
  obtain ⟨d, e, m, who, rA, rn, rc, til, sA, sn, sc, cA, cn, cc, tA, tn, tc⟩ := th
  simp only at HM HLA HTE htl hrm ⊢
  obtain ⟨w1, hw1⟩ : ∃ y, y = w.alloc (.cells #[.int .i64 d, .int .i64 e, .int .i64 m, .string who, .slice rA rn rc, .int .i64 til, .slice sA sn sc, .slice cA cn cc, .slice tA tn tc] 27) := ⟨_, rfl⟩
  have HB1 : Hid (Below w.heap.size w w1) := hid (by rw [hw1]; exact (Below.refl _ _).alloc (Nat.le_refl _) _)
  have HX1 : Hid (ThAt w1 w.heap.size ⟨d, e, m, who, rA, rn, rc, til, sA, sn, sc, cA, cn, cc, tA, tn, tc⟩) := hid (by rw [hw1]; exact ThAt.new w ⟨d, e, m, who, rA, rn, rc, til, sA, sn, sc, cA, cn, cc, tA, tn, tc⟩)
  have HW1 := hid hw1
  have HM1 := hid (HM.out w1 HB1.out)
  have HTL := hid htl
  obtain ⟨c0, c1, c2, c3, c4, c5, c6, c7, c8⟩ := HX1.out.all
  simp only at c0 c1 c2 c3 c4 c5 c6 c7 c8
  clear a hw1 hn hb htl hcr HM
  by_cases hok : OkTok t
  · rw [decide_eq_true hok] at HM1
    have HLW := hid (fun W (hW : Below w.heap.size w W) => HLA.out hok W hW)
    have htn : tn = 32 := by have := hok.tl; have := HTL.out; omega
    subst htn
    obtain ⟨L, hLd⟩ : ∃ L, lastT key t = L := ⟨_, rfl⟩
    obtain ⟨bb, hbb⟩ : ∃ b, decide (L = t.tag) = b := ⟨_, rfl⟩
    have HV : Hid (verE key t = if bb = true then 0 else 20) := hid (by
      unfold verE
      rw [if_pos hok, hLd, ← hbb]
      by_cases h : L = t.tag
      · rw [if_pos h, decide_eq_true h, if_pos rfl]
      · rw [if_neg h, decide_eq_false h]; rfl)
    rw [hLd] at HLW
    have HSM : Hid (∀ (W : World) (A3 : Option Addr) (k3 : Nat), L.length = 32 → Byt W W.heap.size A3 L → Below w.heap.size w W → Calls Tryd.prog 27 #[.slice A3 32 k3, .slice tA 32 tc] W fun e w' => e = .returned (.bool bb) ∧ Below W.heap.size W w') := hid (fun W A3 k3 h1 h2 h3 => by
      have q := same_any A3 tA L t.tag k3 tc (by omega) (by have := HTL.out; omega) W h2 (HTE.out W h3)
      rw [h1, HTL.out, hbb] at q
      exact q.mono fun e w' ⟨q1, k, q2⟩ => ⟨q1, by first | exact q2 | (rw [q2]; exact below_drewN (Below.refl _ _) _)⟩)
    clear hLd hbb hok HLA
    go_enter Tryd.func10, Tryd.ntmps10
    go_upto_region 1 with fail
    rw [← HW1.out]
    go_wp2_with fail
    refine HM1.out.mono ?_
    rintro er w2 ⟨rfl, b2⟩
    have HX2 := hid (fun W (hW : Below w2.heap.size w2 W) => ((HX1.out.below b2).below hW).all)
    have HB2 := hid (HB1.out.trans (b2.mono HB1.out.size))
    clear b2 c0 c1 c2 c3 c4 c5 c6 c7 c8
    simp only at HX2
    go_wp2_with fail
    go_region_held3 (fun W => W.cell? ⟨w.heap.size, 0, none⟩ = some (.int .i64 d) ∧ W.cell? ⟨w.heap.size, 1, none⟩ = some (.int .i64 e) ∧ W.cell? ⟨w.heap.size, 2, none⟩ = some (.int .i64 m) ∧ W.cell? ⟨w.heap.size, 3, none⟩ = some (.string who) ∧ W.cell? ⟨w.heap.size, 4, none⟩ = some (.slice rA rn rc) ∧ W.cell? ⟨w.heap.size, 5, none⟩ = some (.int .i64 til) ∧ W.cell? ⟨w.heap.size, 6, none⟩ = some (.slice sA sn sc) ∧ W.cell? ⟨w.heap.size, 7, none⟩ = some (.slice cA cn cc) ∧ W.cell? ⟨w.heap.size, 8, none⟩ = some (.slice tA 32 tc))
      (first | exact HX2.out _ (Below.refl w2.heap.size w2).drew | exact HX2.out _ BQ8.out | exact HX2.out _ BQ9.out)
      ((first
        | (go_at_call 28; ((refine (HLW.out _ (HB2.out.trans ((Below.refl w2.heap.size w2).drew.mono HB2.out.size))).mono ?_); rintro er w8 ⟨A8, k8, rfl, q1, q2, o8, b8⟩; have HO8 := hid o8; have BQ8 : Hid (Below w2.heap.size w2 w8) := hid ((Below.refl w2.heap.size w2).drew.trans b8); clear o8 b8 q1 q2))
        | (go_at_call 27; ((refine (HSM.out w8 A8 k8 HO8.out.len HO8.out.byt (HB2.out.trans (BQ8.out.mono HB2.out.size))).mono ?_); rintro er w9 ⟨rfl, b9⟩; have BQ9 : Hid (Below w2.heap.size w2 w9) := hid (BQ8.out.trans (b9.mono BQ8.out.size)); clear b9))))
    all_goals
      have HBF := hid (HB2.out.trans (BQ9.out.mono HB2.out.size))
      cases bb
      · go_wp2_with fail
        go_ret
        exact ⟨ret_int (by rw [HV.out]; rfl), HBF.out⟩
      · go_wp2_with fail
        go_ret
        exact ⟨ret_int (by rw [HV.out]; rfl), HBF.out⟩
  · rw [decide_eq_false hok] at HM1
    have HV : Hid (verE key t = 25) := hid (if_neg hok)
    clear hok HLA
    go_enter Tryd.func10, Tryd.ntmps10
    go_upto_region 1 with fail
    rw [← HW1.out]
    go_wp2_with fail
    refine HM1.out.mono ?_
    rintro er w2 ⟨rfl, b2⟩
    have HB2 := hid (HB1.out.trans (b2.mono HB1.out.size))
    clear b2
    go_wp2_with fail
    go_ret
    exact ⟨ret_int HV.out.symm, HB2.out⟩
end Go.Proofs.YtaadmgbmaekicaaDoor.Sh
/-
  The document's own Mint of a token, by contract.
-/
namespace Go.Proofs.YtaadmgbmaekicaaDoor.Sh
open Go Go.RowKit

set_option linter.unusedSimpArgs false
set_option linter.unusedVariables false
def TH.zero : TH := ⟨0, 0, 0, E0, none, 0, 0, 0, none, 0, 0, none, 0, 0, none, 0, 0⟩
theorem TokAt.zero (w : World) (Q : Nat → Prop) : TokAt w Q TH.zero Tok.zero :=
  ⟨rfl, rfl, rfl, rfl, rfl, rfl, Nat.le_refl _, by show (0 : Nat) ≤ _; omega, ElsQ.nil, rfl, Nat.le_refl _, by show (0 : Nat) ≤ _; omega, ElsQ.nil, rfl, Nat.le_refl _, by show (0 : Nat) ≤ _; omega, CavsQ.nil, rfl, Nat.le_refl _, by show (0 : Nat) ≤ _; omega, fun h => absurd h (by simp [Tok.zero])⟩
theorem OkTok.bare_iff {t : Tok} {g : List UInt8} (hg : g.length = 32) : OkTok { t with cavs := [], tag := g } ↔ OkTok (bareT t) :=
  ⟨fun h => ⟨h.d, h.e, h.n, h.til, h.who, h.roles, h.some_, h.sl, by simp [bareT], by simp [bareT], h.sup, by simp [bareT]⟩, fun h => ⟨h.d, h.e, h.n, h.til, h.who, h.roles, h.some_, h.sl, by simp, hg, h.sup, by simp⟩⟩
open Classical in
noncomputable def mintE (t : Tok) : Int := if OkTok (bareT t) then 0 else 25
open Classical in
noncomputable def mintR (key : List UInt8) (t : Tok) : Tok := if OkTok (bareT t) then mintT key t else Tok.zero
theorem BytQ.own {w : World} {B n c : Nat} {Q : Nat → Prop} {A : Option Addr} {l : List UInt8} (h : OwnB w B (.slice A n c) n l) (hQ : ∀ b, B ≤ b → Q b) : BytQ w Q A l := fun hn => by
  obtain ⟨ad, e, hb, hc⟩ := h.byt hn
  subst e
  exact ⟨ad, rfl, hQ _ (World.ownsRow.lt h _ rfl).1, hb, hc⟩
theorem info_token : (Tryd.prog.info? 27).map (·.size) = some 9 := by kernel_rfl
theorem nine_gro (w : World) (g : Nat) (v0 v1 v2 v3 v4 v5 v6 v7 v8 : Value) : w.grownBy (((((((((w.setCell ⟨g, 0, none⟩ v0).setCell ⟨g, 1, none⟩ v1).setCell ⟨g, 2, none⟩ v2).setCell ⟨g, 3, none⟩ v3).setCell ⟨g, 4, none⟩ v4).setCell ⟨g, 5, none⟩ v5).setCell ⟨g, 6, none⟩ v6).setCell ⟨g, 7, none⟩ v7).setCell ⟨g, 8, none⟩ v8) (some g) :=
  ((((((((gro_set1 w g 0 _).trans (gro_set1 _ g 1 _)).trans (gro_set1 _ g 2 _)).trans (gro_set1 _ g 3 _)).trans (gro_set1 _ g 4 _)).trans (gro_set1 _ g 5 _)).trans (gro_set1 _ g 6 _)).trans (gro_set1 _ g 7 _)).trans (gro_set1 _ g 8 _)
/-- All nine cells are written. -/
theorem ThAt.put {w : World} {g : Nat} {h : TH} (a : ThAt w g h) (x : TH) : ThAt (((((((((w.setCell ⟨g, 0, none⟩ (.int .i64 x.d)).setCell ⟨g, 1, none⟩ (.int .i64 x.e)).setCell ⟨g, 2, none⟩ (.int .i64 x.n)).setCell ⟨g, 3, none⟩ (.string x.who)).setCell ⟨g, 4, none⟩ (.slice x.rA x.rn x.rc)).setCell ⟨g, 5, none⟩ (.int .i64 x.til)).setCell ⟨g, 6, none⟩ (.slice x.sA x.sn x.sc)).setCell ⟨g, 7, none⟩ (.slice x.cA x.cn x.cc)).setCell ⟨g, 8, none⟩ (.slice x.tA x.tn x.tc)) g x ∧ w.grownBy (((((((((w.setCell ⟨g, 0, none⟩ (.int .i64 x.d)).setCell ⟨g, 1, none⟩ (.int .i64 x.e)).setCell ⟨g, 2, none⟩ (.int .i64 x.n)).setCell ⟨g, 3, none⟩ (.string x.who)).setCell ⟨g, 4, none⟩ (.slice x.rA x.rn x.rc)).setCell ⟨g, 5, none⟩ (.int .i64 x.til)).setCell ⟨g, 6, none⟩ (.slice x.sA x.sn x.sc)).setCell ⟨g, 7, none⟩ (.slice x.cA x.cn x.cc)).setCell ⟨g, 8, none⟩ (.slice x.tA x.tn x.tc)) (some g) :=
  ⟨nine_set (show w.heap[g]? = some (.cells #[.int .i64 h.d, .int .i64 h.e, .int .i64 h.n, .string h.who, .slice h.rA h.rn h.rc, .int .i64 h.til, .slice h.sA h.sn h.sc, .slice h.cA h.cn h.cc, .slice h.tA h.tn h.tc] 27 (0, 0)) from a), nine_gro w g _ _ _ _ _ _ _ _ _⟩
theorem ThAt.cavs {w : World} {g : Nat} {h : TH} (a : ThAt w g h) (A : Option Addr) (n c : Nat) : ThAt (w.setCell ⟨g, 7, none⟩ (.slice A n c)) g { h with cA := A, cn := n, cc := c } := heap_setCell_same w g 7 _ _ _ a
theorem ThAt.tag {w : World} {g : Nat} {h : TH} (a : ThAt w g h) (A : Option Addr) (n c : Nat) : ThAt (w.setCell ⟨g, 8, none⟩ (.slice A n c)) g { h with tA := A, tn := n, tc := c } := heap_setCell_same w g 8 _ _ _ a
theorem ThAt.other {w w' : World} {g x : Nat} {h : TH} (a : ThAt w g h) (hg : w.grownBy w' (some x)) (hx : x ≠ g) : ThAt w' g h := (hg.block g a.lt (fun e => hx (by injection e with e; exact e.symm))).trans a
theorem OwnB.other {w w' : World} {B n x : Nat} {v : Value} {l : List UInt8} (h : OwnB w B v n l) (hg : w.grownBy w' (some x)) (hx : x < B) : OwnB w' B v n l :=
  World.ownsRow.kept h hg (by
    cases e : v.ownBlock with
    | none => exact .inl rfl
    | some k => exact .inr (fun e2 => by have := (World.ownsRow.lt h k e).1; injection e2 with e2; omega))
theorem TokAt.retag {w : World} {Q : Nat → Prop} {th : TH} {t : Tok} (a : TokAt w Q th t) {B w0 c : Nat} {A : Option Addr} {g : List UInt8} (o : OwnB w B (.slice A 32 c) 32 g) (hB : w0 ≤ B) (h1 : 32 ≤ c) (h2 : c ≤ 9223372036854775807) :
    TokAt w (fun b => Q b ∨ w0 ≤ b) { th with cA := none, cn := 0, cc := 0, tA := A, tn := 32, tc := c } { t with cavs := [], tag := g } :=
  ⟨a.d, a.e, a.n, a.who, a.til, a.rl, a.rc, a.rm, a.re.imp (fun _ h _ => .inl h), a.sl, a.sc, a.sm, a.se.imp (fun _ h _ => .inl h), rfl, Nat.le_refl _, by show (0 : Nat) ≤ _; omega, CavsQ.nil, o.len, h1, h2, BytQ.own o (fun b hb => .inr (by omega))⟩
end Go.Proofs.YtaadmgbmaekicaaDoor.Sh
