/-
  The program's own copied of a token: a token all of whose memory is new, by contract. Written by mk_tkpgh.py.
-/
import Derived.Test.YtaadmgbmaekicaaGreatDoorJn37
set_option linter.unusedVariables false
set_option linter.unusedSimpArgs false
namespace Go.Proofs.YtaadmgbmaekicaaGreatDoor.Sh
open Go Go.RowKit

set_option linter.unusedSimpArgs false
set_option linter.unusedVariables false
theorem RowN.openR {w : World} {B U n c : Nat} {A : Option Addr} {l : List Ro} (h : RowN encR 69 w B U A n c l) : OpN w 69 2 B U A n := fun h0 => by
  obtain ⟨g, tl, e, h1, h2, row⟩ := h.row h0
  exact ⟨g, e, h1, h2, _, row, by rw [List.size_toArray, List.length_append, ev_length, h.len]; show n * 2 ≤ n * 2 + _; omega⟩
theorem RowN.openI {w : World} {B U n c : Nat} {A : Option Addr} {l : List (Int × Int)} (h : RowN encI 65 w B U A n c l) : OpN w 65 2 B U A n := fun h0 => by
  obtain ⟨g, tl, e, h1, h2, row⟩ := h.row h0
  exact ⟨g, e, h1, h2, _, row, by rw [List.size_toArray, List.length_append, ev_length, h.len]; show n * 2 ≤ n * 2 + _; omega⟩
theorem RowN.openY {w : World} {B U n c : Nat} {A : Option Addr} {l : List UInt8} (h : RowN encY 5 w B U A n c l) : OpN w 5 1 B U A n := fun h0 => by
  obtain ⟨g, tl, e, h1, h2, row⟩ := h.row h0
  exact ⟨g, e, h1, h2, _, row, by rw [List.size_toArray, List.length_append, ev_length, h.len]; show n * 1 ≤ n * 1 + _; omega⟩
theorem RowN.bytQ {w : World} {B U n c : Nat} {Q : Nat → Prop} {A : Option Addr} {l : List UInt8} (h : RowN encY 5 w B U A n c l) (hQ : ∀ b, B ≤ b → b < U → Q b) : BytQ w Q A l := fun h0 => by
  obtain ⟨ad, e, q, hb, hc⟩ := h.elsQ hQ h0
  refine ⟨ad, e, q, hb, fun j x hx => hc j _ ?_⟩
  rw [ev_bytes]
  unfold bv
  rw [List.getElem?_map, hx]; rfl
theorem below_alloc2 (w : World) (o o' : Obj) : Below w.heap.size w ((w.alloc o).alloc o') := ((Below.refl _ _).alloc (Nat.le_refl _) _).alloc (by simp) _
theorem ThAt.roles {w : World} {g : Nat} {h : TH} (a : ThAt w g h) (A : Option Addr) (n c : Nat) : ThAt (w.setCell ⟨g, 4, none⟩ (.slice A n c)) g { h with rA := A, rn := n, rc := c } := heap_setCell_same w g 4 _ _ _ a
theorem ThAt.sup {w : World} {g : Nat} {h : TH} (a : ThAt w g h) (A : Option Addr) (n c : Nat) : ThAt (w.setCell ⟨g, 6, none⟩ (.slice A n c)) g { h with sA := A, sn := n, sc := c } := heap_setCell_same w g 6 _ _ _ a
/-- What Mint and Narrow tell: a new token, all of it in blocks made in the call, which may be written over. -/
structure NewTok (w w' : World) (th' : TH) (t' : Tok) : Prop where
  at_ : TokAt w' (fun b => w.heap.size ≤ b) th' t'
  wr : ∃ hs, TokWr w' w.heap.size w'.heap.size th' hs
  below : Below w.heap.size w w'
/-- The first k caveats' roles are new rows from B on; the others' are as they were in w. -/
def CpyAt (w wr : World) (Q : Nat → Prop) (B : Nat) (cs : List Cav) (hs : List CH) (k : Nat) : Prop :=
  ∀ (i : Nat) (h : CH) (c : Cav), hs[i]? = some h → cs[i]? = some c → (h.kind = c.kind ∧ h.til = c.til ∧ h.aud = c.aud) ∧ (i < k → RowN encR 69 wr B wr.heap.size h.rA h.rn h.rc c.roles) ∧ (k ≤ i → CavAt w Q h c)
theorem CpyAt.grew {w wr wr' : World} {Q X : Nat → Prop} {B : Nat} {cs : List Cav} {hs : List CH} {k : Nat} (h : CpyAt w wr Q B cs hs k) (hg : Grew wr wr' X) (hx : ∀ b, B ≤ b → ¬ X b) : CpyAt w wr' Q B cs hs k := fun i x c hi hc =>
  ⟨(h i x c hi hc).1, fun hk => (((h i x c hi hc).2.1 hk).grew hg (fun b hb _ => hx b hb)).wide (Nat.le_refl _) hg.size, (h i x c hi hc).2.2⟩
theorem CpyAt.step {w wr : World} {Q : Nat → Prop} {B : Nat} {cs : List Cav} {hs : List CH} {k : Nat} (h : CpyAt w wr Q B cs hs k) {x : CH} {c : Cav} (hx : hs[k]? = some x) (hc : cs[k]? = some c) {A : Option Addr} {n m : Nat} (hr : RowN encR 69 wr B wr.heap.size A n m c.roles) :
    CpyAt w wr Q B cs (hs.set k ⟨x.kind, A, n, m, x.til, x.aud⟩) (k + 1) := fun i y d hi hd => by
  rw [List.getElem?_set] at hi
  by_cases e : k = i
  · subst e
    rw [if_pos rfl, if_pos (List.getElem?_eq_some_iff.1 hx).1] at hi
    injection hi with hi
    subst hi
    rw [hc] at hd
    injection hd with hd
    subst hd
    exact ⟨(h k x c hx hc).1, fun _ => hr, fun h2 => absurd h2 (by omega)⟩
  · rw [if_neg e] at hi
    exact ⟨(h i y d hi hd).1, fun h2 => (h i y d hi hd).2.1 (by omega), fun h2 => (h i y d hi hd).2.2 (by omega)⟩
theorem setCell_cav {w : World} {g k : Nat} {tl : List Value} {hs : List CH} {x : CH} (h : RowE encC 51 w g tl hs) (hx : hs[k]? = some x) (A : Option Addr) (n m : Nat) :
    RowE encC 51 (w.setCell ⟨g, k * 4 + 1, none⟩ (.slice A n m)) g tl (hs.set k ⟨x.kind, A, n, m, x.til, x.aud⟩) := by
  have hk := (List.getElem?_eq_some_iff.1 hx).1
  have e0 : hs[k] = x := (List.getElem?_eq_some_iff.1 hx).2
  unfold RowE at h ⊢
  rw [heap_setCell_same w g (k * 4 + 1) _ _ _ h]
  congr 2
  have e1 : hs = hs.take k ++ [x] ++ hs.drop (k + 1) := by
    rw [List.append_assoc, List.singleton_append, ← e0, List.getElem_cons_drop, List.take_append_drop]
  have e2 : hs.set k ⟨x.kind, A, n, m, x.til, x.aud⟩ = hs.take k ++ [⟨x.kind, A, n, m, x.til, x.aud⟩] ++ hs.drop (k + 1) := by
    rw [List.set_eq_take_append_cons_drop, if_pos hk, List.append_assoc, List.singleton_append]
  have hl : (ev encC (hs.take k)).length = k * 4 := by rw [ev_length, List.length_take, Nat.min_eq_left (by omega)]; rfl
  have e3 : ev encC hs = ev encC (hs.take k) ++ (encC.cells x ++ ev encC (hs.drop (k + 1))) := by
    rw [← ev_one_el (E := encC) x, ← List.append_assoc, ← ev_append, ← ev_append, ← e1]
  rw [e2, ev_append, ev_append, ev_one_el, e3, List.setIfInBounds_toArray]
  congr 1
  rw [List.append_assoc, List.set_append_right _ _ (by rw [hl]; omega), hl, show k * 4 + 1 - k * 4 = 1 by omega]
  simp [encC, CH.cells]
/-- A token all of whose rows are new. -/
theorem NewTok.mk' {w w0 wz : World} {Q : Nat → Prop} {B : Nat} {th : TH} {t : Tok} {hs : List CH} (h1 : th.d = t.d) (h2 : th.e = t.e) (h3 : th.n = t.n) (h4 : th.who = t.who) (h5 : th.til = t.til)
    (R : RowN encR 69 wz w.heap.size wz.heap.size th.rA th.rn th.rc t.roles) (S : RowN encI 65 wz w.heap.size wz.heap.size th.sA th.sn th.sc t.sup) (Y : RowN encY 5 wz w.heap.size wz.heap.size th.tA th.tn th.tc t.tag)
    (hl : hs.length = th.cn) (hcl : t.cavs.length = th.cn) (hc1 : th.cn ≤ th.cc) (hc2 : th.cc ≤ 9223372036854775807)
    (C : 0 < th.cn → ∃ gC tl, th.cA = some ⟨gC, 0, none⟩ ∧ w.heap.size ≤ gC ∧ gC < wz.heap.size ∧ RowE encC 51 wz gC tl hs)
    (K : CpyAt w0 wz Q B t.cavs hs th.cn) (hB : w.heap.size ≤ B) (b : Below w.heap.size w wz) : NewTok w wz th t := by
  have hrow : ∀ (i : Nat) (h : CH) (c : Cav), hs[i]? = some h → t.cavs[i]? = some c → RowN encR 69 wz w.heap.size wz.heap.size h.rA h.rn h.rc c.roles := fun i h c hi hc =>
    ((K i h c hi hc).2.1 (by have := (List.getElem?_eq_some_iff.1 hi).1; omega)).wide hB (Nat.le_refl _)
  refine ⟨⟨h1, h2, h3, h4, h5, R.len, R.le, R.max, R.elsQ (fun b hb _ => hb), S.len, S.le, S.max, S.elsQ (fun b hb _ => hb), hcl, hc1, hc2, ⟨hs, hl.trans hcl.symm, ?_, fun i h c hi hc => ?_⟩, Y.len, Y.le, Y.max, Y.bytQ (fun b hb _ => hb)⟩, ⟨hs, R.openR, S.openI, Y.openY, hl, fun h0 => ?_, fun i h hi => ?_⟩, b⟩
  · intro h0
    obtain ⟨gC, tl, e, k1, k2, row⟩ := C (by omega)
    obtain ⟨ad, e2, hb, hcell⟩ := row.els h0
    obtain rfl := Option.some.inj e2
    exact ⟨_, e, k1, hb, hcell⟩
  · have r := hrow i h c hi hc
    obtain ⟨q1, q2, q3⟩ := (K i h c hi hc).1
    exact ⟨q1, q2, q3, r.len, r.le, r.max, r.elsQ (fun b hb _ => hb)⟩
  · obtain ⟨gC, tl, e, k1, k2, row⟩ := C h0
    refine ⟨gC, _, e, k1, k2, row, by rw [List.size_toArray, List.length_append, ev_length, hl]; show th.cn * 4 ≤ th.cn * 4 + _; omega, fun i h hi j u hu => ?_⟩
    have hj : j < 4 := by have := (List.getElem?_eq_some_iff.1 hu).1; simpa [CH.cells] using this
    have q := ev_get encC hi (i := j) hj
    have q2 : (ev encC hs)[i * 4 + j]? = some u := q.trans hu
    have q3 := (List.getElem?_eq_some_iff.1 q2).1
    rw [List.getElem?_toArray, List.getElem?_append_left q3]
    exact q2
  · obtain ⟨c, hc⟩ : ∃ y, t.cavs[i]? = some y := ⟨_, List.getElem?_eq_getElem (by have := (List.getElem?_eq_some_iff.1 hi).1; omega)⟩
    have r := hrow i h c hi hc
    exact ⟨r.le, r.max, r.openR⟩
set_option maxHeartbeats 16000000 in
set_option maxRecDepth 100000 in
theorem pcopied_any {w : World} {Q : Nat → Prop} {th : TH} {t : Tok} (a : TokAt w Q th t) (hf : FewTok t) :
    Calls Tryz.prog 22 #[.agg #[.int .i64 th.d, .int .i64 th.e, .int .i64 th.n, .string th.who, .slice th.rA th.rn th.rc, .int .i64 th.til, .slice th.sA th.sn th.sc, .slice th.cA th.cn th.cc, .slice th.tA th.tn th.tc]] w fun e w' => ∃ th', e = .returned (.agg th'.cells.toArray) ∧ NewTok w w' th' t := by
  have HA := hid a
  have HF := hid hf
  have HRN : Hid (th.rn ≤ 6 ∧ th.sn ≤ 70 ∧ th.tn ≤ 40 ∧ th.cn ≤ 8) := hid ⟨by have := a.rl; have := hf.r; omega, by have := a.sl; have := hf.s; omega, by have := a.tl; have := hf.g; omega, by have := a.cl; have := hf.n; omega⟩
  have HCE := hid a.ce
  clear a hf
  obtain ⟨d, e, m, who, rA, rn, rc, til, sA, sn, sc, cA, cn, cc, tA, tn, tc⟩ := th
  obtain ⟨hr6, hs70, ht40, hc8⟩ := HRN.out
  simp only at hr6 hs70 ht40 hc8 HCE ⊢
  obtain ⟨hs0, hl0, he0, hat0⟩ := HCE.out
  have HCL0 : Hid (hs0.length = cn) := hid (hl0.trans HA.out.cl)
  have HE0 := hid he0
  have HAT0 := hid hat0
  clear hl0 he0 hat0 HCE HRN
  obtain ⟨w1, hw1⟩ : ∃ y, y = (w.alloc (.cells #[.int .i64 d, .int .i64 e, .int .i64 m, .string who, .slice rA rn rc, .int .i64 til, .slice sA sn sc, .slice cA cn cc, .slice tA tn tc] 27)).alloc (.cells #[.int .i64 0, .int .i64 0, .int .i64 0, .string ⟨#[]⟩, .slice none 0 0, .int .i64 0, .slice none 0 0, .slice none 0 0, .slice none 0 0] 27) := ⟨_, rfl⟩
  have HB1 : Hid (Below w.heap.size w w1) := hid (by rw [hw1]; exact below_alloc2 w _ _)
  have HX1 : Hid (ThAt w1 w.heap.size ⟨d, e, m, who, rA, rn, rc, til, sA, sn, sc, cA, cn, cc, tA, tn, tc⟩) := hid (by
    rw [hw1]
    exact (ThAt.new w ⟨d, e, m, who, rA, rn, rc, til, sA, sn, sc, cA, cn, cc, tA, tn, tc⟩).below ((Below.refl _ _).alloc (Nat.le_refl _) _))
  have HZ1 : Hid (ThAt w1 (w.heap.size + 1) TH.zero) := hid (by
    rw [hw1]
    have q := ThAt.new (w.alloc (.cells #[.int .i64 d, .int .i64 e, .int .i64 m, .string who, .slice rA rn rc, .int .i64 til, .slice sA sn sc, .slice cA cn cc, .slice tA tn tc] 27)) TH.zero
    rw [World.size_alloc] at q
    exact q)
  have HS1 : Hid (w1.heap.size = w.heap.size + 2) := hid (by rw [hw1]; simp)
  have HW1 := hid hw1
  have HC1 := hid (cloneR_any rA t.roles rn rc HA.out.rl (by omega) w1 ((HA.out.re.els.below HB1.out).more HB1.out.size))
  obtain ⟨c0, c1, c2, c3, c4, c5, c6, c7, c8⟩ := HX1.out.all
  simp only at c0 c1 c2 c3 c4 c5 c6 c7 c8
  clear hw1
  go_enter Tryz.func22, Tryz.ntmps22
  go_upto_region 1 with fail
  rw [← HW1.out]
  go_wp2_with fail
  refine HC1.out.mono ?_
  rintro er w2 ⟨A2, m2, rfl, o2, b2⟩
  have HR2 := hid (RowN.of_own o2 HA.out.rl)
  have HX2 := hid (HX1.out.below b2)
  have HZ2 := hid (HZ1.out.below b2)
  have HS2 : Hid (w.heap.size + 2 ≤ w2.heap.size) := hid (by have := b2.size; have := HS1.out; omega)
  obtain ⟨w3, hw3⟩ : ∃ y, y = w2.setCell ⟨w.heap.size, 4, none⟩ (.slice A2 rn m2) := ⟨_, rfl⟩
  have HG3 : Hid (Grew w2 w3 (fun b => b = w.heap.size)) := hid (by rw [hw3]; exact Grew.of_gro (gro_set1 _ _ _ _) rfl)
  have HX3 : Hid (ThAt w3 w.heap.size ⟨d, e, m, who, A2, rn, m2, til, sA, sn, sc, cA, cn, cc, tA, tn, tc⟩) := hid (by rw [hw3]; exact HX2.out.roles A2 rn m2)
  have HZ3 : Hid (ThAt w3 (w.heap.size + 1) TH.zero) := hid ((HG3.out.block _ HZ2.out.lt (by omega)).trans HZ2.out)
  have HR3 := hid (HR2.out.grew HG3.out (fun b hb _ he => by have := HS1.out; omega))
  have HB3 : Hid (Below w.heap.size w w3) := hid (HG3.out.then_below (HB1.out.trans (b2.mono HB1.out.size)) (by have := HS2.out; omega) (fun b hb => by omega))
  have HS3 : Hid (w3.heap.size = w2.heap.size) := hid (by rw [hw3]; simp)
  have HW3 := hid hw3
  clear o2 b2 hw3 c0 c1 c2 c3 c4 c5 c6 c7 c8
  obtain ⟨c0, c1, c2, c3, c4, c5, c6, c7, c8⟩ := HX2.out.all
  simp only at c0 c1 c2 c3 c4 c5 c6 c7 c8
  have f4 := HX2.out.f 4
  go_upto_region 2 with fail
  rw [← HW3.out]
  clear c0 c1 c2 c3 c4 c5 c6 c7 c8 f4
  obtain ⟨c0, c1, c2, c3, c4, c5, c6, c7, c8⟩ := HX3.out.all
  simp only at c0 c1 c2 c3 c4 c5 c6 c7 c8
  have HC3 := hid (cloneI_any sA t.sup sn sc HA.out.sl (by omega) w3 ((HA.out.se.els.below HB3.out).more HB3.out.size))
  go_wp2_with fail
  refine HC3.out.mono ?_
  rintro er w4 ⟨A4, m4, rfl, o4, b4⟩
  have HI4 := hid (RowN.of_own o4 HA.out.sl)
  have HR4 := hid (HR3.out.below b4)
  have HX4 := hid (HX3.out.below b4)
  have HZ4 := hid (HZ3.out.below b4)
  have HS4 : Hid (w2.heap.size ≤ w4.heap.size) := hid (by have := b4.size; have := HS3.out; omega)
  obtain ⟨w5, hw5⟩ : ∃ y, y = w4.setCell ⟨w.heap.size, 6, none⟩ (.slice A4 sn m4) := ⟨_, rfl⟩
  have HG5 : Hid (Grew w4 w5 (fun b => b = w.heap.size)) := hid (by rw [hw5]; exact Grew.of_gro (gro_set1 _ _ _ _) rfl)
  have HX5 : Hid (ThAt w5 w.heap.size ⟨d, e, m, who, A2, rn, m2, til, A4, sn, m4, cA, cn, cc, tA, tn, tc⟩) := hid (by rw [hw5]; exact HX4.out.sup A4 sn m4)
  have HZ5 : Hid (ThAt w5 (w.heap.size + 1) TH.zero) := hid ((HG5.out.block _ HZ4.out.lt (by omega)).trans HZ4.out)
  have HR5 := hid (HR4.out.grew HG5.out (fun b hb _ he => by have := HS1.out; omega))
  have HI5 := hid (HI4.out.grew HG5.out (fun b hb _ he => by have := HS3.out; have := HS2.out; omega))
  have HB5 : Hid (Below w.heap.size w w5) := hid (HG5.out.then_below (HB3.out.trans (b4.mono HB3.out.size)) (by have := HS2.out; have := HS4.out; omega) (fun b hb => by omega))
  have HS5 : Hid (w5.heap.size = w4.heap.size) := hid (by rw [hw5]; simp)
  have HW5 := hid hw5
  clear o4 b4 hw5 c0 c1 c2 c3 c4 c5 c6 c7 c8
  obtain ⟨c0, c1, c2, c3, c4, c5, c6, c7, c8⟩ := HX4.out.all
  simp only at c0 c1 c2 c3 c4 c5 c6 c7 c8
  have f6 := HX4.out.f 6
  go_upto_region 3 with fail
  rw [← HW5.out]
  clear c0 c1 c2 c3 c4 c5 c6 c7 c8 f6
  obtain ⟨c0, c1, c2, c3, c4, c5, c6, c7, c8⟩ := HX5.out.all
  simp only at c0 c1 c2 c3 c4 c5 c6 c7 c8
  have HC5 := hid (cloneC_any cA hs0 cn cc HCL0.out (by omega) w5 ((HE0.out.els.below HB5.out).more HB5.out.size))
  go_wp2_with fail
  refine HC5.out.mono ?_
  rintro er w6 ⟨A6, m6, rfl, o6, b6⟩
  have HV6 := hid (RowN.of_own o6 HCL0.out)
  have HR6 := hid (HR5.out.below b6)
  have HI6 := hid (HI5.out.below b6)
  have HX6 := hid (HX5.out.below b6)
  have HZ6 := hid (HZ5.out.below b6)
  have HS6 : Hid (w4.heap.size ≤ w6.heap.size) := hid (by have := b6.size; have := HS5.out; omega)
  obtain ⟨w7, hw7⟩ : ∃ y, y = w6.setCell ⟨w.heap.size, 7, none⟩ (.slice A6 cn m6) := ⟨_, rfl⟩
  have HG7 : Hid (Grew w6 w7 (fun b => b = w.heap.size)) := hid (by rw [hw7]; exact Grew.of_gro (gro_set1 _ _ _ _) rfl)
  have HX7 : Hid (ThAt w7 w.heap.size ⟨d, e, m, who, A2, rn, m2, til, A4, sn, m4, A6, cn, m6, tA, tn, tc⟩) := hid (by rw [hw7]; exact HX6.out.cavs A6 cn m6)
  have HZ7 : Hid (ThAt w7 (w.heap.size + 1) TH.zero) := hid ((HG7.out.block _ HZ6.out.lt (by omega)).trans HZ6.out)
  have HR7 := hid (HR6.out.grew HG7.out (fun b hb _ he => by have := HS1.out; omega))
  have HI7 := hid (HI6.out.grew HG7.out (fun b hb _ he => by have := HS3.out; have := HS2.out; omega))
  have HV7 := hid (HV6.out.grew HG7.out (fun b hb _ he => by have := HS5.out; have := HS4.out; have := HS2.out; omega))
  have HB7 : Hid (Below w.heap.size w w7) := hid (HG7.out.then_below (HB5.out.trans (b6.mono HB5.out.size)) (by have := HS2.out; have := HS4.out; have := HS6.out; omega) (fun b hb => by omega))
  have HS7 : Hid (w7.heap.size = w6.heap.size) := hid (by rw [hw7]; simp)
  have HW7 := hid hw7
  clear o6 b6 hw7 c0 c1 c2 c3 c4 c5 c6 c7 c8
  obtain ⟨c0, c1, c2, c3, c4, c5, c6, c7, c8⟩ := HX6.out.all
  simp only at c0 c1 c2 c3 c4 c5 c6 c7 c8
  have f7 := HX6.out.f 7
  go_upto_region 4 with fail
  rw [← HW7.out]
  clear c0 c1 c2 c3 c4 c5 c6 c7 c8 f7 HC1 HC3 HC5 HX1 HX2 HX3 HX4 HX5 HX6 HZ1 HZ2 HZ3 HZ4 HZ5 HZ6 HR2 HR3 HR4 HR5 HR6 HI4 HI5 HI6 HV6 HG3 HG5 HG7 HW1 HW3 HW5 HB1 HB3 HB5
  obtain ⟨gC, tl, hrow⟩ : ∃ gC tl, 0 < cn → A6 = some ⟨gC, 0, none⟩ ∧ w5.heap.size ≤ gC ∧ gC < w6.heap.size ∧ RowE encC 51 w7 gC tl hs0 := by
    rcases Nat.eq_zero_or_pos cn with h0 | h0
    · exact ⟨0, [], fun h => absurd h (by omega)⟩
    · obtain ⟨g, tl, h⟩ := HV7.out.row h0
      exact ⟨g, tl, fun _ => h⟩
  have HROW := hid hrow
  have HCP7 : Hid (CpyAt w w7 Q w7.heap.size t.cavs hs0 0) := hid (fun i h c hi hc => ⟨⟨(HAT0.out i h c hi hc).kind, (HAT0.out i h c hi hc).til, (HAT0.out i h c hi hc).aud⟩, fun h2 => absurd h2 (by omega), fun _ => HAT0.out i h c hi hc⟩)
  obtain ⟨c0, c1, c2, c3, c4, c5, c6, c7, c8⟩ := HX7.out.all
  simp only at c0 c1 c2 c3 c4 c5 c6 c7 c8
  clear hrow
  go_wp2_with fail
  go_loopw [20] (fun i wr => ∃ (k : Nat) (hs : List CH), k ≤ cn ∧ i = .int .i64 (k : Int) ∧ Hid (hs.length = cn) ∧ Hid (0 < cn → RowE encC 51 wr gC tl hs) ∧ Hid (CpyAt w wr Q w7.heap.size t.cavs hs k) ∧ Hid (Grew w7 wr (fun b => 0 < cn ∧ b = gC))) (fun i _ => cn - (intOf i).toNat)
  case atStart => exact ⟨0, hs0, Nat.zero_le _, rfl, HCL0, hid (fun h => (HROW.out h).2.2.2), HCP7, hid (Grew.refl _ _)⟩
  case round =>
    clear HCP7 c0 c1 c2 c3 c4 c5 c6 c7 c8
    obtain ⟨wj, hwj⟩ : ∃ x, x = wr := ⟨_, rfl⟩
    subst hwj
    obtain ⟨k, hs, hk, rfl, HSL, HRO, HCP, HG⟩ := hrel
    have hk0 : (0 : Int) ≤ (k : Int) := Int.natCast_nonneg _
    have HXJ : Hid (ThAt wj w.heap.size ⟨d, e, m, who, A2, rn, m2, til, A4, sn, m4, A6, cn, m6, tA, tn, tc⟩) := hid ((HG.out.block _ HX7.out.lt (fun h => by have h2 := HROW.out h.1; have := HS5.out; have := HS4.out; have := HS2.out; omega)).trans HX7.out)
    have HSZ : Hid (w7.heap.size ≤ wj.heap.size) := hid HG.out.size
    by_cases hlt : k < cn
    · have hk1 : (k : Int) < (cn : Int) := by omega
      have hcn0 : 0 < cn := by omega
      obtain ⟨rfl, hg1, hg2, _⟩ := HROW.out hcn0
      have HGC := hid (And.intro hg1 hg2)
      clear hg1 hg2
      obtain ⟨x, hx⟩ : ∃ y, hs[k]? = some y := ⟨_, List.getElem?_eq_getElem (by rw [HSL.out]; exact hlt)⟩
      obtain ⟨cv, hcv⟩ : ∃ y, t.cavs[k]? = some y := ⟨_, List.getElem?_eq_getElem (by have := HA.out.cl; simp only at this; omega)⟩
      have HXK := hid hx
      have HCK := hid hcv
      have HCA := hid ((HCP.out k x cv hx hcv).2.2 (Nat.le_refl _))
      have R := HRO.out hcn0
      have z0 : wj.cell? ⟨gC, k * 4, none⟩ = some (.int .i64 x.kind) := R.cell hx (i := 0) (by decide) rfl
      have z1 : wj.cell? ⟨gC, k * 4 + 1, none⟩ = some (.slice x.rA x.rn x.rc) := R.cell hx (i := 1) (by decide) rfl
      have z2 : wj.cell? ⟨gC, k * 4 + 2, none⟩ = some (.int .i64 x.til) := R.cell hx (i := 2) (by decide) rfl
      have z3 : wj.cell? ⟨gC, k * 4 + 3, none⟩ = some (.string x.aud) := R.cell hx (i := 3) (by decide) rfl
      have ak := addr_rowE gC (k * 4)
      have HRL := hid HCA.out.rl
      have HR6' : Hid (x.rn ≤ 6) := hid (by rw [← HRL.out]; exact HF.out.c cv (List.mem_of_getElem? hcv))
      have HBW : Hid (Below w.heap.size w wj) := hid (HG.out.then_below HB7.out (by have := HS7.out; have := HS6.out; have := HS4.out; have := HS2.out; omega) (fun b hb => by have := hb.2; have := HGC.out.1; have := HS5.out; have := HS4.out; have := HS2.out; omega))
      obtain ⟨xk, xA, xn, xc, xt, xa⟩ := x
      simp only at z0 z1 z2 z3 HR6' HRL
      obtain ⟨w8, hw8⟩ : ∃ y, y = wj.alloc (.cells #[.int .i64 xk, .slice xA xn xc, .int .i64 xt, .string xa] 51) := ⟨_, rfl⟩
      have hb8 : Below wj.heap.size wj w8 := by rw [hw8]; exact (Below.refl _ _).alloc (Nat.le_refl _) _
      have HV8 : Hid (ChAt w8 wj.heap.size ⟨xk, xA, xn, xc, xt, xa⟩) := hid (by rw [hw8]; exact ChAt.new wj ⟨xk, xA, xn, xc, xt, xa⟩)
      have HG8 := hid (HG.out.trans (Grew.of_below (X := fun b => 0 < cn ∧ b = gC) hb8))
      have HRO8 : Hid (RowE encC 51 w8 gC tl hs) := hid (R.below hb8)
      have HXJ8 := hid (HXJ.out.below hb8)
      have HB8 := hid (HBW.out.trans (hb8.mono HBW.out.size))
      have HCP8 := hid (HCP.out.grew (X := fun _ => False) (Grew.of_below hb8) (fun _ _ h => h))
      have HSZ8 : Hid (w7.heap.size ≤ w8.heap.size) := hid (Nat.le_trans HSZ.out hb8.size)
      have HC8 := hid (fun W (hW : Below w8.heap.size w8 W) => cloneR_any xA cv.roles xn xc HRL.out (by have := HR6'.out; omega) W ((HCA.out.re.els.below (HB8.out.trans (hW.mono HB8.out.size))).more (HB8.out.trans (hW.mono HB8.out.size)).size))
      have HKS := hid (fun W (hW : Below w8.heap.size w8 W) => (⟨(HXJ8.out.below hW).all.2.2.2.2.2.2.2.1, (HV8.out.below hW).all.2.1, (HRO8.out.below hW).cell HXK.out (i := 1) (by decide) rfl, (HRO8.out.below hW).f _⟩ :
        W.cell? ⟨w.heap.size, 7, none⟩ = some (.slice (some ⟨gC, 0, none⟩) cn m6) ∧ W.cell? ⟨wj.heap.size, 1, none⟩ = some (.slice xA xn xc) ∧ W.cell? ⟨gC, k * 4 + 1, none⟩ = some (.slice xA xn xc) ∧ W.frozen? ⟨gC, k * 4 + 1, none⟩ = false))
      have HW8 := hid hw8
      have HD8 := hid (Below.refl w8.heap.size w8).drew
      clear hx hcv hw8 hb8 R
      go_upto_region 7 with fail
      rw [← HW8.out]
      clear z0 z1 z2 z3
      obtain ⟨k1, k2, k3, k4⟩ := HKS.out w8 (Below.refl _ _)
      go_region_with ((go_at_call 56; (refine (HC8.out _ HD8.out).mono ?_); rintro er w9 ⟨A9, m9, rfl, o9, b9⟩; have BQ9 := hid (HD8.out.trans (b9.mono HD8.out.size)); have HO9 := hid (RowN.of_own o9 HRL.out); (obtain ⟨j1, j2, j3, j4⟩ := HKS.out _ BQ9.out); clear o9 b9))
      all_goals
        obtain ⟨wz, hwz⟩ : ∃ y, y = w9.setCell ⟨gC, k * 4 + 1, none⟩ (.slice A9 xn m9) := ⟨_, rfl⟩
        have HGZ : Hid (Grew w9 wz (fun b => 0 < cn ∧ b = gC)) := hid (by rw [hwz]; exact Grew.of_gro (gro_set1 _ _ _ _) ⟨hcn0, rfl⟩)
        have HG9 := hid ((HG8.out.trans (Grew.of_below (X := fun b => 0 < cn ∧ b = gC) BQ9.out)).trans HGZ.out)
        have HROZ : Hid (0 < cn → RowE encC 51 wz gC tl (hs.set k ⟨xk, A9, xn, m9, xt, xa⟩)) := hid (fun _ => by rw [hwz]; exact setCell_cav (HRO8.out.below BQ9.out) HXK.out A9 xn m9)
        have HCPZ : Hid (CpyAt w wz Q w7.heap.size t.cavs (hs.set k ⟨xk, A9, xn, m9, xt, xa⟩) (k + 1)) := hid (by
          have q1 := HCP8.out.grew (X := fun _ => False) (Grew.of_below BQ9.out) (fun _ _ h => h)
          have q2 := q1.step HXK.out HCK.out (HO9.out.wide (B' := w7.heap.size) (Nat.le_trans HSZ8.out (by first | exact Nat.le_refl _ | exact HD8.out.size)) (Nat.le_refl _))
          exact q2.grew HGZ.out (fun b hb h => by have := h.2; have := HGC.out.2; have := HS7.out; omega))
        have HSLZ : Hid ((hs.set k ⟨xk, A9, xn, m9, xt, xa⟩).length = cn) := hid (by rw [List.length_set]; exact HSL.out)
        rw [← hwz]
        clear hwz
        go_wp2_with fail
        go_roundw
        case rel => exact ⟨k + 1, _, by omega, by go_num, HSLZ, HROZ, HCPZ, HG9⟩
        case measure => simp [intOf]; omega
    · obtain rfl : k = cn := by omega
      have hk1 : ¬ (k : Int) < (k : Int) := by omega
      have HZJ : Hid (ThAt wj (w.heap.size + 1) TH.zero) := hid ((HG.out.block _ HZ7.out.lt (fun h => by have h2 := HROW.out h.1; have := HS5.out; have := HS4.out; have := HS2.out; omega)).trans HZ7.out)
      have HBW : Hid (Below w.heap.size w wj) := hid (HG.out.then_below HB7.out (by have := HS7.out; have := HS6.out; have := HS4.out; have := HS2.out; omega) (fun b hb => by have h2 := HROW.out hb.1; have := hb.2; have := HS5.out; have := HS4.out; have := HS2.out; omega))
      have HC9 := hid (cloneY_any tA t.tag tn tc HA.out.tl (by omega) wj (els_bytes ((HA.out.te.byt.below HBW.out).more HBW.out.size)))
      obtain ⟨c0, c1, c2, c3, c4, c5, c6, c7, c8⟩ := HXJ.out.all
      simp only at c0 c1 c2 c3 c4 c5 c6 c7 c8
      go_wp2_with fail
      refine HC9.out.mono ?_
      rintro er w9 ⟨A9, m9, rfl, o9, b9⟩
      have HY9 := hid (RowN.of_own o9 HA.out.tl)
      have HX9 := hid (HXJ.out.below b9)
      have HZ9 := hid (HZJ.out.below b9)
      have HG9 := hid (HG.out.trans (Grew.of_below (X := fun b => 0 < k ∧ b = gC) b9))
      have HS9 : Hid (wj.heap.size ≤ w9.heap.size) := hid b9.size
      have HCP9 := hid (HCP.out.grew (X := fun _ => False) (Grew.of_below b9) (fun _ _ h => h))
      have HRO9 := hid (fun h => (HRO.out h).below b9)
      have HB9 := hid (HBW.out.trans (b9.mono HBW.out.size))
      obtain ⟨wa, hwa⟩ : ∃ y, y = w9.setCell ⟨w.heap.size, 8, none⟩ (.slice A9 tn m9) := ⟨_, rfl⟩
      have HGA : Hid (Grew w9 wa (fun b => b = w.heap.size)) := hid (by rw [hwa]; exact Grew.of_gro (gro_set1 _ _ _ _) rfl)
      have HXA : Hid (ThAt wa w.heap.size ⟨d, e, m, who, A2, rn, m2, til, A4, sn, m4, A6, k, m6, A9, tn, m9⟩) := hid (by rw [hwa]; exact HX9.out.tag A9 tn m9)
      have HZA : Hid (ThAt wa (w.heap.size + 1) TH.zero) := hid ((HGA.out.block _ HZ9.out.lt (by omega)).trans HZ9.out)
      have HWA := hid hwa
      clear o9 b9 hwa c0 c1 c2 c3 c4 c5 c6 c7 c8
      obtain ⟨c0, c1, c2, c3, c4, c5, c6, c7, c8⟩ := HX9.out.all
      simp only at c0 c1 c2 c3 c4 c5 c6 c7 c8
      have f8 := HX9.out.f 8
      go_upto_region 10 with fail
      rw [← HWA.out]
      clear c0 c1 c2 c3 c4 c5 c6 c7 c8 f8
      obtain ⟨c0, c1, c2, c3, c4, c5, c6, c7, c8⟩ := HXA.out.all
      obtain ⟨z0, z1, z2, z3, z4, z5, z6, z7, z8⟩ := HZA.out.all
      simp only [TH.zero, E0] at c0 c1 c2 c3 c4 c5 c6 c7 c8 z0 z1 z2 z3 z4 z5 z6 z7 z8
      have g0 := HZA.out.f 0
      have g1 := HZA.out.f 1
      have g2 := HZA.out.f 2
      have g3 := HZA.out.f 3
      have g4 := HZA.out.f 4
      have g5 := HZA.out.f 5
      have g6 := HZA.out.f 6
      have g7 := HZA.out.f 7
      have g8 := HZA.out.f 8
      obtain ⟨hput, hgro⟩ := HZA.out.put ⟨d, e, m, who, A2, rn, m2, til, A4, sn, m4, A6, k, m6, A9, tn, m9⟩
      simp only at hput hgro
      obtain ⟨wz, hwz⟩ : ∃ y, y = (((((((((wa.setCell ⟨w.heap.size + 1, 0, none⟩ (.int .i64 d)).setCell ⟨w.heap.size + 1, 1, none⟩ (.int .i64 e)).setCell ⟨w.heap.size + 1, 2, none⟩ (.int .i64 m)).setCell ⟨w.heap.size + 1, 3, none⟩ (.string who)).setCell ⟨w.heap.size + 1, 4, none⟩ (.slice A2 rn m2)).setCell ⟨w.heap.size + 1, 5, none⟩ (.int .i64 til)).setCell ⟨w.heap.size + 1, 6, none⟩ (.slice A4 sn m4)).setCell ⟨w.heap.size + 1, 7, none⟩ (.slice A6 k m6)).setCell ⟨w.heap.size + 1, 8, none⟩ (.slice A9 tn m9)) := ⟨_, rfl⟩
      rw [← hwz] at hput hgro
      have HPZ := hid hput
      have HGZ : Hid (Grew wa wz (fun b => b = w.heap.size + 1)) := hid (Grew.of_gro hgro rfl)
      have HWZ := hid hwz
      clear hput hgro hwz
      go_wp2_with fail
      rw [← HWZ.out]
      have hS1 := HS1.out
      have hS2 := HS2.out
      have hS3 := HS3.out
      have hS4 := HS4.out
      have hS5 := HS5.out
      have hS6 := HS6.out
      have hS7 := HS7.out
      have hSG := HG.out.size
      have hS9 := HS9.out
      have hSA := HGA.out.size
      have hSZ := HGZ.out.size
      refine bodyPost_ret (results_mid (h := Tryz.results22) _ _ (w.heap.size + 1) 0 (TH.cells ⟨d, e, m, who, A2, rn, m2, til, A4, sn, m4, A6, k, m6, A9, tn, m9⟩) _ rfl (range_row HPZ.out) Tryz.underlying27 rfl info_token) rfl ?_
      have X7 : Grew w7 wz (fun b => (0 < k ∧ b = gC) ∨ b = w.heap.size ∨ b = w.heap.size + 1) := ((HG9.out.mono (fun b _ h => .inl h)).trans (HGA.out.mono (fun b _ h => .inr (.inl h)))).trans (HGZ.out.mono (fun b _ h => .inr (.inr h)))
      have X9 : Grew w9 wz (fun b => b = w.heap.size ∨ b = w.heap.size + 1) := (HGA.out.mono (fun b _ h => .inl h)).trans (HGZ.out.mono (fun b _ h => .inr h))
      refine ⟨_, rfl, NewTok.mk' (w0 := w) (Q := Q) (B := w7.heap.size) (hs := hs) HA.out.d HA.out.e HA.out.n HA.out.who HA.out.til ?_ ?_ ?_ HSL.out HA.out.cl HV7.out.le HV7.out.max ?_ ?_ (by omega) ?_⟩
      · exact (HR7.out.grew X7 (fun b h1 h2 h => by rcases h with ⟨h3, h4⟩ | h | h <;> (try have h5 := HROW.out h3) <;> omega)).wide (by omega) (by omega)
      · exact (HI7.out.grew X7 (fun b h1 h2 h => by rcases h with ⟨h3, h4⟩ | h | h <;> (try have h5 := HROW.out h3) <;> omega)).wide (by omega) (by omega)
      · exact (HY9.out.grew X9 (fun b h1 h2 h => by omega)).wide (by omega) (by omega)
      · intro h0
        obtain ⟨e1, e2, e3, e4⟩ := HROW.out h0
        exact ⟨gC, tl, e1, by omega, by omega, (X9.block gC (by omega) (by omega)).trans (HRO9.out h0)⟩
      · exact HCP9.out.grew X9 (fun b h1 h => by omega)
      · exact HGZ.out.then_below (HGA.out.then_below HB9.out (by omega) (fun b h => by omega)) (by omega) (fun b h => by omega)
end Go.Proofs.YtaadmgbmaekicaaGreatDoor.Sh
