/-
  The walk of TapeOwns. Written by mk_tpowns.py.
-/
import Derived.Test.YtdigfbgjefffiaaTpLawA
import Derived.Deep.DeepCutAuto
namespace Go.Proofs.Ytdigfbgjefffiaa.Sh
open Go Go.RowKit

set_option linter.unusedSimpArgs false
set_option linter.unusedVariables false
theorem OwnB.at' {w : World} {B n c k : Nat} {A : Option Addr} {t : List UInt8} (h : OwnB w B (.slice A n c) n t) (hk : k < n) (z : Int) (y : UInt8) (hz : z = (y.toNat : Int)) :
    ∃ g v, A = some ⟨g, 0, none⟩ ∧ B ≤ g ∧ g < w.heap.size ∧ w.cell? ⟨g, k, none⟩ = some v ∧ w.frozen? ⟨g, k, none⟩ = false ∧ OwnB (w.setCell ⟨g, k, none⟩ (.int .u8 z)) B (.slice (some ⟨g, 0, none⟩) n c) n (t.set k y) := by
  subst hz
  have hl := h.len
  obtain ⟨g, cap5, hv5, hg5, hlt⟩ := World.ownsRow.form h (by omega)
  injection hv5 with hA5 _ hcap5
  subst hA5 hcap5
  obtain ⟨x, hx⟩ : ∃ x, t[k]? = some x := ⟨_, List.getElem?_eq_getElem (by omega)⟩
  refine ⟨g, .int .u8 x.toNat, rfl, hg5, hlt, by rw [World.ownsRow.cellAt h k (by omega)]; simp [bv, hx], World.ownsRow.frozenAt h k, ?_⟩
  have h2 := (World.ownsRow.stored h k (.int .u8 y.toNat)).1
  unfold OwnB
  rw [← bv_set]
  exact h2
theorem own_max {w : World} {B n c : Nat} {A : Option Addr} {t : List UInt8} (h : OwnB w B (.slice A n c) n t) : c ≤ 9223372036854775807 := by
  rcases h.2 with ⟨hv, h0⟩ | ⟨g, cap, cur, hv, hB, hb, hc, hM, r⟩
  · simp only [Value.slice.injEq] at hv
    omega
  · simp only [Value.slice.injEq] at hv
    obtain ⟨-, -, rfl⟩ := hv
    exact hM
theorem OwnB.lt6 {w w6 : World} {B B' n c : Nat} {g : Nat} {l t : List UInt8} (h : OwnB w B (.slice (some ⟨g, 0, none⟩) n c) n t) (h' : OwnB w6 B' (.slice (some ⟨g, 0, none⟩) n c) n l) : g < w6.heap.size := by
  rcases h'.2 with ⟨hv, h0⟩ | ⟨g', cap, cur, hv, hB, hb, r⟩
  · simp at hv
  · simp only [Value.slice.injEq, Option.some.injEq, Addr.mk.injEq, and_true, true_and] at hv
    rw [hv.1]
    exact (Array.getElem?_eq_some_iff.1 hb).1
theorem BytQ.take' {w : World} {Q : Nat → Prop} {A : Option Addr} {l l' : List UInt8} (h : BytQ w Q A l) (m : Nat) (e : l.take m = l') : BytQ w Q A l' := fun h0 => by
  subst e
  rw [List.length_take] at h0
  obtain ⟨ad, e, h1, h2, h3⟩ := h (by omega)
  refine ⟨ad, e, h1, h2, fun j x hx => h3 j x ?_⟩
  rw [List.getElem?_take] at hx
  split at hx
  · exact hx
  · cases hx
/-- Both tapes, made since w0, in no block of X. -/
def BthN (w0 w : World) (X : Nat → Prop) (gs gr : Nat) (S : TS) : Prop := (∃ P R, Bth w P R gs gr S ∧ ∀ b, (P b ∨ R b) → w0.heap.size ≤ b ∧ ¬ X b) ∧ Below w0.heap.size w0 w
theorem BthN.x {w0 w : World} {X : Nat → Prop} {gs gr : Nat} {S : TS} (h : BthN w0 w X gs gr S) : BthX w0 w gs gr S := by
  obtain ⟨⟨P, R, h1, h2⟩, h3⟩ := h
  exact ⟨⟨P, R, h1, fun b hb => (h2 b hb).1⟩, h3⟩
theorem BthN.set {w0 w : World} {X : Nat → Prop} {gs gr : Nat} {S : TS} (h : BthN w0 w X gs gr S) {g : Nat} (hX : X g) (hg : w0.heap.size ≤ g) (j : Nat) (v : Value) : BthN w0 (w.setCell ⟨g, j, none⟩ v) X gs gr S := by
  obtain ⟨⟨P, R, h1, h2⟩, h3⟩ := h
  have hgr := gro_set1 w g j v
  refine ⟨⟨P, R, h1.kept (fun x hx hl => hgr.block x hl (fun e => (h2 x hx).2 (by rw [Option.some.inj e]; exact hX))) hgr.size, h2⟩, h3.setCell (p := ⟨g, j, none⟩) hg v⟩
/-- A read: its bytes are in no block of the tapes. -/
theorem BthX.read {w0 w : World} {gs gr : Nat} {S : TS} (h : BthX w0 w gs gr S) (hu : S.us.length ≤ 800000) (sd : Int) :
    Calls Try.prog 16 #[.pointer (some ⟨gs, 0, none⟩), .int .i64 sd] w fun er w' => ∃ A n c e l, er = .returned (.tuple #[.slice A n c, .int .i64 e]) ∧ OwnB w' w.heap.size (.slice A n c) n l ∧ BthN w0 w' (fun b => w.heap.size ≤ b) gs gr S := by
  obtain ⟨⟨P, R, h1, h2⟩, h3⟩ := h
  refine (readP_any h1.p (by omega) sd).mono fun er w' ⟨A, n, c, a, b, d, e, f⟩ => ⟨A, n, c, _, _, a, e, ⟨P, R, h1.below f, fun b hb => ⟨h2 b hb, fun hx => by have := h1.dom b hb; omega⟩⟩, h3.trans (f.mono h3.size)⟩
theorem step_take (S : TS) (kd sd z : Int) (l : List UInt8) : S.step (kd, sd, z, l.take 60) = S.step (kd, sd, z, l) := by
  unfold TS.step
  simp only [List.take_take, Nat.min_self]
set_option maxHeartbeats 16000000 in
set_option maxRecDepth 100000 in
theorem tapeOwns_walk (A : Option Addr) (xs : List Dt) (n c : Nat) (hn : xs.length = n) (hc : n ≤ c) (hc2 : c ≤ 9223372036854775807) (w : World) (h : Deeds4 w w.heap.size A xs) :
    Calls Try.prog 8 #[.slice A n c] w fun e w' => e = .returned (.bool true) ∧ Below w.heap.size w w' := by
  have HN := hid hn
  have HDD := hid (fun W (hW : Below w.heap.size w W) => h.below hW (Nat.le_refl _))
  have H1 := hid (newP_any w)
  have H2 := hid (fun W => refNew_any W)
  clear h hn
  go_enter Try.func8, Try.ntmps8
  go_wp2_with fail
  refine H1.out.mono ?_
  rintro er w1 ⟨gs, rfl, -, p1, b1⟩
  have HP1 := hid p1
  have HB1 := hid b1
  clear p1 b1
  go_wp2_with fail
  refine (H2.out w1).mono ?_
  rintro er w2 ⟨gr, rfl, -, r2, b2⟩
  have HX := hid (BthX.start w (P := fun _ => False) (R := fun _ => False) HP1.out HB1.out r2 b2)
  clear r2 b2
  go_wp2_with fail
  go_loopw [5] (fun i wr => ∃ (k : Nat), k ≤ n ∧ k ≤ 25 ∧ i = .int .i64 (k : Int) ∧ Hid (BthX w wr gs gr (stepsT xs k))) (fun i _ => n - (intOf i).toNat)
  case atStart => exact ⟨0, by omega, by omega, rfl, HX⟩
  case round =>
    obtain ⟨wj, hwj⟩ : ∃ x, x = wr := ⟨_, rfl⟩
    subst hwj
    obtain ⟨k, hk, hk6, rfl, HBX⟩ := hrel
    have hk0 : (0 : Int) ≤ (k : Int) := Int.natCast_nonneg _
    by_cases hlt : k < n
    · have hk1 : (k : Int) < (n : Int) := by omega
      by_cases hl6 : k < 25
      · have hk2 : (k : Int) < 25 := by omega
        obtain ⟨ad, aj, dh, x, hx, rfl, had, ea, HA, c0, c1, c2, c3⟩ := (HDD.out wj HBX.out.2).at (i := k) (by rw [HN.out]; exact hlt)
        obtain ⟨⟨P, R, hb, hP⟩, hbel⟩ := HBX.out
        have hu := stepsT_us xs k
        obtain ⟨xl, hxl⟩ : ∃ xl, x.2.2.2.take 60 = xl := ⟨_, rfl⟩
        have HST : Hid (stepsT xs (k + 1) = (stepsT xs k).step (dh.kind, dh.sd, dh.z, xl)) := hid (by
          rw [stepsT_succ hx, ← hxl, step_take, HA.kind, HA.sd, HA.z])
        have hdc := HA.nc
        obtain ⟨m, hm⟩ : ∃ m, min 60 dh.n = m := ⟨_, rfl⟩
        have hxm : xl.length = m := by rw [← hxl, List.length_take, HA.n, hm]
        have hmc : m ≤ dh.c := by omega
        have hm60 : m ≤ 60 := by omega
        -- the deed in a block
        obtain ⟨w3, hw3⟩ : ∃ x, x = wj.alloc (.cells #[.int .i64 dh.kind, .int .i64 dh.sd, .int .i64 dh.z, .slice dh.A dh.n dh.c] 30) := ⟨_, rfl⟩
        have hb3 : Below wj.heap.size wj w3 := by rw [hw3]; exact (Below.refl _ _).alloc (Nat.le_refl _) _
        have hr3 : w3.heap[wj.heap.size]? = some (.cells #[.int .i64 dh.kind, .int .i64 dh.sd, .int .i64 dh.z, .slice dh.A dh.n dh.c] 30 (0, 0)) := by rw [hw3]; exact heap_alloc_new wj _
        have hs3 : w3.heap.size = wj.heap.size + 1 := by rw [hw3]; simp
        obtain ⟨r0, r1, r2, r3⟩ := deed_row hr3 w3 rfl
        have HFEW := hid (fun W => few16_any dh.A dh.n dh.c hdc W)
        rw [hm] at HFEW
        have HRDX : Hid (Reads w3 dh.A (bv xl)) := hid (((HA.el.take' 60 hxl).kept (w' := w3) (fun b _ hl => hb3.block b hl) hb3.size).byt.reads)
        have HXM := hid hxm
        have HW3 := hid hw3
        have HR3 := hid hr3
        have HB3 := hid hb3
        have HS3 := hid hs3
        have HBTH := hid hb
        have HPP := hid hP
        have HBL := hid hbel
        have HKD := hid (And.intro HA.k0 (And.intro HA.k1 (And.intro HA.z0 HA.z1)))
        have HUU : Hid ((stepsT xs k).us.length ≤ 800000) := hid (by omega)
        clear hb hP hbel hx HA hu had hw3 hb3 hr3 hs3 hxl hxm hm HBX
        go_upto_region 9 with fail
        rw [← HW3.out]
        clear c0 c1 c2 c3
        go_upto_region 11 with (first
          | (go_at_call 20; (refine (HFEW.out _).mono ?_); rintro er w4 ⟨rfl, rfl⟩)
          | (at_builtin; (refine wpList_appB rfl (.tmp 34) (.tmp 37) rfl w3.heap.size (.slice none 0 0) 0 [] (OwnB.nil _ _) rfl dh.A m dh.c xl rfl HXM.out HRDX.out (by omega) (Nat.le_refl _) w3 (Below.refl _ _) m (by omega) ?_; intro Ao co w4 o4 _ b4)))
        have o4' : OwnB w4 w3.heap.size (.slice Ao m co) m xl := o4
        have hmo : m ≤ co ∧ co ≤ 9223372036854775807 := by
          obtain ⟨A', c', e, h1⟩ := own_slice o4'
          injection e with _ _ e
          have := own_max o4'
          omega
        have hr4 := (b4.block _ (by rw [HS3.out]; omega)).trans HR3.out
        have hb4 := HB3.out.trans (b4.mono (by rw [HS3.out]; omega))
        have hs4 := b4.size
        have hs3 := HS3.out
        obtain ⟨w5, hw5⟩ : ∃ x, x = w4.alloc (.cells #[.int .i64 dh.kind, .int .i64 dh.sd, .int .i64 dh.z, .slice dh.A dh.n dh.c] 30) := ⟨_, rfl⟩
        have hb5 : Below w4.heap.size w4 w5 := by rw [hw5]; exact (Below.refl _ _).alloc (Nat.le_refl _) _
        have hr5 : w5.heap[w4.heap.size]? = some (.cells #[.int .i64 dh.kind, .int .i64 dh.sd, .int .i64 dh.z, .slice dh.A dh.n dh.c] 30 (0, 0)) := by rw [hw5]; exact heap_alloc_new w4 _
        have hs5 : w5.heap.size = w4.heap.size + 1 := by rw [hw5]; simp
        obtain ⟨w6, hw6⟩ : ∃ x, x = w5.setCell ⟨w4.heap.size, 3, none⟩ (.slice Ao m co) := ⟨_, rfl⟩
        have hb6 : Below w4.heap.size w4 w6 := by rw [hw6]; exact hb5.setCell (p := ⟨w4.heap.size, 3, none⟩) (Nat.le_refl _) _
        have hr6 : w6.heap[w4.heap.size]? = some (.cells #[.int .i64 dh.kind, .int .i64 dh.sd, .int .i64 dh.z, .slice Ao m co] 30 (0, 0)) := by rw [hw6]; exact heap_setCell_same w5 _ 3 _ _ _ hr5
        have hs6 : w6.heap.size = w4.heap.size + 1 := by rw [hw6, size_setQ]; exact hs5
        have hbw6 : Below wj.heap.size wj w6 := hb4.trans (hb6.mono hb4.size)
        have hb0 := HBTH.out.below hbw6
        have o6 : OwnB w6 w3.heap.size (.slice Ao m co) m xl := o4'.below' hb6
        have hZ : ∀ b, (wj.heap.size ≤ b ∧ b < w6.heap.size) → ¬ P b ∧ ¬ R b := fun b hb => ⟨fun hp => by have := HBTH.out.p.dom b hp; omega, fun hp => by have := HBTH.out.r.dom b hp; omega⟩
        have HDO := hid (does_any hb0 HUU.out dh.kind dh.sd dh.z HKD.out.1 HKD.out.2.1 HKD.out.2.2.1 HKD.out.2.2.2 Ao xl m co HXM.out hmo.1 hmo.2 (fun b => wj.heap.size ≤ b ∧ b < w6.heap.size) (BytQ.of_own o6 (fun b h1 h2 => ⟨by omega, h2⟩)) hZ)
        have HO6 := hid o6
        have HZZ := hid hZ
        have HB6 := hid (HBL.out.trans (hbw6.mono HBL.out.size))
        have HSJ : Hid (wj.heap.size < w3.heap.size ∧ w.heap.size ≤ wj.heap.size) := hid ⟨by omega, HBL.out.size⟩
        have HSS : Hid (wj.heap.size ≤ w6.heap.size ∧ w.heap.size ≤ w6.heap.size) := hid ⟨hbw6.size, (HBL.out.trans (hbw6.mono HBL.out.size)).size⟩
        have HW5 := hid hw5
        have HW6 := hid hw6
        obtain ⟨q0, q1, q2, q3⟩ := deed_row hr4 w4 rfl
        obtain ⟨t0, t1, t2, t3⟩ := deed_row hr5 w5 rfl
        have ft3 := frozen_of_row w5 w4.heap.size 3 _ _ hr5
        obtain ⟨v0, v1, v2, v3⟩ := deed_row hr6 w6 rfl
        clear o4 o4' hr4 hb4 hs4 hs3 hw5 hb5 hr5 hs5 hw6 hb6 hr6 hs6 hbw6 hb0 o6 hZ b4 r0 r1 r2 r3
        go_upto_region 12 with fail
        rw [← HW5.out]
        go_upto_region 13 with fail
        rw [← HW6.out]
        clear q0 q1 q2 q3 t0 t1 t2 t3 ft3
        go_wp2_with fail
        refine HDO.out.mono ?_
        rintro er w7 ⟨rfl, did⟩
        rw [← HST.out] at did
        obtain ⟨⟨P', R', hb7, hP7, hR7⟩, hg7⟩ := did
        have HO7 : Hid (OwnB w7 w3.heap.size (.slice Ao m co) m xl) := hid (by
          refine ⟨HO6.out.1, ?_⟩
          rcases HO6.out.2 with hn | ⟨g, cap, cur, e, hB, hg, r⟩
          · exact .inl hn
          · have hlt := (Array.getElem?_eq_some_iff.1 hg).1
            have hz := HZZ.out g ⟨by have := HSJ.out; omega, hlt⟩
            exact .inr ⟨g, cap, cur, e, hB, (hg7.block g hlt (fun hx => hx.elim hz.1 hz.2)).trans hg, r⟩)
        have HBN : Hid (BthN w w7 (fun b => wj.heap.size ≤ b ∧ b < w6.heap.size) gs gr (stepsT xs (k + 1))) := hid ⟨⟨P', R', hb7, fun b hb => by
            rcases hb with hb | hb
            · rcases hP7 b hb with hp | hp
              · exact ⟨HPP.out b (.inl hp), fun hx => (HZZ.out b hx).1 hp⟩
              · exact ⟨by have := HSS.out; omega, fun hx => by omega⟩
            · rcases hR7 b hb with hp | hp
              · exact ⟨HPP.out b (.inr hp), fun hx => (HZZ.out b hx).2 hp⟩
              · exact ⟨by have := HSS.out; omega, fun hx => by omega⟩⟩,
          Grew.then_below HB6.out hg7 HSS.out.2 (fun b hb => HPP.out b hb)⟩
        clear hb7 hP7 hR7 hg7 v0 v1 v2 v3 HDO HBTH
        go_wp2_with fail
        -- what was handed in is written over
        go_loopw [10] (fun i wr => ∃ (y : Nat), y ≤ m ∧ i = .int .i64 (y : Int) ∧ Hid (∃ t, OwnB wr w3.heap.size (.slice Ao m co) m t) ∧ Hid (BthN w wr (fun b => wj.heap.size ≤ b ∧ b < w6.heap.size) gs gr (stepsT xs (k + 1))) ∧ Hid (w7.heap.size = wr.heap.size)) (fun i _ => m - (intOf i).toNat)
        case atStart => exact ⟨0, by omega, rfl, hid ⟨xl, HO7.out⟩, HBN, hid rfl⟩
        case round =>
          obtain ⟨wi, hwi⟩ : ∃ x, x = wr := ⟨_, rfl⟩
          subst hwi
          obtain ⟨y, hy, rfl, HOY, HBY, HSY⟩ := hrel
          have hy0 : (0 : Int) ≤ (y : Int) := Int.natCast_nonneg _
          by_cases hym : y < m
          · have hy1 : (y : Int) < (m : Int) := by omega
            obtain ⟨t, ho⟩ := HOY.out
            obtain ⟨g, v, rfl, hg1, hg2, hcu, hfz, hset⟩ := ho.at' hym 7 7 rfl
            have HSET := hid hset
            have HBS := hid (HBY.out.set (g := g) ⟨by have := HSJ.out; omega, by have := ho.lt6 HO6.out; omega⟩ (by have := HSJ.out; omega) y (.int .u8 7))
            clear ho hset hg1 hg2
            go_wp2
            go_roundw
            case rel => exact ⟨y + 1, by omega, by go_num, hid ⟨_, HSET.out⟩, HBS, hid (by rw [size_setQ]; exact HSY.out)⟩
            case measure => simp [intOf]; omega
          · obtain rfl : y = m := by omega
            have HBX1 := hid HBY.out.x
            have HUS1 : Hid ((stepsT xs (k + 1)).us.length ≤ 800000) := hid (by have := stepsT_us xs (k + 1); omega)
            clear HOY HBY
            go_wp2_with fail
            -- what is told is written over
            go_loopw [11] (fun i wr => ∃ (z : Nat), z ≤ 2 ∧ i = .int .i64 (z : Int) ∧ Hid (BthX w wr gs gr (stepsT xs (k + 1)))) (fun i _ => 2 - (intOf i).toNat)
            case atStart => exact ⟨0, by omega, rfl, HBX1⟩
            case round =>
              obtain ⟨wk, hwk⟩ : ∃ x, x = wr := ⟨_, rfl⟩
              subst hwk
              obtain ⟨z, hz, rfl, HBZ⟩ := hrel
              have hz0 : (0 : Int) ≤ (z : Int) := Int.natCast_nonneg _
              by_cases hz2 : z < 2
              · have hz1 : (z : Int) < 2 := by omega
                have HRE := hid (HBZ.out.read HUS1.out (z : Int))
                have HWK := hid HBZ.out.2.size
                go_wp2_with fail
                refine HRE.out.mono ?_
                rintro er w8 ⟨A8, n8, c8, e8, l8, rfl, o8, bn8⟩
                have hn8 : (n8 : Int) ≤ 9223372036854775807 := by
                  obtain ⟨A', c', e, h1⟩ := own_slice o8
                  injection e with _ _ e
                  have := own_max o8
                  omega
                have HO8 := hid o8
                have HBN8 := hid bn8
                clear o8 bn8
                go_wp2_with fail
                go_loopw [14] (fun i wr => ∃ (v : Nat), v ≤ n8 ∧ i = .int .i64 (v : Int) ∧ Hid (∃ t, OwnB wr wk.heap.size (.slice A8 n8 c8) n8 t) ∧ Hid (BthN w wr (fun b => wk.heap.size ≤ b) gs gr (stepsT xs (k + 1)))) (fun i _ => n8 - (intOf i).toNat)
                case atStart => exact ⟨0, by omega, rfl, hid ⟨l8, HO8.out⟩, HBN8⟩
                case round =>
                  obtain ⟨wv, hwv⟩ : ∃ x, x = wr := ⟨_, rfl⟩
                  subst hwv
                  obtain ⟨v, hv, rfl, HOV, HBV⟩ := hrel
                  have hv0 : (0 : Int) ≤ (v : Int) := Int.natCast_nonneg _
                  by_cases hvm : v < n8
                  · have hv1 : (v : Int) < (n8 : Int) := by omega
                    obtain ⟨t, ho⟩ := HOV.out
                    obtain ⟨g, u, rfl, hg1, hg2, hcu, hfz, hset⟩ := ho.at' hvm 9 9 rfl
                    have HSET := hid hset
                    have HBS := hid (HBV.out.set (g := g) hg1 (by have := HWK.out; omega) v (.int .u8 9))
                    clear ho hset hg1 hg2
                    go_wp2
                    go_roundw
                    case rel => exact ⟨v + 1, by omega, by go_num, hid ⟨_, HSET.out⟩, HBS⟩
                    case measure => simp [intOf]; omega
                  · obtain rfl : v = n8 := by omega
                    have HBXV := hid HBV.out.x
                    go_wp2_with fail
                    go_roundw
                    case rel => exact ⟨z + 1, by omega, by go_num, HBXV⟩
                    case measure => simp [intOf]; omega
              · obtain rfl : z = 2 := by omega
                go_wp2_with fail
                go_roundw
                case rel => exact ⟨k + 1, by omega, by omega, by go_num, HBZ⟩
                case measure => simp [intOf]; omega
      · have hk2 : ¬ (k : Int) < 25 := by omega
        have HLK : Hid (Calls Try.prog 12 #[.pointer (some ⟨gs, 0, none⟩), .pointer (some ⟨gr, 0, none⟩)] wj fun er w' => er = .returned (.bool true) ∧ Below w.heap.size w w') := hid (by
          obtain ⟨⟨P, R, hb, hP⟩, hbel⟩ := HBX.out
          have hu := stepsT_us xs k
          exact (like_any hb (by omega)).mono fun er w' ⟨a, b⟩ => ⟨a, hbel.trans (b.mono hbel.size)⟩)
        clear HBX
        go_wp2_with fail
        refine HLK.out.mono ?_
        rintro er w4 ⟨rfl, b4⟩
        have HB4 := hid b4
        clear b4
        go_wp2_with fail
        refine (lives_any _).mono ?_
        rintro er w9 ⟨rfl, b9⟩
        have HBG := hid (HB4.out.trans (b9.mono HB4.out.size))
        go_wp2
        go_ret
        exact ⟨rfl, HBG.out⟩
    · obtain rfl : k = n := by omega
      have HLK : Hid (Calls Try.prog 12 #[.pointer (some ⟨gs, 0, none⟩), .pointer (some ⟨gr, 0, none⟩)] wj fun er w' => er = .returned (.bool true) ∧ Below w.heap.size w w') := hid (by
        obtain ⟨⟨P, R, hb, hP⟩, hbel⟩ := HBX.out
        have hu := stepsT_us xs k
        exact (like_any hb (by omega)).mono fun er w' ⟨a, b⟩ => ⟨a, hbel.trans (b.mono hbel.size)⟩)
      clear HBX
      go_wp2_with fail
      refine HLK.out.mono ?_
      rintro er w4 ⟨rfl, b4⟩
      have HB4 := hid b4
      clear b4
      go_wp2_with fail
      refine (lives_any _).mono ?_
      rintro er w9 ⟨rfl, b9⟩
      have HBG := hid (HB4.out.trans (b9.mono HB4.out.size))
      go_wp2
      go_ret
      exact ⟨rfl, HBG.out⟩
end Go.Proofs.Ytdigfbgjefffiaa.Sh
