/-
  A deed, of both tapes. Written by mk_tpdoes.py.
-/
import Derived.Test.YtdigfbgjefffiaaTpBth
import Derived.Deep.DeepCutAuto
namespace Go.Proofs.Ytdigfbgjefffiaa.Sh
open Go Go.RowKit

set_option linter.unusedSimpArgs false
set_option linter.unusedVariables false
theorem deed_row {w : World} {b : Nat} {kd sd z : Int} {v : Value} {T : TypeId} (h : w.heap[b]? = some (.cells #[.int .i64 kd, .int .i64 sd, .int .i64 z, v] T (0, 0))) : ∀ W : World, W.heap[b]? = w.heap[b]? → W.cell? ⟨b, 0, none⟩ = some (.int .i64 kd) ∧ W.cell? ⟨b, 1, none⟩ = some (.int .i64 sd) ∧ W.cell? ⟨b, 2, none⟩ = some (.int .i64 z) ∧ W.cell? ⟨b, 3, none⟩ = some v := fun W hW => by
  have h' := hW.trans h
  refine ⟨?_, ?_, ?_, ?_⟩
  · rw [cell_of_row W b 0 _ _ (0, 0) h']; rfl
  · rw [cell_of_row W b 1 _ _ (0, 0) h']; rfl
  · rw [cell_of_row W b 2 _ _ (0, 0) h']; rfl
  · rw [cell_of_row W b 3 _ _ (0, 0) h']; rfl
theorem refFuseQ_any {w : World} {P : Nat → Prop} {q : Nat} {S : TS} (e : TapR w P q S) (z : Int) :
    Calls Try.prog 29 #[.pointer (some ⟨q, 0, none⟩), .int .i64 z] w fun er w' => er = .returned (.int .i64 (S.fuse z).2) ∧ TapR w' (plusQ P w.heap.size w'.heap.size) q (S.fuse z).1 ∧ Grew w w' P := by
  exact (refFuse_any e z).mono fun _ _ ⟨h1, h2, h3⟩ => ⟨h1, h2.plus, h3⟩
/-- What a deed leaves. -/
def Did (w w' : World) (P R : Nat → Prop) (gs gr : Nat) (S : TS) : Prop :=
  (∃ P' R', Bth w' P' R' gs gr S ∧ (∀ b, P' b → P b ∨ w.heap.size ≤ b) ∧ (∀ b, R' b → R b ∨ w.heap.size ≤ b)) ∧ Grew w w' (fun b => P b ∨ R b)
theorem Did.of {w w0 w1 w2 : World} {P R : Nat → Prop} {gs gr : Nat} {S S' : TS} (hb : Below w.heap.size w w0) (h : Bth w0 P R gs gr S) (hp : TapP w1 (plusQ P w0.heap.size w1.heap.size) gs S') (hg : Grew w0 w1 P)
    (hr : TapR w2 (plusQ R w1.heap.size w2.heap.size) gr S') (hg2 : Grew w1 w2 R) : Did w w2 P R gs gr S' := by
  obtain ⟨h1, h2⟩ := h.next hp hg hr hg2
  have hs := hb.size
  have hs2 := hg.size
  exact ⟨⟨_, _, h1, fun b hb2 => hb2.imp id (fun h => by omega), fun b hb2 => hb2.imp id (fun h => by omega)⟩, (Grew.of_below hb).trans h2⟩
set_option maxHeartbeats 4000000 in
theorem does0_any {w : World} {P R : Nat → Prop} {gs gr : Nat} {S : TS} (h : Bth w P R gs gr S) (hu : S.us.length ≤ 800000) (kd sd z : Int) (hk0 : -9223372036854775808 ≤ kd) (hk1 : kd < 9223372036854775808) (hz0 : -9223372036854775808 ≤ z) (hz1 : z < 9223372036854775808)
    (A : Option Addr) (l : List UInt8) (n c : Nat) (hn : l.length = n) (hc : n ≤ c) (hc2 : c ≤ 9223372036854775807) (Z : Nat → Prop) (hA : BytQ w Z A l) (hZ : ∀ b, Z b → ¬ P b ∧ ¬ R b) (hk : pk kd 6 = 0) :
    Calls Try.prog 11 #[.pointer (some ⟨gs, 0, none⟩), .pointer (some ⟨gr, 0, none⟩), .agg #[.int .i64 kd, .int .i64 sd, .int .i64 z, .slice A n c]] w fun er w' => er = .returned (.bool true) ∧ Did w w' P R gs gr (S.step (kd, sd, z, l)) := by
  obtain ⟨m, hm⟩ : ∃ m, min 60 n = m := ⟨_, rfl⟩
  have HF := hid (fun W => few16_any A n c hc W)
  rw [hm] at HF
  have HPK := hid (fun W => pick_any kd hk0 hk1 6 (by omega) (by omega) W)
  rw [hk] at HPK
  obtain ⟨l', hl'⟩ : ∃ l', l.take 60 = l' := ⟨_, rfl⟩
  have HST : Hid (S.step (kd, sd, z, l) = (S.write sd l').1) := hid (by unfold TS.step; simp [hk, hl'])
  have hlm : l'.length = m := by rw [← hl', List.length_take, hn, hm]
  have hmc : m ≤ c := by omega
  have hm60 : m ≤ 60 := by omega
  have hA' : BytQ w Z A l' := fun h0 => by
    rw [← hl'] at h0 ⊢
    rw [List.length_take] at h0
    obtain ⟨ad, e, h1, h2, h3⟩ := hA (by omega)
    refine ⟨ad, e, h1, h2, fun j x hx => h3 j x ?_⟩
    rw [List.getElem?_take] at hx
    split at hx
    · exact hx
    · cases hx
  -- the deed in a block of its own
  obtain ⟨w0, hw0⟩ : ∃ x, x = w.alloc (.cells #[.int .i64 kd, .int .i64 sd, .int .i64 z, .slice A n c] 30) := ⟨_, rfl⟩
  have hb0 : Below w.heap.size w w0 := by rw [hw0]; exact (Below.refl _ _).alloc (Nat.le_refl _) _
  have hr0 : w0.heap[w.heap.size]? = some (.cells #[.int .i64 kd, .int .i64 sd, .int .i64 z, .slice A n c] 30 (0, 0)) := by rw [hw0]; exact heap_alloc_new w _
  have hs0 : w0.heap.size = w.heap.size + 1 := by rw [hw0]; simp
  obtain ⟨w1, hw1⟩ : ∃ x, x = w0.setCell ⟨w.heap.size, 3, none⟩ (.slice A m c) := ⟨_, rfl⟩
  have hb1 : Below w.heap.size w w1 := by rw [hw1]; exact hb0.setCell (p := ⟨w.heap.size, 3, none⟩) (Nat.le_refl _) _
  have hr1 : w1.heap[w.heap.size]? = some (.cells #[.int .i64 kd, .int .i64 sd, .int .i64 z, .slice A m c] 30 (0, 0)) := by rw [hw1]; exact heap_setCell_same w0 _ 3 _ _ _ hr0
  have hs1 : w1.heap.size = w.heap.size + 1 := by rw [hw1, size_setQ]; exact hs0
  obtain ⟨k0, k1, k2, k3⟩ := deed_row hr0 w0 rfl
  have f3 := frozen_of_row w0 w.heap.size 3 _ _ hr0
  have HD := hid (deed_row hr1)
  obtain ⟨d0, d1, d2, d3⟩ := HD.out w1 rfl
  have hbw := hb1.drew
  have hB := h.below hbw
  have HB := hid hB
  have HBW := hid hbw
  have hbP : ¬ P w.heap.size := fun hp => by have := h.p.dom _ hp; omega
  have hbR : ¬ R w.heap.size := fun hp => by have := h.r.dom _ hp; omega
  have HKP : Hid (∀ W : World, Grew w1.drew W P → W.heap[w.heap.size]? = w1.heap[w.heap.size]?) := hid (fun W hW => hW.block _ (by show _ < w1.heap.size; omega) hbP)
  have HKR : Hid (∀ W1 W2 : World, Grew w1.drew W1 P → Grew W1 W2 R → W2.heap[w.heap.size]? = w1.heap[w.heap.size]?) := hid (fun W1 W2 h1 h2 => (h2.block _ (Nat.lt_of_lt_of_le (by show _ < w1.heap.size; omega) h1.size) hbR).trans (h1.block _ (by show _ < w1.heap.size; omega) hbP))
  have hAd : BytQ w1.drew Z A l' := hA'.kept (fun b _ hl => hbw.block b hl) hbw.size
  have HA1 : Hid (∀ W : World, Grew w1.drew W P → Byt W W.heap.size A l') := hid (fun W hW => (hAd.kept (fun b hb hl => hW.block b hl (hZ b hb).1) hW.size).byt)
  have HA2 : Hid (∀ W1 W2 : World, Grew w1.drew W1 P → Grew W1 W2 R → Byt W2 W2.heap.size A l') := hid (fun W1 W2 h1 h2 => ((hAd.kept (fun b hb hl => h1.block b hl (hZ b hb).1) h1.size).kept (fun b hb hl => h2.block b hl (hZ b hb).2) h2.size).byt)
  have HW0 := hid hw0
  have HW1 := hid hw1
  have HP := hid (writeP_any hB.p (Nat.le_trans hu (by omega)) sd A l' m c hlm hmc (by omega) HA1.out)
  have HR := hid (fun (W : World) (hg : Grew w1.drew W P) (hr : TapR W R gr S) => refWrite_any hr (Nat.le_trans hu (by omega)) sd A l' m c hlm (by omega) (fun W2 h2 => HA2.out W W2 hg h2))
  have HMID := hid (fun (W : World) (hg : Grew w1.drew W P) => hB.mid hg)
  obtain ⟨E, hE⟩ : ∃ E, (S.write sd l').2 = E := ⟨_, rfl⟩
  rw [hE] at HP HR
  clear hE
  have HOF := hid (fun (W1 W2 : World) hp hg hr hg2 => Did.of (S' := (S.write sd l').1) (w1 := W1) (w2 := W2) hbw hB hp hg hr hg2)
  clear h hA hA' hZ hk hl' hm hb0 hr0 hs0 hb1 hr1 hs1 hbw hB hbP hbR hAd hw0 hw1 hlm hn
  go_enter Try.func11, Try.ntmps11
  go_upto_region 1 with fail
  rw [← HW0.out]
  go_wp2_with fail
  refine (HF.out w0).mono ?_
  rintro er w2 ⟨rfl, rfl⟩
  go_upto_region 2 with fail
  rw [← HW1.out]
  go_wp2_with fail
  refine (HPK.out w1).mono ?_
  rintro er w2 ⟨rfl, rfl⟩
  clear k0 k1 k2 k3 f3
  have HC : Hid (∀ W : World, W.heap[w.heap.size]? = w1.heap[w.heap.size]? → W.cell? ⟨w.heap.size, 1, none⟩ = some (.int .i64 sd) ∧ W.cell? ⟨w.heap.size, 3, none⟩ = some (.slice A m c)) := hid (fun W hW => ⟨(HD.out W hW).2.1, (HD.out W hW).2.2.2⟩)
  clear HD d0 d1 d2 d3
  go_wp2_with fail
  go_region_held3 (fun W => W.cell? ⟨w.heap.size, 1, none⟩ = some (.int .i64 sd) ∧ W.cell? ⟨w.heap.size, 3, none⟩ = some (.slice A m c)) (first | exact HC.out _ K6.out | exact HC.out _ K5.out | exact HC.out w1.drew rfl | go_keep) (first
    | (go_at_call 15; (refine HP.out.mono ?_); rintro er w5 ⟨rfl, hp5, hg5⟩; have K5 := hid (HKP.out _ hg5); have HP5 := hid hp5; have HG5 := hid hg5; have HR5 := hid (HR.out w5 hg5 (HMID.out w5 hg5)); clear hp5 hg5)
    | (go_at_call 26; (refine HR5.out.mono ?_); rintro er w6 ⟨rfl, hr6, hg6⟩; have K6 := hid (HKR.out _ _ HG5.out hg6); have HR6 := hid hr6; have HG6 := hid hg6; clear hr6 hg6)
    | fail)
  all_goals
    have HFIN := hid (HOF.out _ _ HP5.out HG5.out HR6.out HG6.out)
    go_wp2
    go_ret
    exact ⟨rfl, by rw [HST.out]; exact HFIN.out⟩
set_option maxHeartbeats 4000000 in
theorem does1_any {w : World} {P R : Nat → Prop} {gs gr : Nat} {S : TS} (h : Bth w P R gs gr S) (hu : S.us.length ≤ 800000) (kd sd z : Int) (hk0 : -9223372036854775808 ≤ kd) (hk1 : kd < 9223372036854775808) (hz0 : -9223372036854775808 ≤ z) (hz1 : z < 9223372036854775808)
    (A : Option Addr) (l : List UInt8) (n c : Nat) (hn : l.length = n) (hc : n ≤ c) (hc2 : c ≤ 9223372036854775807) (Z : Nat → Prop) (hA : BytQ w Z A l) (hZ : ∀ b, Z b → ¬ P b ∧ ¬ R b) (hk : pk kd 6 = 1) :
    Calls Try.prog 11 #[.pointer (some ⟨gs, 0, none⟩), .pointer (some ⟨gr, 0, none⟩), .agg #[.int .i64 kd, .int .i64 sd, .int .i64 z, .slice A n c]] w fun er w' => er = .returned (.bool true) ∧ Did w w' P R gs gr (S.step (kd, sd, z, l)) := by
  obtain ⟨m, hm⟩ : ∃ m, min 60 n = m := ⟨_, rfl⟩
  have HF := hid (fun W => few16_any A n c hc W)
  rw [hm] at HF
  have HPK := hid (fun W => pick_any kd hk0 hk1 6 (by omega) (by omega) W)
  rw [hk] at HPK
  obtain ⟨l', hl'⟩ : ∃ l', l.take 60 = l' := ⟨_, rfl⟩
  have HST : Hid (S.step (kd, sd, z, l) = (S.trim sd 0).1) := hid (by unfold TS.step; simp [hk, hl'])
  have hlm : l'.length = m := by rw [← hl', List.length_take, hn, hm]
  have hmc : m ≤ c := by omega
  have hm60 : m ≤ 60 := by omega
  have hA' : BytQ w Z A l' := fun h0 => by
    rw [← hl'] at h0 ⊢
    rw [List.length_take] at h0
    obtain ⟨ad, e, h1, h2, h3⟩ := hA (by omega)
    refine ⟨ad, e, h1, h2, fun j x hx => h3 j x ?_⟩
    rw [List.getElem?_take] at hx
    split at hx
    · exact hx
    · cases hx
  -- the deed in a block of its own
  obtain ⟨w0, hw0⟩ : ∃ x, x = w.alloc (.cells #[.int .i64 kd, .int .i64 sd, .int .i64 z, .slice A n c] 30) := ⟨_, rfl⟩
  have hb0 : Below w.heap.size w w0 := by rw [hw0]; exact (Below.refl _ _).alloc (Nat.le_refl _) _
  have hr0 : w0.heap[w.heap.size]? = some (.cells #[.int .i64 kd, .int .i64 sd, .int .i64 z, .slice A n c] 30 (0, 0)) := by rw [hw0]; exact heap_alloc_new w _
  have hs0 : w0.heap.size = w.heap.size + 1 := by rw [hw0]; simp
  obtain ⟨w1, hw1⟩ : ∃ x, x = w0.setCell ⟨w.heap.size, 3, none⟩ (.slice A m c) := ⟨_, rfl⟩
  have hb1 : Below w.heap.size w w1 := by rw [hw1]; exact hb0.setCell (p := ⟨w.heap.size, 3, none⟩) (Nat.le_refl _) _
  have hr1 : w1.heap[w.heap.size]? = some (.cells #[.int .i64 kd, .int .i64 sd, .int .i64 z, .slice A m c] 30 (0, 0)) := by rw [hw1]; exact heap_setCell_same w0 _ 3 _ _ _ hr0
  have hs1 : w1.heap.size = w.heap.size + 1 := by rw [hw1, size_setQ]; exact hs0
  obtain ⟨k0, k1, k2, k3⟩ := deed_row hr0 w0 rfl
  have f3 := frozen_of_row w0 w.heap.size 3 _ _ hr0
  have HD := hid (deed_row hr1)
  obtain ⟨d0, d1, d2, d3⟩ := HD.out w1 rfl
  have hbw := hb1.drew
  have hB := h.below hbw
  have HB := hid hB
  have HBW := hid hbw
  have hbP : ¬ P w.heap.size := fun hp => by have := h.p.dom _ hp; omega
  have hbR : ¬ R w.heap.size := fun hp => by have := h.r.dom _ hp; omega
  have HKP : Hid (∀ W : World, Grew w1.drew W P → W.heap[w.heap.size]? = w1.heap[w.heap.size]?) := hid (fun W hW => hW.block _ (by show _ < w1.heap.size; omega) hbP)
  have HKR : Hid (∀ W1 W2 : World, Grew w1.drew W1 P → Grew W1 W2 R → W2.heap[w.heap.size]? = w1.heap[w.heap.size]?) := hid (fun W1 W2 h1 h2 => (h2.block _ (Nat.lt_of_lt_of_le (by show _ < w1.heap.size; omega) h1.size) hbR).trans (h1.block _ (by show _ < w1.heap.size; omega) hbP))
  have hAd : BytQ w1.drew Z A l' := hA'.kept (fun b _ hl => hbw.block b hl) hbw.size
  have HA1 : Hid (∀ W : World, Grew w1.drew W P → Byt W W.heap.size A l') := hid (fun W hW => (hAd.kept (fun b hb hl => hW.block b hl (hZ b hb).1) hW.size).byt)
  have HA2 : Hid (∀ W1 W2 : World, Grew w1.drew W1 P → Grew W1 W2 R → Byt W2 W2.heap.size A l') := hid (fun W1 W2 h1 h2 => ((hAd.kept (fun b hb hl => h1.block b hl (hZ b hb).1) h1.size).kept (fun b hb hl => h2.block b hl (hZ b hb).2) h2.size).byt)
  have HW0 := hid hw0
  have HW1 := hid hw1
  have HP := hid (clearP_any hB.p (Nat.le_trans hu (by omega)) sd)
  have HR := hid (fun (W : World) (hg : Grew w1.drew W P) (hr : TapR W R gr S) => refTrim_any hr (Nat.le_trans hu (by omega)) sd 0)
  have HMID := hid (fun (W : World) (hg : Grew w1.drew W P) => hB.mid hg)
  obtain ⟨E, hE⟩ : ∃ E, (S.trim sd 0).2 = E := ⟨_, rfl⟩
  rw [hE] at HP HR
  clear hE
  have HOF := hid (fun (W1 W2 : World) hp hg hr hg2 => Did.of (S' := (S.trim sd 0).1) (w1 := W1) (w2 := W2) hbw hB hp hg hr hg2)
  clear h hA hA' hZ hk hl' hm hb0 hr0 hs0 hb1 hr1 hs1 hbw hB hbP hbR hAd hw0 hw1 hlm hn
  go_enter Try.func11, Try.ntmps11
  go_upto_region 1 with fail
  rw [← HW0.out]
  go_wp2_with fail
  refine (HF.out w0).mono ?_
  rintro er w2 ⟨rfl, rfl⟩
  go_upto_region 2 with fail
  rw [← HW1.out]
  go_wp2_with fail
  refine (HPK.out w1).mono ?_
  rintro er w2 ⟨rfl, rfl⟩
  clear k0 k1 k2 k3 f3
  have HC : Hid (∀ W : World, W.heap[w.heap.size]? = w1.heap[w.heap.size]? → W.cell? ⟨w.heap.size, 1, none⟩ = some (.int .i64 sd)) := hid (fun W hW => (HD.out W hW).2.1)
  clear HD d0 d1 d2 d3
  go_wp2_with fail
  go_region_held3 (fun W => W.cell? ⟨w.heap.size, 1, none⟩ = some (.int .i64 sd)) (first | exact HC.out _ K6.out | exact HC.out _ K5.out | exact HC.out w1.drew rfl | go_keep) (first
    | (go_at_call 25; (refine HP.out.mono ?_); rintro er w5 ⟨rfl, hp5, hg5⟩; have K5 := hid (HKP.out _ hg5); have HP5 := hid hp5; have HG5 := hid hg5; have HR5 := hid (HR.out w5 hg5 (HMID.out w5 hg5)); clear hp5 hg5)
    | (go_at_call 27; (refine HR5.out.mono ?_); rintro er w6 ⟨rfl, hr6, hg6⟩; have K6 := hid (HKR.out _ _ HG5.out hg6); have HR6 := hid hr6; have HG6 := hid hg6; clear hr6 hg6)
    | fail)
  all_goals
    have HFIN := hid (HOF.out _ _ HP5.out HG5.out HR6.out HG6.out)
    go_wp2
    go_ret
    exact ⟨rfl, by rw [HST.out]; exact HFIN.out⟩
set_option maxHeartbeats 4000000 in
theorem does2_any {w : World} {P R : Nat → Prop} {gs gr : Nat} {S : TS} (h : Bth w P R gs gr S) (hu : S.us.length ≤ 800000) (kd sd z : Int) (hk0 : -9223372036854775808 ≤ kd) (hk1 : kd < 9223372036854775808) (hz0 : -9223372036854775808 ≤ z) (hz1 : z < 9223372036854775808)
    (A : Option Addr) (l : List UInt8) (n c : Nat) (hn : l.length = n) (hc : n ≤ c) (hc2 : c ≤ 9223372036854775807) (Z : Nat → Prop) (hA : BytQ w Z A l) (hZ : ∀ b, Z b → ¬ P b ∧ ¬ R b) (hk : pk kd 6 = 2) :
    Calls Try.prog 11 #[.pointer (some ⟨gs, 0, none⟩), .pointer (some ⟨gr, 0, none⟩), .agg #[.int .i64 kd, .int .i64 sd, .int .i64 z, .slice A n c]] w fun er w' => er = .returned (.bool true) ∧ Did w w' P R gs gr (S.step (kd, sd, z, l)) := by
  obtain ⟨m, hm⟩ : ∃ m, min 60 n = m := ⟨_, rfl⟩
  have HF := hid (fun W => few16_any A n c hc W)
  rw [hm] at HF
  have HPK := hid (fun W => pick_any kd hk0 hk1 6 (by omega) (by omega) W)
  rw [hk] at HPK
  obtain ⟨l', hl'⟩ : ∃ l', l.take 60 = l' := ⟨_, rfl⟩
  have HST : Hid (S.step (kd, sd, z, l) = (S.trim sd z).1) := hid (by unfold TS.step; simp [hk, hl'])
  have hlm : l'.length = m := by rw [← hl', List.length_take, hn, hm]
  have hmc : m ≤ c := by omega
  have hm60 : m ≤ 60 := by omega
  have hA' : BytQ w Z A l' := fun h0 => by
    rw [← hl'] at h0 ⊢
    rw [List.length_take] at h0
    obtain ⟨ad, e, h1, h2, h3⟩ := hA (by omega)
    refine ⟨ad, e, h1, h2, fun j x hx => h3 j x ?_⟩
    rw [List.getElem?_take] at hx
    split at hx
    · exact hx
    · cases hx
  -- the deed in a block of its own
  obtain ⟨w0, hw0⟩ : ∃ x, x = w.alloc (.cells #[.int .i64 kd, .int .i64 sd, .int .i64 z, .slice A n c] 30) := ⟨_, rfl⟩
  have hb0 : Below w.heap.size w w0 := by rw [hw0]; exact (Below.refl _ _).alloc (Nat.le_refl _) _
  have hr0 : w0.heap[w.heap.size]? = some (.cells #[.int .i64 kd, .int .i64 sd, .int .i64 z, .slice A n c] 30 (0, 0)) := by rw [hw0]; exact heap_alloc_new w _
  have hs0 : w0.heap.size = w.heap.size + 1 := by rw [hw0]; simp
  obtain ⟨w1, hw1⟩ : ∃ x, x = w0.setCell ⟨w.heap.size, 3, none⟩ (.slice A m c) := ⟨_, rfl⟩
  have hb1 : Below w.heap.size w w1 := by rw [hw1]; exact hb0.setCell (p := ⟨w.heap.size, 3, none⟩) (Nat.le_refl _) _
  have hr1 : w1.heap[w.heap.size]? = some (.cells #[.int .i64 kd, .int .i64 sd, .int .i64 z, .slice A m c] 30 (0, 0)) := by rw [hw1]; exact heap_setCell_same w0 _ 3 _ _ _ hr0
  have hs1 : w1.heap.size = w.heap.size + 1 := by rw [hw1, size_setQ]; exact hs0
  obtain ⟨k0, k1, k2, k3⟩ := deed_row hr0 w0 rfl
  have f3 := frozen_of_row w0 w.heap.size 3 _ _ hr0
  have HD := hid (deed_row hr1)
  obtain ⟨d0, d1, d2, d3⟩ := HD.out w1 rfl
  have hbw := hb1.drew
  have hB := h.below hbw
  have HB := hid hB
  have HBW := hid hbw
  have hbP : ¬ P w.heap.size := fun hp => by have := h.p.dom _ hp; omega
  have hbR : ¬ R w.heap.size := fun hp => by have := h.r.dom _ hp; omega
  have HKP : Hid (∀ W : World, Grew w1.drew W P → W.heap[w.heap.size]? = w1.heap[w.heap.size]?) := hid (fun W hW => hW.block _ (by show _ < w1.heap.size; omega) hbP)
  have HKR : Hid (∀ W1 W2 : World, Grew w1.drew W1 P → Grew W1 W2 R → W2.heap[w.heap.size]? = w1.heap[w.heap.size]?) := hid (fun W1 W2 h1 h2 => (h2.block _ (Nat.lt_of_lt_of_le (by show _ < w1.heap.size; omega) h1.size) hbR).trans (h1.block _ (by show _ < w1.heap.size; omega) hbP))
  have hAd : BytQ w1.drew Z A l' := hA'.kept (fun b _ hl => hbw.block b hl) hbw.size
  have HA1 : Hid (∀ W : World, Grew w1.drew W P → Byt W W.heap.size A l') := hid (fun W hW => (hAd.kept (fun b hb hl => hW.block b hl (hZ b hb).1) hW.size).byt)
  have HA2 : Hid (∀ W1 W2 : World, Grew w1.drew W1 P → Grew W1 W2 R → Byt W2 W2.heap.size A l') := hid (fun W1 W2 h1 h2 => ((hAd.kept (fun b hb hl => h1.block b hl (hZ b hb).1) h1.size).kept (fun b hb hl => h2.block b hl (hZ b hb).2) h2.size).byt)
  have HW0 := hid hw0
  have HW1 := hid hw1
  have HP := hid (trimP_any hB.p (Nat.le_trans hu (by omega)) sd z hz0 hz1)
  have HR := hid (fun (W : World) (hg : Grew w1.drew W P) (hr : TapR W R gr S) => refTrim_any hr (Nat.le_trans hu (by omega)) sd z)
  have HMID := hid (fun (W : World) (hg : Grew w1.drew W P) => hB.mid hg)
  obtain ⟨E, hE⟩ : ∃ E, (S.trim sd z).2 = E := ⟨_, rfl⟩
  rw [hE] at HP HR
  clear hE
  have HOF := hid (fun (W1 W2 : World) hp hg hr hg2 => Did.of (S' := (S.trim sd z).1) (w1 := W1) (w2 := W2) hbw hB hp hg hr hg2)
  clear h hA hA' hZ hk hl' hm hb0 hr0 hs0 hb1 hr1 hs1 hbw hB hbP hbR hAd hw0 hw1 hlm hn
  go_enter Try.func11, Try.ntmps11
  go_upto_region 1 with fail
  rw [← HW0.out]
  go_wp2_with fail
  refine (HF.out w0).mono ?_
  rintro er w2 ⟨rfl, rfl⟩
  go_upto_region 2 with fail
  rw [← HW1.out]
  go_wp2_with fail
  refine (HPK.out w1).mono ?_
  rintro er w2 ⟨rfl, rfl⟩
  clear k0 k1 k2 k3 f3
  have HC : Hid (∀ W : World, W.heap[w.heap.size]? = w1.heap[w.heap.size]? → W.cell? ⟨w.heap.size, 1, none⟩ = some (.int .i64 sd) ∧ W.cell? ⟨w.heap.size, 2, none⟩ = some (.int .i64 z)) := hid (fun W hW => ⟨(HD.out W hW).2.1, (HD.out W hW).2.2.1⟩)
  clear HD d0 d1 d2 d3
  go_wp2_with fail
  go_region_held3 (fun W => W.cell? ⟨w.heap.size, 1, none⟩ = some (.int .i64 sd) ∧ W.cell? ⟨w.heap.size, 2, none⟩ = some (.int .i64 z)) (first | exact HC.out _ K6.out | exact HC.out _ K5.out | exact HC.out w1.drew rfl | go_keep) (first
    | (go_at_call 24; (refine HP.out.mono ?_); rintro er w5 ⟨rfl, hp5, hg5⟩; have K5 := hid (HKP.out _ hg5); have HP5 := hid hp5; have HG5 := hid hg5; have HR5 := hid (HR.out w5 hg5 (HMID.out w5 hg5)); clear hp5 hg5)
    | (go_at_call 27; (refine HR5.out.mono ?_); rintro er w6 ⟨rfl, hr6, hg6⟩; have K6 := hid (HKR.out _ _ HG5.out hg6); have HR6 := hid hr6; have HG6 := hid hg6; clear hr6 hg6)
    | fail)
  all_goals
    have HFIN := hid (HOF.out _ _ HP5.out HG5.out HR6.out HG6.out)
    go_wp2
    go_ret
    exact ⟨rfl, by rw [HST.out]; exact HFIN.out⟩
set_option maxHeartbeats 4000000 in
theorem does3_any {w : World} {P R : Nat → Prop} {gs gr : Nat} {S : TS} (h : Bth w P R gs gr S) (hu : S.us.length ≤ 800000) (kd sd z : Int) (hk0 : -9223372036854775808 ≤ kd) (hk1 : kd < 9223372036854775808) (hz0 : -9223372036854775808 ≤ z) (hz1 : z < 9223372036854775808)
    (A : Option Addr) (l : List UInt8) (n c : Nat) (hn : l.length = n) (hc : n ≤ c) (hc2 : c ≤ 9223372036854775807) (Z : Nat → Prop) (hA : BytQ w Z A l) (hZ : ∀ b, Z b → ¬ P b ∧ ¬ R b) (hk : pk kd 6 = 3) :
    Calls Try.prog 11 #[.pointer (some ⟨gs, 0, none⟩), .pointer (some ⟨gr, 0, none⟩), .agg #[.int .i64 kd, .int .i64 sd, .int .i64 z, .slice A n c]] w fun er w' => er = .returned (.bool true) ∧ Did w w' P R gs gr (S.step (kd, sd, z, l)) := by
  obtain ⟨m, hm⟩ : ∃ m, min 60 n = m := ⟨_, rfl⟩
  have HF := hid (fun W => few16_any A n c hc W)
  rw [hm] at HF
  have HPK := hid (fun W => pick_any kd hk0 hk1 6 (by omega) (by omega) W)
  rw [hk] at HPK
  obtain ⟨l', hl'⟩ : ∃ l', l.take 60 = l' := ⟨_, rfl⟩
  have HST : Hid (S.step (kd, sd, z, l) = S.sync.1) := hid (by unfold TS.step; simp [hk, hl'])
  have hlm : l'.length = m := by rw [← hl', List.length_take, hn, hm]
  have hmc : m ≤ c := by omega
  have hm60 : m ≤ 60 := by omega
  have hA' : BytQ w Z A l' := fun h0 => by
    rw [← hl'] at h0 ⊢
    rw [List.length_take] at h0
    obtain ⟨ad, e, h1, h2, h3⟩ := hA (by omega)
    refine ⟨ad, e, h1, h2, fun j x hx => h3 j x ?_⟩
    rw [List.getElem?_take] at hx
    split at hx
    · exact hx
    · cases hx
  -- the deed in a block of its own
  obtain ⟨w0, hw0⟩ : ∃ x, x = w.alloc (.cells #[.int .i64 kd, .int .i64 sd, .int .i64 z, .slice A n c] 30) := ⟨_, rfl⟩
  have hb0 : Below w.heap.size w w0 := by rw [hw0]; exact (Below.refl _ _).alloc (Nat.le_refl _) _
  have hr0 : w0.heap[w.heap.size]? = some (.cells #[.int .i64 kd, .int .i64 sd, .int .i64 z, .slice A n c] 30 (0, 0)) := by rw [hw0]; exact heap_alloc_new w _
  have hs0 : w0.heap.size = w.heap.size + 1 := by rw [hw0]; simp
  obtain ⟨w1, hw1⟩ : ∃ x, x = w0.setCell ⟨w.heap.size, 3, none⟩ (.slice A m c) := ⟨_, rfl⟩
  have hb1 : Below w.heap.size w w1 := by rw [hw1]; exact hb0.setCell (p := ⟨w.heap.size, 3, none⟩) (Nat.le_refl _) _
  have hr1 : w1.heap[w.heap.size]? = some (.cells #[.int .i64 kd, .int .i64 sd, .int .i64 z, .slice A m c] 30 (0, 0)) := by rw [hw1]; exact heap_setCell_same w0 _ 3 _ _ _ hr0
  have hs1 : w1.heap.size = w.heap.size + 1 := by rw [hw1, size_setQ]; exact hs0
  obtain ⟨k0, k1, k2, k3⟩ := deed_row hr0 w0 rfl
  have f3 := frozen_of_row w0 w.heap.size 3 _ _ hr0
  have HD := hid (deed_row hr1)
  obtain ⟨d0, d1, d2, d3⟩ := HD.out w1 rfl
  have hbw := hb1
  have hB := h.below hbw
  have HB := hid hB
  have HBW := hid hbw
  have hbP : ¬ P w.heap.size := fun hp => by have := h.p.dom _ hp; omega
  have hbR : ¬ R w.heap.size := fun hp => by have := h.r.dom _ hp; omega
  have HKP : Hid (∀ W : World, Grew w1 W P → W.heap[w.heap.size]? = w1.heap[w.heap.size]?) := hid (fun W hW => hW.block _ (by omega) hbP)
  have HKR : Hid (∀ W1 W2 : World, Grew w1 W1 P → Grew W1 W2 R → W2.heap[w.heap.size]? = w1.heap[w.heap.size]?) := hid (fun W1 W2 h1 h2 => (h2.block _ (Nat.lt_of_lt_of_le (by omega) h1.size) hbR).trans (h1.block _ (by omega) hbP))
  have hAd : BytQ w1 Z A l' := hA'.kept (fun b _ hl => hbw.block b hl) hbw.size
  have HA1 : Hid (∀ W : World, Grew w1 W P → Byt W W.heap.size A l') := hid (fun W hW => (hAd.kept (fun b hb hl => hW.block b hl (hZ b hb).1) hW.size).byt)
  have HA2 : Hid (∀ W1 W2 : World, Grew w1 W1 P → Grew W1 W2 R → Byt W2 W2.heap.size A l') := hid (fun W1 W2 h1 h2 => ((hAd.kept (fun b hb hl => h1.block b hl (hZ b hb).1) h1.size).kept (fun b hb hl => h2.block b hl (hZ b hb).2) h2.size).byt)
  have HW0 := hid hw0
  have HW1 := hid hw1
  have HP := hid (syncP_any hB.p (Nat.le_trans hu (by omega)))
  have HR := hid (fun (W : World) (hg : Grew w1 W P) (hr : TapR W R gr S) => refSync_any hr (Nat.le_trans hu (by omega)))
  have HMID := hid (fun (W : World) (hg : Grew w1 W P) => hB.mid hg)
  obtain ⟨E, hE⟩ : ∃ E, S.sync.2 = E := ⟨_, rfl⟩
  rw [hE] at HP HR
  clear hE
  have HOF := hid (fun (W1 W2 : World) hp hg hr hg2 => Did.of (S' := S.sync.1) (w1 := W1) (w2 := W2) hbw hB hp hg hr hg2)
  clear h hA hA' hZ hk hl' hm hb0 hr0 hs0 hb1 hr1 hs1 hbw hB hbP hbR hAd hw0 hw1 hlm hn
  go_enter Try.func11, Try.ntmps11
  go_upto_region 1 with fail
  rw [← HW0.out]
  go_wp2_with fail
  refine (HF.out w0).mono ?_
  rintro er w2 ⟨rfl, rfl⟩
  go_upto_region 2 with fail
  rw [← HW1.out]
  go_wp2_with fail
  refine (HPK.out w1).mono ?_
  rintro er w2 ⟨rfl, rfl⟩
  clear k0 k1 k2 k3 f3
  go_wp2_with fail
  refine HP.out.mono ?_
  rintro er w5 ⟨rfl, hp5, hg5⟩
  have K5 := hid (HKP.out _ hg5)
  have HP5 := hid hp5
  have HG5 := hid hg5
  have HR5 := hid (HR.out w5 hg5 (HMID.out w5 hg5))
  obtain ⟨d0, d1, d2, d3⟩ := HD.out w5 K5.out
  clear hp5 hg5
  go_wp2_with fail
  refine HR5.out.mono ?_
  rintro er w6 ⟨rfl, hr6, hg6⟩
  have HFIN := hid (HOF.out _ _ HP5.out HG5.out hr6 hg6)
  clear hr6 hg6
  go_wp2
  go_ret
  exact ⟨rfl, by rw [HST.out]; exact HFIN.out⟩
set_option maxHeartbeats 4000000 in
theorem does4_any {w : World} {P R : Nat → Prop} {gs gr : Nat} {S : TS} (h : Bth w P R gs gr S) (hu : S.us.length ≤ 800000) (kd sd z : Int) (hk0 : -9223372036854775808 ≤ kd) (hk1 : kd < 9223372036854775808) (hz0 : -9223372036854775808 ≤ z) (hz1 : z < 9223372036854775808)
    (A : Option Addr) (l : List UInt8) (n c : Nat) (hn : l.length = n) (hc : n ≤ c) (hc2 : c ≤ 9223372036854775807) (Z : Nat → Prop) (hA : BytQ w Z A l) (hZ : ∀ b, Z b → ¬ P b ∧ ¬ R b) (hk : pk kd 6 = 4) :
    Calls Try.prog 11 #[.pointer (some ⟨gs, 0, none⟩), .pointer (some ⟨gr, 0, none⟩), .agg #[.int .i64 kd, .int .i64 sd, .int .i64 z, .slice A n c]] w fun er w' => er = .returned (.bool true) ∧ Did w w' P R gs gr (S.step (kd, sd, z, l)) := by
  obtain ⟨m, hm⟩ : ∃ m, min 60 n = m := ⟨_, rfl⟩
  have HF := hid (fun W => few16_any A n c hc W)
  rw [hm] at HF
  have HPK := hid (fun W => pick_any kd hk0 hk1 6 (by omega) (by omega) W)
  rw [hk] at HPK
  obtain ⟨l', hl'⟩ : ∃ l', l.take 60 = l' := ⟨_, rfl⟩
  have HST : Hid (S.step (kd, sd, z, l) = (S.fuse z).1) := hid (by unfold TS.step; simp [hk, hl'])
  have hlm : l'.length = m := by rw [← hl', List.length_take, hn, hm]
  have hmc : m ≤ c := by omega
  have hm60 : m ≤ 60 := by omega
  have hA' : BytQ w Z A l' := fun h0 => by
    rw [← hl'] at h0 ⊢
    rw [List.length_take] at h0
    obtain ⟨ad, e, h1, h2, h3⟩ := hA (by omega)
    refine ⟨ad, e, h1, h2, fun j x hx => h3 j x ?_⟩
    rw [List.getElem?_take] at hx
    split at hx
    · exact hx
    · cases hx
  -- the deed in a block of its own
  obtain ⟨w0, hw0⟩ : ∃ x, x = w.alloc (.cells #[.int .i64 kd, .int .i64 sd, .int .i64 z, .slice A n c] 30) := ⟨_, rfl⟩
  have hb0 : Below w.heap.size w w0 := by rw [hw0]; exact (Below.refl _ _).alloc (Nat.le_refl _) _
  have hr0 : w0.heap[w.heap.size]? = some (.cells #[.int .i64 kd, .int .i64 sd, .int .i64 z, .slice A n c] 30 (0, 0)) := by rw [hw0]; exact heap_alloc_new w _
  have hs0 : w0.heap.size = w.heap.size + 1 := by rw [hw0]; simp
  obtain ⟨w1, hw1⟩ : ∃ x, x = w0.setCell ⟨w.heap.size, 3, none⟩ (.slice A m c) := ⟨_, rfl⟩
  have hb1 : Below w.heap.size w w1 := by rw [hw1]; exact hb0.setCell (p := ⟨w.heap.size, 3, none⟩) (Nat.le_refl _) _
  have hr1 : w1.heap[w.heap.size]? = some (.cells #[.int .i64 kd, .int .i64 sd, .int .i64 z, .slice A m c] 30 (0, 0)) := by rw [hw1]; exact heap_setCell_same w0 _ 3 _ _ _ hr0
  have hs1 : w1.heap.size = w.heap.size + 1 := by rw [hw1, size_setQ]; exact hs0
  obtain ⟨k0, k1, k2, k3⟩ := deed_row hr0 w0 rfl
  have f3 := frozen_of_row w0 w.heap.size 3 _ _ hr0
  have HD := hid (deed_row hr1)
  obtain ⟨d0, d1, d2, d3⟩ := HD.out w1 rfl
  have hbw := hb1.drew
  have hB := h.below hbw
  have HB := hid hB
  have HBW := hid hbw
  have hbP : ¬ P w.heap.size := fun hp => by have := h.p.dom _ hp; omega
  have hbR : ¬ R w.heap.size := fun hp => by have := h.r.dom _ hp; omega
  have HKP : Hid (∀ W : World, Grew w1.drew W P → W.heap[w.heap.size]? = w1.heap[w.heap.size]?) := hid (fun W hW => hW.block _ (by show _ < w1.heap.size; omega) hbP)
  have HKR : Hid (∀ W1 W2 : World, Grew w1.drew W1 P → Grew W1 W2 R → W2.heap[w.heap.size]? = w1.heap[w.heap.size]?) := hid (fun W1 W2 h1 h2 => (h2.block _ (Nat.lt_of_lt_of_le (by show _ < w1.heap.size; omega) h1.size) hbR).trans (h1.block _ (by show _ < w1.heap.size; omega) hbP))
  have hAd : BytQ w1.drew Z A l' := hA'.kept (fun b _ hl => hbw.block b hl) hbw.size
  have HA1 : Hid (∀ W : World, Grew w1.drew W P → Byt W W.heap.size A l') := hid (fun W hW => (hAd.kept (fun b hb hl => hW.block b hl (hZ b hb).1) hW.size).byt)
  have HA2 : Hid (∀ W1 W2 : World, Grew w1.drew W1 P → Grew W1 W2 R → Byt W2 W2.heap.size A l') := hid (fun W1 W2 h1 h2 => ((hAd.kept (fun b hb hl => h1.block b hl (hZ b hb).1) h1.size).kept (fun b hb hl => h2.block b hl (hZ b hb).2) h2.size).byt)
  have HW0 := hid hw0
  have HW1 := hid hw1
  have HP := hid (fuseP_any hB.p z hz0 hz1)
  have HR := hid (fun (W : World) (hg : Grew w1.drew W P) (hr : TapR W R gr S) => refFuseQ_any hr z)
  have HMID := hid (fun (W : World) (hg : Grew w1.drew W P) => hB.mid hg)
  obtain ⟨E, hE⟩ : ∃ E, (S.fuse z).2 = E := ⟨_, rfl⟩
  rw [hE] at HP HR
  clear hE
  have HOF := hid (fun (W1 W2 : World) hp hg hr hg2 => Did.of (S' := (S.fuse z).1) (w1 := W1) (w2 := W2) hbw hB hp hg hr hg2)
  clear h hA hA' hZ hk hl' hm hb0 hr0 hs0 hb1 hr1 hs1 hbw hB hbP hbR hAd hw0 hw1 hlm hn
  go_enter Try.func11, Try.ntmps11
  go_upto_region 1 with fail
  rw [← HW0.out]
  go_wp2_with fail
  refine (HF.out w0).mono ?_
  rintro er w2 ⟨rfl, rfl⟩
  go_upto_region 2 with fail
  rw [← HW1.out]
  go_wp2_with fail
  refine (HPK.out w1).mono ?_
  rintro er w2 ⟨rfl, rfl⟩
  clear k0 k1 k2 k3 f3
  have HC : Hid (∀ W : World, W.heap[w.heap.size]? = w1.heap[w.heap.size]? → W.cell? ⟨w.heap.size, 2, none⟩ = some (.int .i64 z)) := hid (fun W hW => (HD.out W hW).2.2.1)
  clear HD d0 d1 d2 d3
  go_wp2_with fail
  go_region_held3 (fun W => W.cell? ⟨w.heap.size, 2, none⟩ = some (.int .i64 z)) (first | exact HC.out _ K6.out | exact HC.out _ K5.out | exact HC.out w1.drew rfl | go_keep) (first
    | (go_at_call 23; (refine HP.out.mono ?_); rintro er w5 ⟨rfl, hp5, hg5⟩; have K5 := hid (HKP.out _ hg5); have HP5 := hid hp5; have HG5 := hid hg5; have HR5 := hid (HR.out w5 hg5 (HMID.out w5 hg5)); clear hp5 hg5)
    | (go_at_call 29; (refine HR5.out.mono ?_); rintro er w6 ⟨rfl, hr6, hg6⟩; have K6 := hid (HKR.out _ _ HG5.out hg6); have HR6 := hid hr6; have HG6 := hid hg6; clear hr6 hg6)
    | fail)
  all_goals
    have HFIN := hid (HOF.out _ _ HP5.out HG5.out HR6.out HG6.out)
    go_wp2
    go_ret
    exact ⟨rfl, by rw [HST.out]; exact HFIN.out⟩
set_option maxHeartbeats 4000000 in
theorem does5_any {w : World} {P R : Nat → Prop} {gs gr : Nat} {S : TS} (h : Bth w P R gs gr S) (hu : S.us.length ≤ 800000) (kd sd z : Int) (hk0 : -9223372036854775808 ≤ kd) (hk1 : kd < 9223372036854775808) (hz0 : -9223372036854775808 ≤ z) (hz1 : z < 9223372036854775808)
    (A : Option Addr) (l : List UInt8) (n c : Nat) (hn : l.length = n) (hc : n ≤ c) (hc2 : c ≤ 9223372036854775807) (Z : Nat → Prop) (hA : BytQ w Z A l) (hZ : ∀ b, Z b → ¬ P b ∧ ¬ R b) (hk : pk kd 6 = 5) :
    Calls Try.prog 11 #[.pointer (some ⟨gs, 0, none⟩), .pointer (some ⟨gr, 0, none⟩), .agg #[.int .i64 kd, .int .i64 sd, .int .i64 z, .slice A n c]] w fun er w' => er = .returned (.bool true) ∧ Did w w' P R gs gr (S.step (kd, sd, z, l)) := by
  obtain ⟨m, hm⟩ : ∃ m, min 60 n = m := ⟨_, rfl⟩
  have HF := hid (fun W => few16_any A n c hc W)
  rw [hm] at HF
  have HPK := hid (fun W => pick_any kd hk0 hk1 6 (by omega) (by omega) W)
  rw [hk] at HPK
  obtain ⟨l', hl'⟩ : ∃ l', l.take 60 = l' := ⟨_, rfl⟩
  have HST : Hid (S.step (kd, sd, z, l) = S.crash z) := hid (by unfold TS.step; simp [hk, hl'])
  have hlm : l'.length = m := by rw [← hl', List.length_take, hn, hm]
  have hmc : m ≤ c := by omega
  have hm60 : m ≤ 60 := by omega
  have hA' : BytQ w Z A l' := fun h0 => by
    rw [← hl'] at h0 ⊢
    rw [List.length_take] at h0
    obtain ⟨ad, e, h1, h2, h3⟩ := hA (by omega)
    refine ⟨ad, e, h1, h2, fun j x hx => h3 j x ?_⟩
    rw [List.getElem?_take] at hx
    split at hx
    · exact hx
    · cases hx
  -- the deed in a block of its own
  obtain ⟨w0, hw0⟩ : ∃ x, x = w.alloc (.cells #[.int .i64 kd, .int .i64 sd, .int .i64 z, .slice A n c] 30) := ⟨_, rfl⟩
  have hb0 : Below w.heap.size w w0 := by rw [hw0]; exact (Below.refl _ _).alloc (Nat.le_refl _) _
  have hr0 : w0.heap[w.heap.size]? = some (.cells #[.int .i64 kd, .int .i64 sd, .int .i64 z, .slice A n c] 30 (0, 0)) := by rw [hw0]; exact heap_alloc_new w _
  have hs0 : w0.heap.size = w.heap.size + 1 := by rw [hw0]; simp
  obtain ⟨w1, hw1⟩ : ∃ x, x = w0.setCell ⟨w.heap.size, 3, none⟩ (.slice A m c) := ⟨_, rfl⟩
  have hb1 : Below w.heap.size w w1 := by rw [hw1]; exact hb0.setCell (p := ⟨w.heap.size, 3, none⟩) (Nat.le_refl _) _
  have hr1 : w1.heap[w.heap.size]? = some (.cells #[.int .i64 kd, .int .i64 sd, .int .i64 z, .slice A m c] 30 (0, 0)) := by rw [hw1]; exact heap_setCell_same w0 _ 3 _ _ _ hr0
  have hs1 : w1.heap.size = w.heap.size + 1 := by rw [hw1, size_setQ]; exact hs0
  obtain ⟨k0, k1, k2, k3⟩ := deed_row hr0 w0 rfl
  have f3 := frozen_of_row w0 w.heap.size 3 _ _ hr0
  have HD := hid (deed_row hr1)
  obtain ⟨d0, d1, d2, d3⟩ := HD.out w1 rfl
  have hbw := hb1
  have hB := h.below hbw
  have HB := hid hB
  have HBW := hid hbw
  have hbP : ¬ P w.heap.size := fun hp => by have := h.p.dom _ hp; omega
  have hbR : ¬ R w.heap.size := fun hp => by have := h.r.dom _ hp; omega
  have HKP : Hid (∀ W : World, Grew w1 W P → W.heap[w.heap.size]? = w1.heap[w.heap.size]?) := hid (fun W hW => hW.block _ (by omega) hbP)
  have HKR : Hid (∀ W1 W2 : World, Grew w1 W1 P → Grew W1 W2 R → W2.heap[w.heap.size]? = w1.heap[w.heap.size]?) := hid (fun W1 W2 h1 h2 => (h2.block _ (Nat.lt_of_lt_of_le (by omega) h1.size) hbR).trans (h1.block _ (by omega) hbP))
  have hAd : BytQ w1 Z A l' := hA'.kept (fun b _ hl => hbw.block b hl) hbw.size
  have HA1 : Hid (∀ W : World, Grew w1 W P → Byt W W.heap.size A l') := hid (fun W hW => (hAd.kept (fun b hb hl => hW.block b hl (hZ b hb).1) hW.size).byt)
  have HA2 : Hid (∀ W1 W2 : World, Grew w1 W1 P → Grew W1 W2 R → Byt W2 W2.heap.size A l') := hid (fun W1 W2 h1 h2 => ((hAd.kept (fun b hb hl => h1.block b hl (hZ b hb).1) h1.size).kept (fun b hb hl => h2.block b hl (hZ b hb).2) h2.size).byt)
  have HW0 := hid hw0
  have HW1 := hid hw1
  have HP := hid (crashP_any hB.p (Nat.le_trans hu (by omega)) z hz0 hz1)
  have HR := hid (fun (W : World) (hg : Grew w1 W P) (hr : TapR W R gr S) => refCrash_any hr (Nat.le_trans hu (by omega)) z hz0 hz1)
  have HMID := hid (fun (W : World) (hg : Grew w1 W P) => hB.mid hg)
  have HOF := hid (fun (W1 W2 : World) hp hg hr hg2 => Did.of (S' := S.crash z) (w1 := W1) (w2 := W2) hbw hB hp hg hr hg2)
  clear h hA hA' hZ hk hl' hm hb0 hr0 hs0 hb1 hr1 hs1 hbw hB hbP hbR hAd hw0 hw1 hlm hn
  go_enter Try.func11, Try.ntmps11
  go_upto_region 1 with fail
  rw [← HW0.out]
  go_wp2_with fail
  refine (HF.out w0).mono ?_
  rintro er w2 ⟨rfl, rfl⟩
  go_upto_region 2 with fail
  rw [← HW1.out]
  go_wp2_with fail
  refine (HPK.out w1).mono ?_
  rintro er w2 ⟨rfl, rfl⟩
  clear k0 k1 k2 k3 f3
  go_wp2_with fail
  refine HP.out.mono ?_
  rintro er w5 ⟨rfl, hp5, hg5⟩
  have K5 := hid (HKP.out _ hg5)
  have HP5 := hid hp5
  have HG5 := hid hg5
  have HR5 := hid (HR.out w5 hg5 (HMID.out w5 hg5))
  obtain ⟨d0, d1, d2, d3⟩ := HD.out w5 K5.out
  clear hp5 hg5
  go_wp2_with fail
  refine HR5.out.mono ?_
  rintro er w6 ⟨rfl, hr6, hg6⟩
  have HFIN := hid (HOF.out _ _ HP5.out HG5.out hr6 hg6)
  clear hr6 hg6
  go_wp2
  go_ret
  exact ⟨rfl, by rw [HST.out]; exact HFIN.out⟩
theorem does_any {w : World} {P R : Nat → Prop} {gs gr : Nat} {S : TS} (h : Bth w P R gs gr S) (hu : S.us.length ≤ 800000) (kd sd z : Int) (hk0 : -9223372036854775808 ≤ kd) (hk1 : kd < 9223372036854775808) (hz0 : -9223372036854775808 ≤ z) (hz1 : z < 9223372036854775808)
    (A : Option Addr) (l : List UInt8) (n c : Nat) (hn : l.length = n) (hc : n ≤ c) (hc2 : c ≤ 9223372036854775807) (Z : Nat → Prop) (hA : BytQ w Z A l) (hZ : ∀ b, Z b → ¬ P b ∧ ¬ R b) :
    Calls Try.prog 11 #[.pointer (some ⟨gs, 0, none⟩), .pointer (some ⟨gr, 0, none⟩), .agg #[.int .i64 kd, .int .i64 sd, .int .i64 z, .slice A n c]] w fun er w' => er = .returned (.bool true) ∧ Did w w' P R gs gr (S.step (kd, sd, z, l)) := by
  rcases pk6 kd with hk | hk | hk | hk | hk | hk
  · exact does0_any h hu kd sd z hk0 hk1 hz0 hz1 A l n c hn hc hc2 Z hA hZ hk
  · exact does1_any h hu kd sd z hk0 hk1 hz0 hz1 A l n c hn hc hc2 Z hA hZ hk
  · exact does2_any h hu kd sd z hk0 hk1 hz0 hz1 A l n c hn hc hc2 Z hA hZ hk
  · exact does3_any h hu kd sd z hk0 hk1 hz0 hz1 A l n c hn hc hc2 Z hA hZ hk
  · exact does4_any h hu kd sd z hk0 hk1 hz0 hz1 A l n c hn hc hc2 Z hA hZ hk
  · exact does5_any h hu kd sd z hk0 hk1 hz0 hz1 A l n c hn hc hc2 Z hA hZ hk
end Go.Proofs.Ytdigfbgjefffiaa.Sh
