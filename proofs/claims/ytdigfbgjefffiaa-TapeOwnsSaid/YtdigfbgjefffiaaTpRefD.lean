/-
  The document's tape: New, Fuse, Sync, Crash.
-/
import Derived.Test.YtdigfbgjefffiaaTpRefC
namespace Go.Proofs.Ytdigfbgjefffiaa.Sh
open Go Go.RowKit

set_option linter.unusedSimpArgs false
set_option linter.unusedVariables false
section
variable {w w1 : World} {P : Nat → Prop} {q s c0 c1 uc n m ca cb : Nat} {A0 A1 UA A B : Option Addr} {S : TS} {a b : List UInt8}
/-- Both sides anew, and no units. -/
theorem TapE.resafe (e : TapE w P q s A0 A1 UA c0 c1 uc S) (hb : Below w.heap.size w w1) (hA : OwnB w1 w.heap.size (.slice A n ca) n a) (hB : OwnB w1 w.heap.size (.slice B m cb) m b) (w3 : World)
    (h3 : w3 = ((w1.alloc (.cells #[.slice A n ca, .slice B m cb] 28)).setCell ⟨q, 0, none⟩ (.slice (some ⟨w1.heap.size, 0, none⟩) 2 2)).setCell ⟨q, 1, none⟩ (.slice none 0 0)) :
    TapE w3 (plusQ P w.heap.size w3.heap.size) q w1.heap.size A B none ca cb 0 ⟨a, b, [], S.bn, S.lf⟩ ∧ Grew w w3 P := by
  obtain ⟨w2, h2⟩ : ∃ x, x = w1.alloc (.cells #[.slice A n ca, .slice B m cb] 28) := ⟨_, rfl⟩
  rw [← h2] at h3
  have hs2 : w2.heap.size = w1.heap.size + 1 := by rw [h2]; simp
  have b2 : Below w1.heap.size w1 w2 := by rw [h2]; exact (Below.refl _ _).alloc (Nat.le_refl _) _
  have hn2 : w2.heap[w1.heap.size]? = some (.cells #[.slice A n ca, .slice B m cb] 28 (0, 0)) := by rw [h2]; exact heap_alloc_new w1 _
  have e2 := (e.below hb).below b2
  have hq1 : q < w.heap.size := e.dom q e.p0
  have hsz := hb.size
  have hg0 := gro_set1 w2 q 0 (.slice (some ⟨w1.heap.size, 0, none⟩) 2 2)
  have hr0 := heap_setCell_same w2 q 0 _ _ (.slice (some ⟨w1.heap.size, 0, none⟩) 2 2) e2.row
  have hg1 := gro_set1 (w2.setCell ⟨q, 0, none⟩ (.slice (some ⟨w1.heap.size, 0, none⟩) 2 2)) q 1 (.slice none 0 0)
  have hr1 := heap_setCell_same _ q 1 _ _ (.slice none 0 0) hr0
  rw [← h3] at hg1 hr1
  have hs3 : w3.heap.size = w2.heap.size := by rw [h3]; simp
  have hoth : ∀ x, x ≠ q → x < w2.heap.size → w3.heap[x]? = w2.heap[x]? := fun x h1 h4 => (hg1.block x (by rw [size_setQ]; exact h4) (fun e => h1 (Option.some.inj e))).trans (hg0.block x h4 (fun e => h1 (Option.some.inj e)))
  have hby : ∀ {A : Option Addr} {n ca : Nat} {a : List UInt8}, OwnB w1 w.heap.size (.slice A n ca) n a → BytQ w3 (fun x => plusQ P w.heap.size w3.heap.size x ∧ x ≠ q ∧ (Value.slice none 0 0).ownBlock ≠ some x) A a := fun h => by
    have h1 : BytQ w1 (fun x => w.heap.size ≤ x ∧ x < w1.heap.size) _ _ := BytQ.of_own h (fun x h1 h2 => ⟨h1, h2⟩)
    refine (h1.kept (w' := w3) (fun x hx hl => (hoth x (by omega) (by omega)).trans (b2.block x hl)) (by omega)).imp fun x hx _ => ⟨.inr ⟨hx.1, by omega⟩, by omega, fun h => by cases h⟩
  refine ⟨⟨.inl e.p0, .inr ⟨hsz, by omega⟩, by omega, ?_, ?_, hby hA, hby hB, ?_, (fun g h => by cases h), fun x hx => plusQ_dom e.dom (by omega) x hx⟩, ⟨?_, ?_, ?_, by omega, fun x hx hp => ?_⟩⟩
  · rw [hr1]; rfl
  · rw [hoth _ (by omega) (by omega), hn2, ← hA.len, ← hB.len]
  · exact Own.nil _ _ _
  · rw [hg1.os, hg0.os, b2.os, hb.os]
  · rw [hg1.tape, hg0.tape, b2.tape, hb.tape]
  · rw [hg1.output, hg0.output, b2.output, hb.output]
  · rw [hoth x (fun h => hp (h ▸ e.p0)) (by omega), b2.block x (by omega), hb.block x hx]
end
theorem OwnB.below' {w w' : World} {B n : Nat} {v : Value} {l : List UInt8} (h : OwnB w B v n l) (hb : Below w.heap.size w w') : OwnB w' B v n l := by
  refine ⟨h.1, ?_⟩
  rcases h.2 with hn | ⟨g, cap, cur, e, hB, hg, r⟩
  · exact .inl hn
  · exact .inr ⟨g, cap, cur, e, hB, (hb.block g (Array.getElem?_eq_some_iff.1 hg).1).trans hg, r⟩
set_option maxHeartbeats 1000000 in
theorem refNew_any (w : World) :
    Calls Try.prog 10 #[] w fun er w' => ∃ q, er = .returned (.pointer (some ⟨q, 0, none⟩)) ∧ w.heap.size ≤ q ∧ TapR w' (fun x => w.heap.size ≤ x ∧ x < w'.heap.size) q TS.new ∧ Below w.heap.size w w' := by
  go_enter Try.func10, Try.ntmps10
  go_wp2
  go_ret
  obtain ⟨w1, h1⟩ : ∃ x, x = w.alloc (.cells #[.slice none 0 0, .slice none 0 0] 28) := ⟨_, rfl⟩
  rw [← h1]
  obtain ⟨w2, h2⟩ : ∃ x, x = w1.alloc (.cells #[.slice (some ⟨w.heap.size, 0, none⟩) 2 2, .slice none 0 0, .bool false, .int .i64 0] 58) := ⟨_, rfl⟩
  rw [← h2]
  have s1 : w1.heap.size = w.heap.size + 1 := by rw [h1]; simp
  have s2 : w2.heap.size = w1.heap.size + 1 := by rw [h2]; simp
  have b1 : Below w.heap.size w w1 := by rw [h1]; exact (Below.refl _ _).alloc (Nat.le_refl _) _
  have b2 : Below w1.heap.size w1 w2 := by rw [h2]; exact (Below.refl _ _).alloc (Nat.le_refl _) _
  have r1 : w1.heap[w.heap.size]? = some (.cells #[.slice none 0 0, .slice none 0 0] 28 (0, 0)) := by rw [h1]; exact heap_alloc_new w _
  have r2 : w2.heap[w.heap.size + 1]? = some (.cells #[.slice (some ⟨w.heap.size, 0, none⟩) 2 2, .slice none 0 0, .bool false, .int .i64 0] 58 (0, 0)) := by rw [← s1, h2]; exact heap_alloc_new w1 _
  exact ⟨w.heap.size + 1, rfl, Nat.le_succ _, ⟨TS.new_ok, w.heap.size, none, none, none, 0, 0, 0, ⟨⟨by omega, by omega⟩, ⟨Nat.le_refl _, by omega⟩, by omega, r2, (b2.block _ (by omega)).trans r1, BytQ.nil, BytQ.nil, Own.nil _ _ _, (fun g h => by cases h), fun x hx => hx.2⟩⟩, b1.trans (b2.mono b1.size)⟩
set_option maxHeartbeats 2000000 in
theorem refFuse_any {w : World} {P : Nat → Prop} {q : Nat} {S : TS} (e : TapR w P q S) (z : Int) :
    Calls Try.prog 29 #[.pointer (some ⟨q, 0, none⟩), .int .i64 z] w fun er w' => er = .returned (.int .i64 (S.fuse z).2) ∧ TapR w' P q (S.fuse z).1 ∧ Grew w w' P := by
  have HOK := hid (TS.fuse_ok (n := z) e.1)
  have HE0 := hid e
  obtain ⟨hok, s, A0, A1, UA, c0, c1, uc, e⟩ := e
  by_cases hz : z < 0
  · have HWR : Hid (S.fuse z = (S, 1)) := hid (by unfold TS.fuse; rw [if_pos (.inl hz)])
    have hd : decide (z < 0) = true := decide_eq_true hz
    clear e hok
    go_enter Try.func29, Try.ntmps29
    go_wp2
    go_ret
    exact ⟨by rw [HWR.out]; rfl, by rw [HWR.out]; exact HE0.out, Grew.refl _ _⟩
  · have hd : decide (z < 0) = false := decide_eq_false hz
    by_cases hz2 : 1099511627776 < z
    · have HWR : Hid (S.fuse z = (S, 1)) := hid (by unfold TS.fuse; rw [if_pos (.inr hz2)])
      have hd2 : decide (1099511627776 < z) = true := decide_eq_true hz2
      clear e hok
      go_enter Try.func29, Try.ntmps29
      go_wp2
      go_ret
      exact ⟨by rw [HWR.out]; rfl, by rw [HWR.out]; exact HE0.out, Grew.refl _ _⟩
    · have hd2 : decide (1099511627776 < z) = false := decide_eq_false hz2
      obtain ⟨y, hy⟩ : ∃ y, (if S.bn = true ∧ S.lf < z then S.lf else z) = y := ⟨_, rfl⟩
      have HWR : Hid (S.fuse z = ({ S with bn := true, lf := y }, 0)) := hid (by unfold TS.fuse; rw [if_neg (by omega), hy])
      have HFIN := hid ((e.setBn true).1.setLf y)
      have HG1 := hid (e.setBn true).2
      obtain ⟨k00, k01, k02, k03⟩ := (e.cells w (Below.refl _ _)).1
      have f02 := (e.cells w (Below.refl _ _)).2.2 2
      have f03 : (w.setCell ⟨q, 2, none⟩ (.bool true)).frozen? ⟨q, 3, none⟩ = false := ((e.setBn true).1.cells _ (Below.refl _ _)).2.2 3
      have k13 : (w.setCell ⟨q, 2, none⟩ (.bool true)).cell? ⟨q, 3, none⟩ = some (.int .i64 S.lf) := ((e.setBn true).1.cells _ (Below.refl _ _)).1.2.2.2
      clear e
      cases hbn : S.bn with
      | false =>
        have hyz : y = z := by rw [← hy, if_neg (fun h => by rw [hbn] at h; cases h.1)]
        subst hyz
        rw [hbn] at k02
        clear hbn hy hok
        go_enter Try.func29, Try.ntmps29
        go_wp2
        go_ret
        rw [HWR.out] at HOK
        exact ⟨by rw [HWR.out]; rfl, by rw [HWR.out]; exact ⟨HOK.out, _, _, _, _, _, _, _, HFIN.out.1⟩, HG1.out.trans HFIN.out.2⟩
      | true =>
        rw [hbn] at k02
        by_cases hl : S.lf < z
        · have hyz : y = S.lf := by rw [← hy, if_pos ⟨hbn, hl⟩]
          have hd3 : decide (S.lf < z) = true := decide_eq_true hl
          subst hyz
          clear hbn hy hok
          go_enter Try.func29, Try.ntmps29
          go_wp2
          go_ret
          rw [HWR.out] at HOK
          exact ⟨by rw [HWR.out]; rfl, by rw [HWR.out]; exact ⟨HOK.out, _, _, _, _, _, _, _, HFIN.out.1⟩, HG1.out.trans HFIN.out.2⟩
        · have hyz : y = z := by rw [← hy, if_neg (fun h => hl h.2)]
          have hd3 : decide (S.lf < z) = false := decide_eq_false hl
          subst hyz
          clear hbn hy hok
          go_enter Try.func29, Try.ntmps29
          go_wp2
          go_ret
          rw [HWR.out] at HOK
          exact ⟨by rw [HWR.out]; rfl, by rw [HWR.out]; exact ⟨HOK.out, _, _, _, _, _, _, _, HFIN.out.1⟩, HG1.out.trans HFIN.out.2⟩
set_option maxHeartbeats 4000000 in
theorem refSync_any {w : World} {P : Nat → Prop} {q : Nat} {S : TS} (e : TapR w P q S) (hu : S.us.length ≤ 1000000) :
    Calls Try.prog 28 #[.pointer (some ⟨q, 0, none⟩)] w fun er w' => er = .returned (.int .i64 S.sync.2) ∧ TapR w' (plusQ P w.heap.size w'.heap.size) q S.sync.1 ∧ Grew w w' P := by
  have HRD := hid (refReady_any e 0)
  have HOKW := hid (TS.sync_ok e.1)
  by_cases hr : S.ready 0 = 0
  · have HWR : Hid (S.sync = (⟨S.now 0, S.now 1, [], S.burn.bn, S.burn.lf⟩, 0)) := hid (by unfold TS.sync; rw [if_neg (by simp [hr])])
    have hokb := e.1.burn hr
    have hnow : S.burn.now 0 = S.now 0 ∧ S.burn.now 1 = S.now 1 := by unfold TS.burn; split <;> exact ⟨rfl, rfl⟩
    have HNW := hid (fun (W : World) (e : TapR W P q S.burn) => refNow_any e (by rw [S.burn_us]; exact hu) 0 (.inl rfl))
    have HNW1 := hid (fun (W : World) (e : TapR W P q S.burn) => refNow_any e (by rw [S.burn_us]; exact hu) 1 (.inr rfl))
    rw [hnow.1] at HNW
    rw [hnow.2] at HNW1
    have HTR := hid (fun (W : World) s A0 A1 UA c0 c1 uc (h : TapE W P q s A0 A1 UA c0 c1 uc S.burn) => (show TapR W P q S.burn from ⟨hokb, s, A0, A1, UA, c0, c1, uc, h⟩))
    rw [hr] at HRD
    obtain ⟨hok, s, A0, A1, UA, c0, c1, uc, e⟩ := e
    have HBU := hid (refBurn_any e ⟨hok.lf0, hok.lf1⟩)
    clear e hok hr hokb hnow hu
    go_enter Try.func28, Try.ntmps28
    go_wp2_with fail
    refine HRD.out.mono ?_
    rintro er w1 ⟨rfl, rfl⟩
    go_wp2_with fail
    refine HBU.out.mono ?_
    rintro er w1 ⟨rfl, e1, g1⟩
    have HG1 := hid g1
    have HE1 := hid e1
    clear e1 g1
    go_wp2_with fail
    refine (HNW.out w1 (HTR.out _ _ _ _ _ _ _ _ HE1.out)).mono ?_
    rintro er w2 ⟨A3, m3, c3, rfl, -, -, o3, b3⟩
    have HO3 := hid o3
    have HB3 := hid b3
    clear o3 b3
    go_wp2_with fail
    refine (HNW1.out w2 ((HTR.out _ _ _ _ _ _ _ _ HE1.out).below HB3.out)).mono ?_
    rintro er w3 ⟨A4, m4, c4, rfl, -, -, o4, b4⟩
    have HO4 := hid (own_mono' o4 HB3.out.size)
    have HO3' := hid (HO3.out.below' b4)
    have HB4 := hid (HB3.out.trans (b4.mono HB3.out.size))
    have HFIN := hid (fun W5 h5 => HE1.out.resafe HB4.out HO3'.out HO4.out W5 h5)
    have eX := (HE1.out.below HB4.out).below ((Below.refl w3.heap.size w3).alloc (Nat.le_refl _) (.cells #[.slice A3 m3 c3, .slice A4 m4 c4] 28))
    have f5 : (w3.alloc (.cells #[.slice A3 m3 c3, .slice A4 m4 c4] 28)).frozen? ⟨q, 0, none⟩ = false := frozen_of_row _ q 0 _ _ eX.row
    have k5 : (w3.alloc (.cells #[.slice A3 m3 c3, .slice A4 m4 c4] 28)).cell? ⟨q, 0, none⟩ = some (.slice (some ⟨s, 0, none⟩) 2 2) := ((eX.cells _ (Below.refl _ _)).1).1
    have hr6 := heap_setCell_same _ q 0 _ _ (.slice (some ⟨w3.heap.size, 0, none⟩) 2 2) eX.row
    have f6 : ((w3.alloc (.cells #[.slice A3 m3 c3, .slice A4 m4 c4] 28)).setCell ⟨q, 0, none⟩ (.slice (some ⟨w3.heap.size, 0, none⟩) 2 2)).frozen? ⟨q, 1, none⟩ = false := frozen_of_row _ q 1 _ _ hr6
    have k6 : ((w3.alloc (.cells #[.slice A3 m3 c3, .slice A4 m4 c4] 28)).setCell ⟨q, 0, none⟩ (.slice (some ⟨w3.heap.size, 0, none⟩) 2 2)).cell? ⟨q, 1, none⟩ = some (.slice UA S.burn.us.length uc) := by rw [cell_of_row _ q 1 _ _ (0, 0) hr6]; rfl
    clear o4 b4 eX hr6
    go_wp2_with fail
    go_ret
    have hf := HFIN.out _ rfl
    have hgg := HG1.out.trans hf.2
    rw [HWR.out] at HOKW
    refine ⟨by rw [HWR.out]; rfl, ?_, hgg⟩
    rw [HWR.out]
    exact ⟨HOKW.out, _, _, _, _, _, _, _, hf.1.imp (fun y hy => hy.elim .inl (fun h => .inr ⟨Nat.le_trans HG1.out.size h.1, h.2⟩)) (fun y hy => hy.elim (fun hp => hf.1.dom y (.inl hp)) (·.2))⟩
  · have HWR : Hid (S.sync = (S, S.ready 0)) := hid (by unfold TS.sync; rw [if_pos hr])
    have HE := hid e
    obtain ⟨r, hrr⟩ : ∃ r, S.ready 0 = r := ⟨_, rfl⟩
    rw [hrr] at HRD HWR hr
    have hb : (r != 0) = true := by simp [hr]
    clear hrr e HOKW
    go_enter Try.func28, Try.ntmps28
    go_wp2_with fail
    refine HRD.out.mono ?_
    rintro er w1 ⟨rfl, rfl⟩
    go_wp2_with fail
    go_ret
    exact ⟨by rw [HWR.out]; rfl, by rw [HWR.out]; exact HE.out.plus, Grew.refl _ _⟩
end Go.Proofs.Ytdigfbgjefffiaa.Sh
