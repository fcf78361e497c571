/-
  The document's own Caveat, by contract. Written by mk_tkref2.py.
-/
import Derived.Test.YtaadmgbmaekicaaGreatDoorJn13
import Derived.Deep.Cut
import Derived.Test.YtaadmgbmaekicaaGreatDoorJn9
set_option linter.unusedVariables false
set_option linter.unusedSimpArgs false
namespace Go.Proofs.YtaadmgbmaekicaaGreatDoor.Sh
open Go Go.RowKit

set_option linter.unusedSimpArgs false
set_option linter.unusedVariables false
open Classical in
set_option maxHeartbeats 4000000 in
theorem refCaveat_any {w : World} {Q : Nat → Prop} {ch : CH} {c : Cav} (a : CavAt w Q ch c) (hm : ch.rn ≤ 1099511627776) :
    Calls Tryz.prog 36 #[.agg #[.int .i64 ch.kind, .slice ch.rA ch.rn ch.rc, .int .i64 ch.til, .string ch.aud]] w fun e w' => e = .returned (.bool (decide (OkCav c))) ∧ Below w.heap.size w w' := by
  have HRL := hid (fun W (hW : Below w.heap.size w W) => refRolls_any (w := W) ch.rA c.roles ch.rn ch.rc a.rl hm ((a.re.els.below hW).more hW.size))
  have HMY := hid (fun W => refMay_any ch.aud W)
  have hrl := a.rl
  obtain ⟨kind, rA, rn, rc, til, aud⟩ := ch
  obtain ⟨kind', roles, til', aud'⟩ := c
  obtain rfl : kind = kind' := a.kind
  obtain rfl : til = til' := a.til
  obtain rfl : aud = aud' := a.aud
  simp only at HRL HMY hrl hm ⊢
  have HL := hid hrl
  have HOK : Hid (∀ b : Bool, (OkCav ⟨kind, roles, til, aud⟩ ↔ b = true) → decide (OkCav ⟨kind, roles, til, aud⟩) = b) := hid (fun b h => by
    cases b
    · exact decide_eq_false (fun hh => by cases h.1 hh)
    · exact decide_eq_true (h.2 rfl))
  obtain ⟨w1, hw1⟩ : ∃ y, y = w.alloc (.cells #[.int .i64 kind, .slice rA rn rc, .int .i64 til, .string aud] 51) := ⟨_, rfl⟩
  have HB1 : Hid (Below w.heap.size w w1) := hid (by rw [hw1]; exact (Below.refl _ _).alloc (Nat.le_refl _) _)
  have HR1 : Hid (w1.heap[w.heap.size]? = some (.cells #[.int .i64 kind, .slice rA rn rc, .int .i64 til, .string aud] 51 (0, 0))) := hid (by rw [hw1]; exact heap_alloc_new w _)
  have HCL : Hid (∀ W, Below w1.heap.size w1 W → W.cell? ⟨w.heap.size, 0, none⟩ = some (.int .i64 kind) ∧ W.cell? ⟨w.heap.size, 1, none⟩ = some (.slice rA rn rc) ∧ W.cell? ⟨w.heap.size, 2, none⟩ = some (.int .i64 til) ∧ W.cell? ⟨w.heap.size, 3, none⟩ = some (.string aud)) := hid (fun W hW => by
    have hr := (hW.block _ (Array.getElem?_eq_some_iff.1 HR1.out).1).trans HR1.out
    exact ⟨by rw [cell_of_row _ _ 0 _ _ (0, 0) hr]; rfl, by rw [cell_of_row _ _ 1 _ _ (0, 0) hr]; rfl, by rw [cell_of_row _ _ 2 _ _ (0, 0) hr]; rfl, by rw [cell_of_row _ _ 3 _ _ (0, 0) hr]; rfl⟩)
  have HW1 := hid hw1
  obtain ⟨c0, c1, c2, c3⟩ := HCL.out w1 (Below.refl _ _)
  clear a hrl hw1
  by_cases hk : kind = 1
  · subst hk
    have HR := hid (HRL.out w1 HB1.out)
    obtain ⟨b, hb⟩ : ∃ b, decide (Rolls roles) = b := ⟨_, rfl⟩
    have HBB := hid hb
    rw [hb] at HR
    clear hb
    go_enter Tryz.func36, Tryz.ntmps36
    go_upto_region 1 with fail
    rw [← HW1.out]
    go_wp2_with fail
    
    refine HR.out.mono ?_
    rintro er w2 ⟨rfl, b2⟩
    obtain ⟨c0', c1', c2', c3'⟩ := HCL.out w2 b2
    have HB2 := hid (HB1.out.trans (b2.mono HB1.out.size))
    clear b2 c0 c1 c2 c3
    cases b
    · go_wp2_with fail
      go_ret
      exact ⟨by rw [HOK.out false ⟨fun h => by exact h.elim (fun h => (absurd h.2.1 (of_decide_eq_false HBB.out))) (fun h => h.elim (fun h => (by have h1 := h.1; simp at h1)) (fun h => (by have h1 := h.1; simp at h1))), fun h => by cases h⟩]; rfl, HB2.out⟩
    · by_cases ht : til = 0
      · subst ht
        by_cases ha : aud = E0
        · subst ha
          have HYES := hid (HOK.out true ⟨fun _ => rfl, fun _ => .inl ⟨rfl, of_decide_eq_true HBB.out, rfl, rfl⟩⟩)
          unfold E0 at c3'
          go_wp2_with fail
          go_ret
          exact ⟨by rw [HYES.out]; rfl, HB2.out⟩
        · obtain ⟨s1, s2, s3, s4⟩ := sne ha
          have HNO := hid (HOK.out false ⟨fun h => by exact h.elim (fun h => (absurd h.2.2.2 ha)) (fun h => h.elim (fun h => (by have h1 := h.1; simp at h1)) (fun h => (by have h1 := h.1; simp at h1))), fun h => by cases h⟩)
          go_wp2_with fail
          go_ret
          exact ⟨by rw [HNO.out]; rfl, HB2.out⟩
      · have ht1 : (til == 0) = false := beq_eq_false_iff_ne.2 ht
        have HNO := hid (HOK.out false ⟨fun h => by exact h.elim (fun h => (absurd h.2.2.1 ht)) (fun h => h.elim (fun h => (by have h1 := h.1; simp at h1)) (fun h => (by have h1 := h.1; simp at h1))), fun h => by cases h⟩)
        go_wp2_with fail
        go_ret
        exact ⟨by rw [HNO.out]; rfl, HB2.out⟩
  have hk1 : (kind == 1) = false := beq_eq_false_iff_ne.2 hk
  by_cases hr : 0 < rn
  · have hr1 : (0 : Int) < (rn : Int) := by omega
    have HNO := hid (HOK.out false ⟨fun h => by exact h.elim (fun h => (absurd h.1 hk)) (fun h => h.elim (fun h => (by have h1 : roles = [] := h.2.1; have h2 := HL.out; rw [h1] at h2; simp at h2; omega)) (fun h => (by have h1 : roles = [] := h.2.1; have h2 := HL.out; rw [h1] at h2; simp at h2; omega))), fun h => by cases h⟩)
    go_enter Tryz.func36, Tryz.ntmps36
    go_upto_region 1 with fail
    rw [← HW1.out]
    go_wp2_with fail
    
    go_ret
    exact ⟨by rw [HNO.out]; rfl, HB1.out⟩
  have hr0 : rn = 0 := by omega
  subst hr0
  have HRN : Hid (roles = []) := hid (List.eq_nil_of_length_eq_zero HL.out)
  by_cases hk2 : kind = 2
  · subst hk2
    by_cases ht0 : 0 ≤ til
    · by_cases ht1 : til ≤ 1099511627776
      · by_cases ha : aud = E0
        · subst ha
          have HYES := hid (HOK.out true ⟨fun _ => rfl, fun _ => .inr (.inl ⟨rfl, HRN.out, ht0, ht1, rfl⟩)⟩)
          unfold E0 at c3
          go_enter Tryz.func36, Tryz.ntmps36
          go_upto_region 1 with fail
          rw [← HW1.out]
          go_wp2_with fail
          
          go_ret
          exact ⟨by rw [HYES.out]; rfl, HB1.out⟩
        · obtain ⟨s1, s2, s3, s4⟩ := sne ha
          have HNO := hid (HOK.out false ⟨fun h => by exact h.elim (fun h => (by have h1 := h.1; simp at h1)) (fun h => h.elim (fun h => (absurd h.2.2.2.2 ha)) (fun h => (by have h1 := h.1; simp at h1))), fun h => by cases h⟩)
          go_enter Tryz.func36, Tryz.ntmps36
          go_upto_region 1 with fail
          rw [← HW1.out]
          go_wp2_with fail
          
          go_ret
          exact ⟨by rw [HNO.out]; rfl, HB1.out⟩
      · have HNO := hid (HOK.out false ⟨fun h => by exact h.elim (fun h => (by have h1 := h.1; simp at h1)) (fun h => h.elim (fun h => (absurd h.2.2.2.1 ht1)) (fun h => (by have h1 := h.1; simp at h1))), fun h => by cases h⟩)
        go_enter Tryz.func36, Tryz.ntmps36
        go_upto_region 1 with fail
        rw [← HW1.out]
        go_wp2_with fail
        
        go_ret
        exact ⟨by rw [HNO.out]; rfl, HB1.out⟩
    · have HNO := hid (HOK.out false ⟨fun h => by exact h.elim (fun h => (by have h1 := h.1; simp at h1)) (fun h => h.elim (fun h => (absurd h.2.2.1 ht0)) (fun h => (by have h1 := h.1; simp at h1))), fun h => by cases h⟩)
      go_enter Tryz.func36, Tryz.ntmps36
      go_upto_region 1 with fail
      rw [← HW1.out]
      go_wp2_with fail
      
      go_ret
      exact ⟨by rw [HNO.out]; rfl, HB1.out⟩
  have hk21 : (kind == 2) = false := beq_eq_false_iff_ne.2 hk2
  have HM := hid (HMY.out w1)
  obtain ⟨b, hb⟩ : ∃ b, mayL aud.data.toList = b := ⟨_, rfl⟩
  have HBB : Hid (mayB aud = b) := hid hb
  rw [hb] at HM
  clear hb
  by_cases hk3 : kind = 3
  · subst hk3
    by_cases ht : til = 0
    · subst ht
      have HRES := hid (HOK.out b ⟨fun h => by exact h.elim (fun h => (absurd h.1 hk)) (fun h => h.elim (fun h => (absurd h.1 hk2)) (fun h => (HBB.out.symm.trans h.2.2.2))), fun h => .inr (.inr ⟨rfl, HRN.out, rfl, HBB.out.trans h⟩)⟩)
      cases b
      all_goals
        go_enter Tryz.func36, Tryz.ntmps36
        go_upto_region 1 with fail
        rw [← HW1.out]
        go_wp2_with fail
        refine HM.out.mono ?_
        rintro er w2 ⟨rfl, hw⟩
        have hw2 : w1 = w2 := hw
        subst hw2
        clear hw
        go_wp2_with fail
        go_ret
        exact ⟨by rw [HRES.out]; rfl, HB1.out⟩
    · have ht1 : (til == 0) = false := beq_eq_false_iff_ne.2 ht
      have HNO := hid (HOK.out false ⟨fun h => by exact h.elim (fun h => (absurd h.1 hk)) (fun h => h.elim (fun h => (absurd h.1 hk2)) (fun h => (absurd h.2.2.1 ht))), fun h => by cases h⟩)
      go_enter Tryz.func36, Tryz.ntmps36
      go_upto_region 1 with fail
      rw [← HW1.out]
      go_wp2_with fail
      refine HM.out.mono ?_
      rintro er w2 ⟨rfl, hw⟩
      have hw2 : w1 = w2 := hw
      subst hw2
      clear hw
      go_wp2_with fail
      go_ret
      exact ⟨by rw [HNO.out]; rfl, HB1.out⟩
  · have hk31 : (kind == 3) = false := beq_eq_false_iff_ne.2 hk3
    have HNO := hid (HOK.out false ⟨fun h => by exact h.elim (fun h => (absurd h.1 hk)) (fun h => h.elim (fun h => (absurd h.1 hk2)) (fun h => (absurd h.1 hk3))), fun h => by cases h⟩)
    go_enter Tryz.func36, Tryz.ntmps36
    go_upto_region 1 with fail
    rw [← HW1.out]
    go_wp2_with fail
    refine HM.out.mono ?_
    rintro er w2 ⟨rfl, hw⟩
    have hw2 : w1 = w2 := hw
    subst hw2
    clear hw
    go_wp2_with fail
    go_ret
    exact ⟨by rw [HNO.out]; rfl, HB1.out⟩
end Go.Proofs.YtaadmgbmaekicaaGreatDoor.Sh
