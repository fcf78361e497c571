/-
  The program's own tokens: mayRoles, maySupport, mayCaveat, mayCaveats, May, by contract. Written by mk_tkpgb.py.
-/
import Derived.Test.YtaadmgbmaekicaaGreatDoorJn32
set_option linter.unusedVariables false
set_option linter.unusedSimpArgs false
namespace Go.Proofs.YtaadmgbmaekicaaGreatDoor.Sh
open Go Go.RowKit

set_option linter.unusedSimpArgs false
set_option linter.unusedVariables false
def atN {α : Type} (f : α → Bool) (l : List α) (j : Nat) : Bool :=
  match l[j]? with
  | some a => f a
  | none => true
theorem atN_at {α : Type} {f : α → Bool} {l : List α} {j : Nat} {a : α} (h : l[j]? = some a) : atN f l j = f a := by unfold atN; rw [h]
theorem atN_iff {α : Type} (f : α → Bool) (l : List α) : allN (atN f l) l.length = true ↔ ∀ x ∈ l, f x = true := by
  rw [allN_iff]
  constructor
  · intro h x hx
    obtain ⟨j, hj, e⟩ := List.getElem_of_mem hx
    have := h j hj
    rw [atN_at (List.getElem?_eq_some_iff.2 ⟨hj, e⟩)] at this
    exact this
  · intro h j hj
    rw [atN_at (List.getElem?_eq_getElem hj)]
    exact h _ (List.getElem_mem _)
open Classical in
theorem rolls_parts (l : List Ro) : decide (Rolls l) = (decide (l.length ≤ 4) && (allN (atN (fun r : Ro => roleL r.1.data.toList r.2.data.toList) l) l.length && allN (ltN (fun a b : Ro => lessL a.1 a.2 b.1 b.2) l) (l.length - 1))) := by
  rw [Bool.eq_iff_iff, decide_eq_true_eq, Bool.and_eq_true, Bool.and_eq_true, decide_eq_true_eq, atN_iff, ltN_iff]
  exact ⟨fun h => ⟨h.len, h.ok, h.up⟩, fun h => ⟨h.1, h.2.1, h.2.2⟩⟩
open Classical in
theorem sup_parts (l : List (Int × Int)) : decide (l.length ≤ 64 ∧ Ids l) = (decide (l.length ≤ 64) && (allN (atN idB l) l.length && allN (ltN (fun a b : Int × Int => beforeI a.1 a.2 b.1 b.2) l) (l.length - 1))) := by
  rw [Bool.eq_iff_iff, decide_eq_true_eq, Bool.and_eq_true, Bool.and_eq_true, decide_eq_true_eq, atN_iff, ltN_iff]
  exact ⟨fun h => ⟨h.1, fun x hx => (idB_iff x).2 (h.2.ok x hx), h.2.up⟩, fun h => ⟨h.1, fun x hx => (idB_iff x).1 (h.2.1 x hx), h.2.2⟩⟩
theorem okc1 {r : List Ro} {t : Int} {a : ByteArray} : OkCav ⟨1, r, t, a⟩ ↔ Rolls r ∧ t = 0 ∧ a = E0 :=
  ⟨fun h => h.elim (fun h => h.2) (fun h => h.elim (fun h => absurd h.1 (by simp)) (fun h => absurd h.1 (by simp))), fun h => .inl ⟨rfl, h⟩⟩
theorem okc2 {r : List Ro} {t : Int} {a : ByteArray} : OkCav ⟨2, r, t, a⟩ ↔ r = [] ∧ (0 ≤ t ∧ t ≤ 1099511627776) ∧ a = E0 :=
  ⟨fun h => h.elim (fun h => absurd h.1 (by simp)) (fun h => h.elim (fun h => ⟨h.2.1, ⟨h.2.2.1, h.2.2.2.1⟩, h.2.2.2.2⟩) (fun h => absurd h.1 (by simp))), fun h => .inr (.inl ⟨rfl, h.1, h.2.1.1, h.2.1.2, h.2.2⟩)⟩
theorem okc3 {r : List Ro} {t : Int} {a : ByteArray} : OkCav ⟨3, r, t, a⟩ ↔ r = [] ∧ t = 0 ∧ mayB a = true :=
  ⟨fun h => h.elim (fun h => absurd h.1 (by simp)) (fun h => h.elim (fun h => absurd h.1 (by simp)) (fun h => h.2)), fun h => .inr (.inr ⟨rfl, h⟩)⟩
theorem okcX {k : Int} {r : List Ro} {t : Int} {a : ByteArray} (h1 : k ≠ 1) (h2 : k ≠ 2) (h3 : k ≠ 3) : ¬ OkCav ⟨k, r, t, a⟩ := fun h => h.elim (fun h => h1 h.1) (fun h => h.elim (fun h => h2 h.1) (fun h => h3 h.1))
open Classical in
theorem ok_of {c : Cav} {b : Bool} (h : OkCav c ↔ b = true) : decide (OkCav c) = b := by
  cases b
  · exact decide_eq_false (fun hh => by cases h.1 hh)
  · exact decide_eq_true (h.2 rfl)
open Classical in
set_option maxHeartbeats 4000000 in
theorem pmayRoles_any (A : Option Addr) (l : List Ro) (n c : Nat) (hn : l.length = n) (hm : n ≤ 1000000000) (w : World) (h : Els encR w w.heap.size A l) :
    Calls Tryz.prog 29 #[.slice A n c] w fun e w' => e = .returned (.bool (decide (Rolls l))) ∧ Below w.heap.size w w' := by
  have HE := hid (rolls_parts l)
  obtain ⟨V, hV⟩ : ∃ b, decide (Rolls l) = b := ⟨_, rfl⟩
  rw [hV] at HE ⊢
  rw [hn] at HE
  have HA := hid (pallR1_any A l n c hn hm w h (atN (fun r : Ro => roleL r.1.data.toList r.2.data.toList) l) (fun j x hx W hW => by
    rw [atN_at hx]
    exact role_any x.1 x.2 W))
  have HL := hid (fun W (hW : Below w.heap.size w W) => pascR_any A l n c hn hm W ((h.below hW).more hW.size))
  obtain ⟨b1, h1⟩ : ∃ b, allN (atN (fun r : Ro => roleL r.1.data.toList r.2.data.toList) l) n = b := ⟨_, rfl⟩
  rw [h1] at HA HE
  obtain ⟨b2, h2⟩ : ∃ b, allN (ltN (fun a b : Ro => lessL a.1 a.2 b.1 b.2) l) (n - 1) = b := ⟨_, rfl⟩
  rw [h2] at HL HE
  clear h1 h2 hV hn h
  by_cases h4 : n ≤ 4
  · have h5 : (n : Int) ≤ 4 := by omega
    have HF : Hid (V = (b1 && b2)) := hid (by rw [HE.out, decide_eq_true h4]; rfl)
    go_enter Tryz.func29, Tryz.ntmps29
    go_wp2_with fail
    refine HA.out.mono ?_
    rintro er w2 ⟨rfl, q2⟩
    have HB2 := hid q2
    clear q2
    cases b1
    · go_wp2_with fail
      go_ret
      exact ⟨by rw [HF.out]; rfl, HB2.out⟩
    · go_wp2_with fail
      refine (HL.out _ HB2.out).mono ?_
      rintro er w3 ⟨rfl, q3⟩
      have HB3 := hid (HB2.out.trans (q3.mono HB2.out.size))
      clear q3
      cases b2
      all_goals
        go_wp2_with fail
        go_ret
        exact ⟨by rw [HF.out]; rfl, HB3.out⟩
  · have h5 : ¬ (n : Int) ≤ 4 := by omega
    have HF : Hid (V = false) := hid (by rw [HE.out, decide_eq_false h4]; rfl)
    go_enter Tryz.func29, Tryz.ntmps29
    go_wp2_with fail
    go_ret
    exact ⟨by rw [HF.out]; rfl, Below.refl _ _⟩
open Classical in
set_option maxHeartbeats 4000000 in
theorem pmaySupport_any (A : Option Addr) (l : List (Int × Int)) (n c : Nat) (hn : l.length = n) (hm : n ≤ 1000000000) (w : World) (h : Els encI w w.heap.size A l) :
    Calls Tryz.prog 31 #[.slice A n c] w fun e w' => e = .returned (.bool (decide (l.length ≤ 64 ∧ Ids l))) ∧ Below w.heap.size w w' := by
  have HE := hid (sup_parts l)
  obtain ⟨V, hV⟩ : ∃ b, decide (l.length ≤ 64 ∧ Ids l) = b := ⟨_, rfl⟩
  rw [hV] at HE ⊢
  rw [hn] at HE
  have HA := hid (pallI1_any A l n c hn hm w h (atN idB l) (fun j x hx W hW => by
    rw [atN_at hx]
    exact pmayID_any x.1 x.2 W))
  have HL := hid (fun W (hW : Below w.heap.size w W) => pascI_any A l n c hn hm W ((h.below hW).more hW.size))
  obtain ⟨b1, h1⟩ : ∃ b, allN (atN idB l) n = b := ⟨_, rfl⟩
  rw [h1] at HA HE
  obtain ⟨b2, h2⟩ : ∃ b, allN (ltN (fun a b : Int × Int => beforeI a.1 a.2 b.1 b.2) l) (n - 1) = b := ⟨_, rfl⟩
  rw [h2] at HL HE
  clear h1 h2 hV hn h
  by_cases h4 : n ≤ 64
  · have h5 : (n : Int) ≤ 64 := by omega
    have HF : Hid (V = (b1 && b2)) := hid (by rw [HE.out, decide_eq_true h4]; rfl)
    go_enter Tryz.func31, Tryz.ntmps31
    go_wp2_with fail
    refine HA.out.mono ?_
    rintro er w2 ⟨rfl, q2⟩
    have HB2 := hid q2
    clear q2
    cases b1
    · go_wp2_with fail
      go_ret
      exact ⟨by rw [HF.out]; rfl, HB2.out⟩
    · go_wp2_with fail
      refine (HL.out _ HB2.out).mono ?_
      rintro er w3 ⟨rfl, q3⟩
      have HB3 := hid (HB2.out.trans (q3.mono HB2.out.size))
      clear q3
      cases b2
      all_goals
        go_wp2_with fail
        go_ret
        exact ⟨by rw [HF.out]; rfl, HB3.out⟩
  · have h5 : ¬ (n : Int) ≤ 64 := by omega
    have HF : Hid (V = false) := hid (by rw [HE.out, decide_eq_false h4]; rfl)
    go_enter Tryz.func31, Tryz.ntmps31
    go_wp2_with fail
    go_ret
    exact ⟨by rw [HF.out]; rfl, Below.refl _ _⟩
open Classical in
set_option maxHeartbeats 8000000 in
theorem pmayCaveat_any {w : World} {Q : Nat → Prop} {ch : CH} {c : Cav} (a : CavAt w Q ch c) (hm : ch.rn ≤ 1000000000) :
    Calls Tryz.prog 74 #[.agg #[.int .i64 ch.kind, .slice ch.rA ch.rn ch.rc, .int .i64 ch.til, .string ch.aud]] w fun e w' => e = .returned (.bool (decide (OkCav c))) ∧ Below w.heap.size w w' := by
  have HRL := hid (fun W (hW : Below w.heap.size w W) => pmayRoles_any ch.rA c.roles ch.rn ch.rc a.rl hm W ((a.re.els.below hW).more hW.size))
  have HMY := hid (fun W => may_any ch.aud W)
  have HTK := hid (fun W => pisTick_any ch.til W)
  have hrl := a.rl
  obtain ⟨kind, rA, rn, rc, til, aud⟩ := ch
  obtain ⟨kind', roles, til', aud'⟩ := c
  obtain rfl : kind = kind' := a.kind
  obtain rfl : til = til' := a.til
  obtain rfl : aud = aud' := a.aud
  simp only at HRL HMY HTK hrl hm ⊢
  have HL := hid hrl
  obtain ⟨w1, hw1⟩ : ∃ y, y = w.alloc (.cells #[.int .i64 kind, .slice rA rn rc, .int .i64 til, .string aud] 51) := ⟨_, rfl⟩
  have HB1 : Hid (Below w.heap.size w w1) := hid (by rw [hw1]; exact (Below.refl _ _).alloc (Nat.le_refl _) _)
  have HR1 : Hid (ChAt w1 w.heap.size ⟨kind, rA, rn, rc, til, aud⟩) := hid (by rw [hw1]; exact ChAt.new w ⟨kind, rA, rn, rc, til, aud⟩)
  have HW1 := hid hw1
  have HRN : Hid (rn = 0 ↔ roles = []) := hid ⟨fun h => List.eq_nil_of_length_eq_zero (by omega), fun h => by rw [h] at hrl; exact hrl.symm⟩
  obtain ⟨c0, c1, c2, c3⟩ := HR1.out.all
  simp only at c0 c1 c2 c3
  clear a hrl hw1
  by_cases hk : kind = 1
  · subst hk
    have HR := hid (HRL.out w1 HB1.out)
    obtain ⟨b, hb⟩ : ∃ b, decide (Rolls roles) = b := ⟨_, rfl⟩
    have HBB : Hid (Rolls roles ↔ b = true) := hid (by rw [← hb]; exact decide_eq_true_iff.symm)
    rw [hb] at HR
    clear hb
    go_enter Tryz.func74, Tryz.ntmps74
    go_upto_region 1 with fail
    rw [← HW1.out]
    go_wp2_with fail
    refine HR.out.mono ?_
    rintro er w2 ⟨rfl, b2⟩
    obtain ⟨c0', c1', c2', c3'⟩ := (HR1.out.below b2).all
    have HB2 := hid (HB1.out.trans (b2.mono HB1.out.size))
    simp only at c0' c1' c2' c3'
    clear b2 c0 c1 c2 c3
    cases b
    · skip
      have HF := hid (ok_of (c := ⟨1, roles, til, aud⟩) (b := false) ⟨fun h => HBB.out.1 (okc1.1 h).1, fun h => by cases h⟩)
      go_wp2_with fail
      go_ret
      exact ⟨by rw [HF.out]; rfl, HB2.out⟩
    · by_cases ht : til = 0
      · subst ht
        by_cases ha : aud = E0
        · subst ha
          unfold E0 at c3'
          have HF := hid (ok_of (c := ⟨1, roles, 0, E0⟩) (b := true) ⟨fun _ => rfl, fun _ => okc1.2 ⟨HBB.out.2 rfl, rfl, rfl⟩⟩)
          go_wp2_with fail
          go_ret
          exact ⟨by rw [HF.out]; rfl, HB2.out⟩
        · obtain ⟨s1, s2, s3, s4⟩ := sne ha
          have HA := hid ha
          clear ha
          have HF := hid (ok_of (c := ⟨1, roles, 0, aud⟩) (b := false) ⟨fun h => absurd (okc1.1 h).2.2 HA.out, fun h => by cases h⟩)
          go_wp2_with fail
          go_ret
          exact ⟨by rw [HF.out]; rfl, HB2.out⟩
      · have ht1 : (til == 0) = false := beq_eq_false_iff_ne.2 ht
        have HT := hid ht
        clear ht
        have HF := hid (ok_of (c := ⟨1, roles, til, aud⟩) (b := false) ⟨fun h => absurd (okc1.1 h).2.1 HT.out, fun h => by cases h⟩)
        go_wp2_with fail
        go_ret
        exact ⟨by rw [HF.out]; rfl, HB2.out⟩
  have hk1 : (kind == 1) = false := beq_eq_false_iff_ne.2 hk
  by_cases hk2 : kind = 2
  · subst hk2
    have HR := hid (HTK.out w1)
    obtain ⟨b, hb⟩ : ∃ b, decide (0 ≤ til ∧ til ≤ 1099511627776) = b := ⟨_, rfl⟩
    have HBB : Hid ((0 ≤ til ∧ til ≤ 1099511627776) ↔ b = true) := hid (by rw [← hb]; exact decide_eq_true_iff.symm)
    rw [hb] at HR
    clear hb
    go_enter Tryz.func74, Tryz.ntmps74
    go_upto_region 1 with fail
    rw [← HW1.out]
    go_wp2_with fail
    refine HR.out.mono ?_
    rintro er w2 ⟨rfl, hw2⟩
    have hw3 : w1 = w2 := hw2
    subst hw3
    clear hw2
    cases b
    · skip
      have HF := hid (ok_of (c := ⟨2, roles, til, aud⟩) (b := false) ⟨fun h => HBB.out.1 (okc2.1 h).2.1, fun h => by cases h⟩)
      go_wp2_with fail
      go_ret
      exact ⟨by rw [HF.out]; rfl, HB1.out⟩
    · by_cases hr : rn = 0
      · have hr2 : roles = [] := HRN.out.1 hr
        have HR2 := hid hr2
        subst hr
        clear hr2
        by_cases ha : aud = E0
        · subst ha
          unfold E0 at c3
          have HF := hid (ok_of (c := ⟨2, roles, til, E0⟩) (b := true) ⟨fun _ => rfl, fun _ => okc2.2 ⟨HR2.out, HBB.out.2 rfl, rfl⟩⟩)
          go_wp2_with fail
          go_ret
          exact ⟨by rw [HF.out]; rfl, HB1.out⟩
        · obtain ⟨s1, s2, s3, s4⟩ := sne ha
          have HA := hid ha
          clear ha
          have HF := hid (ok_of (c := ⟨2, roles, til, aud⟩) (b := false) ⟨fun h => absurd (okc2.1 h).2.2 HA.out, fun h => by cases h⟩)
          go_wp2_with fail
          go_ret
          exact ⟨by rw [HF.out]; rfl, HB1.out⟩
      · have hr1 : ((rn : Int) == 0) = false := beq_eq_false_iff_ne.2 (by omega)
        have hr2 : (rn == 0) = false := beq_eq_false_iff_ne.2 hr
        have HR3 := hid hr
        clear hr
        have HF := hid (ok_of (c := ⟨2, roles, til, aud⟩) (b := false) ⟨fun h => HR3.out (HRN.out.2 (okc2.1 h).1) |>.elim, fun h => by cases h⟩)
        go_wp2_with fail
        go_ret
        exact ⟨by rw [HF.out]; rfl, HB1.out⟩
  have hk21 : (kind == 2) = false := beq_eq_false_iff_ne.2 hk2
  by_cases hk3 : kind = 3
  · subst hk3
    have HR := hid (HMY.out w1)
    obtain ⟨b, hb⟩ : ∃ b, mayL aud.data.toList = b := ⟨_, rfl⟩
    have HBB : Hid (mayB aud = b) := hid hb
    rw [hb] at HR
    clear hb
    go_enter Tryz.func74, Tryz.ntmps74
    go_upto_region 1 with fail
    rw [← HW1.out]
    go_wp2_with fail
    refine HR.out.mono ?_
    rintro er w2 ⟨rfl, b2⟩
    obtain ⟨c0', c1', c2', c3'⟩ := (HR1.out.below b2).all
    have HB2 := hid (HB1.out.trans (b2.mono HB1.out.size))
    simp only at c0' c1' c2' c3'
    clear b2 c0 c1 c2 c3
    cases b
    · skip
      have HF := hid (ok_of (c := ⟨3, roles, til, aud⟩) (b := false) ⟨fun h => HBB.out.symm.trans (okc3.1 h).2.2, fun h => by cases h⟩)
      go_wp2_with fail
      go_ret
      exact ⟨by rw [HF.out]; rfl, HB2.out⟩
    · by_cases hr : rn = 0
      · have hr2 : roles = [] := HRN.out.1 hr
        have HR2 := hid hr2
        subst hr
        clear hr2
        by_cases ht : til = 0
        · subst ht
          have HF := hid (ok_of (c := ⟨3, roles, 0, aud⟩) (b := true) ⟨fun _ => rfl, fun _ => okc3.2 ⟨HR2.out, rfl, HBB.out⟩⟩)
          go_wp2_with fail
          go_ret
          exact ⟨by rw [HF.out]; rfl, HB2.out⟩
        · have ht1 : (til == 0) = false := beq_eq_false_iff_ne.2 ht
          have HT := hid ht
          clear ht
          have HF := hid (ok_of (c := ⟨3, roles, til, aud⟩) (b := false) ⟨fun h => absurd (okc3.1 h).2.1 HT.out, fun h => by cases h⟩)
          go_wp2_with fail
          go_ret
          exact ⟨by rw [HF.out]; rfl, HB2.out⟩
      · have hr1 : ((rn : Int) == 0) = false := beq_eq_false_iff_ne.2 (by omega)
        have hr2 : (rn == 0) = false := beq_eq_false_iff_ne.2 hr
        have HR3 := hid hr
        clear hr
        have HF := hid (ok_of (c := ⟨3, roles, til, aud⟩) (b := false) ⟨fun h => HR3.out (HRN.out.2 (okc3.1 h).1) |>.elim, fun h => by cases h⟩)
        go_wp2_with fail
        go_ret
        exact ⟨by rw [HF.out]; rfl, HB2.out⟩
  have hk31 : (kind == 3) = false := beq_eq_false_iff_ne.2 hk3
  have HF := hid (ok_of (c := ⟨kind, roles, til, aud⟩) (b := false) ⟨fun h => absurd h (okcX hk hk2 hk3), fun h => by cases h⟩)
  go_enter Tryz.func74, Tryz.ntmps74
  go_upto_region 1 with fail
  rw [← HW1.out]
  go_wp2_with fail
  go_ret
  exact ⟨by rw [HF.out]; rfl, HB1.out⟩
open Classical in
noncomputable def okN (l : List Cav) (j : Nat) : Bool := atN (fun c => decide (OkCav c)) l j
open Classical in
theorem okN_iff (l : List Cav) : allN (okN l) l.length = true ↔ ∀ c ∈ l, OkCav c := by
  unfold okN
  rw [show allN (fun j => atN (fun c => decide (OkCav c)) l j) l.length = allN (atN (fun c => decide (OkCav c)) l) l.length from rfl, atN_iff]
  exact ⟨fun h c hc => of_decide_eq_true (h c hc), fun h c hc => decide_eq_true (h c hc)⟩
open Classical in
set_option maxHeartbeats 4000000 in
theorem pmayCaveats_any {w : World} {Q : Nat → Prop} (A : Option Addr) (l : List Cav) (n c : Nat) (hn : l.length = n) (hm : n ≤ 1000000000) (h : CavsQ w Q A l) (hr : ∀ x ∈ l, x.roles.length ≤ 1000000000) :
    Calls Tryz.prog 32 #[.slice A n c] w fun e w' => e = .returned (.bool (decide (l.length ≤ 6 ∧ ∀ c ∈ l, OkCav c))) ∧ Below w.heap.size w w' := by
  have HE : Hid (decide (l.length ≤ 6 ∧ ∀ c ∈ l, OkCav c) = (decide (n ≤ 6) && allN (okN l) n)) := hid (by
    rw [← hn, Bool.eq_iff_iff, decide_eq_true_eq, Bool.and_eq_true, decide_eq_true_eq, okN_iff])
  obtain ⟨hs, h1, h2, h3⟩ := h
  have HA := hid (pallC1_any A hs n c (h1.trans hn) hm w h2.els (okN l) (fun j x hx W hW => by
    obtain ⟨cv, hcv⟩ : ∃ y, l[j]? = some y := ⟨_, List.getElem?_eq_getElem (by rw [← h1]; exact (List.getElem?_eq_some_iff.1 hx).1)⟩
    have e : okN l j = decide (OkCav cv) := atN_at hcv
    rw [e]
    have ha := (h3 j x cv hx hcv).kept (fun b _ hl => hW.block b hl) hW.size
    exact pmayCaveat_any ha (by rw [← ha.rl]; exact hr cv (List.mem_of_getElem? hcv))))
  obtain ⟨V, hV⟩ : ∃ b, decide (l.length ≤ 6 ∧ ∀ c ∈ l, OkCav c) = b := ⟨_, rfl⟩
  rw [hV] at HE ⊢
  obtain ⟨b1, e1⟩ : ∃ b, allN (okN l) n = b := ⟨_, rfl⟩
  rw [e1] at HA HE
  clear e1 hV hn hr h1 h2 h3
  by_cases h4 : n ≤ 6
  · have h5 : (n : Int) ≤ 6 := by omega
    have HF : Hid (V = b1) := hid (by rw [HE.out, decide_eq_true h4]; rfl)
    go_enter Tryz.func32, Tryz.ntmps32
    go_wp2_with fail
    refine HA.out.mono ?_
    rintro er w2 ⟨rfl, q2⟩
    have HB2 := hid q2
    clear q2
    cases b1
    all_goals
      go_wp2_with fail
      go_ret
      exact ⟨by rw [HF.out]; rfl, HB2.out⟩
  · have h5 : ¬ (n : Int) ≤ 6 := by omega
    have HF : Hid (V = false) := hid (by rw [HE.out, decide_eq_false h4]; rfl)
    go_enter Tryz.func32, Tryz.ntmps32
    go_wp2_with fail
    go_ret
    exact ⟨by rw [HF.out]; rfl, Below.refl _ _⟩
open Classical in
theorem tok_parts (t : Tok) : decide (OkTok t) = ((decide (1 ≤ t.d ∧ t.d ≤ 16) && (decide (1 ≤ t.e ∧ t.e ≤ 1000) && decide (1 ≤ t.n ∧ t.n ≤ 1099511627776))) && (mayL t.who.data.toList && (decide (0 < t.roles.length) && (decide (Rolls t.roles) && (decide (0 ≤ t.til ∧ t.til ≤ 1099511627776) && (decide (t.sup.length ≤ 64 ∧ Ids t.sup) && (decide (t.cavs.length ≤ 6 ∧ ∀ c ∈ t.cavs, OkCav c) && decide (t.tag.length = 32)))))))) := by
  rw [Bool.eq_iff_iff]
  simp only [Bool.and_eq_true, decide_eq_true_eq]
  constructor
  · intro h
    exact ⟨⟨h.d, h.e, h.n⟩, h.who, List.length_pos_iff.2 h.some_, h.roles, h.til, ⟨h.sl, h.sup⟩, ⟨h.cl, h.cavs⟩, h.tl⟩
  · rintro ⟨⟨h1, h2, h3⟩, h4, h5, h6, h7, ⟨h8, h9⟩, ⟨h10, h11⟩, h12⟩
    exact ⟨h1, h2, h3, h7, h4, h6, List.length_pos_iff.1 h5, h8, h10, h12, h9, h11⟩
open Classical in
set_option maxHeartbeats 16000000 in
theorem pMayW_any {w : World} {Q : Nat → Prop} {th : TH} {t : Tok} (a : TokAt w Q th t) (hr : th.rn ≤ 1000000000) (hs : th.sn ≤ 1000000000) (hc : th.cn ≤ 1000000000) (hcr : ∀ c ∈ t.cavs, c.roles.length ≤ 1000000000) :
    Calls Tryz.prog 10 #[.agg #[.int .i64 th.d, .int .i64 th.e, .int .i64 th.n, .string th.who, .slice th.rA th.rn th.rc, .int .i64 th.til, .slice th.sA th.sn th.sc, .slice th.cA th.cn th.cc, .slice th.tA th.tn th.tc]] w fun er w' => er = .returned (.bool (decide (OkTok t))) ∧ Below w.heap.size w w' := by
  have HE := hid (tok_parts t)
  rw [a.rl, a.tl, ← a.d, ← a.e, ← a.n, ← a.til, ← a.who] at HE
  have H1 := hid (fun W => pwithin_any th.d 1 16 W)
  have H2 := hid (fun W => pwithin_any th.e 1 1000 W)
  have H3 := hid (fun W => pwithin_any th.n 1 1099511627776 W)
  have H4 := hid (fun W => may_any th.who W)
  have H6 := hid (fun W (hW : Below w.heap.size w W) => pmayRoles_any th.rA t.roles th.rn th.rc a.rl hr W ((a.re.els.below hW).more hW.size))
  have H7 := hid (fun W => pisTick_any th.til W)
  have H8 := hid (fun W (hW : Below w.heap.size w W) => pmaySupport_any th.sA t.sup th.sn th.sc a.sl hs W ((a.se.els.below hW).more hW.size))
  have H9 := hid (fun W (hW : Below w.heap.size w W) => pmayCaveats_any th.cA t.cavs th.cn th.cc a.cl hc (a.ce.below hW) hcr)
  obtain ⟨V, hV⟩ : ∃ b, decide (OkTok t) = b := ⟨_, rfl⟩
  rw [hV] at HE ⊢
  obtain ⟨b1, e1⟩ : ∃ b, decide (1 ≤ th.d ∧ th.d ≤ 16) = b := ⟨_, rfl⟩
  obtain ⟨b2, e2⟩ : ∃ b, decide (1 ≤ th.e ∧ th.e ≤ 1000) = b := ⟨_, rfl⟩
  obtain ⟨b3, e3⟩ : ∃ b, decide (1 ≤ th.n ∧ th.n ≤ 1099511627776) = b := ⟨_, rfl⟩
  obtain ⟨b4, e4⟩ : ∃ b, mayL th.who.data.toList = b := ⟨_, rfl⟩
  obtain ⟨b6, e6⟩ : ∃ b, decide (Rolls t.roles) = b := ⟨_, rfl⟩
  obtain ⟨b7, e7⟩ : ∃ b, decide (0 ≤ th.til ∧ th.til ≤ 1099511627776) = b := ⟨_, rfl⟩
  obtain ⟨b8, e8⟩ : ∃ b, decide (t.sup.length ≤ 64 ∧ Ids t.sup) = b := ⟨_, rfl⟩
  obtain ⟨b9, e9⟩ : ∃ b, decide (t.cavs.length ≤ 6 ∧ ∀ c ∈ t.cavs, OkCav c) = b := ⟨_, rfl⟩
  rw [e1] at H1
  rw [e2] at H2
  rw [e3] at H3
  rw [e4] at H4
  rw [e6] at H6
  rw [e7] at H7
  rw [e8] at H8
  rw [e9] at H9
  rw [e1, e2, e3, e4, e6, e7, e8, e9] at HE
  clear e1 e2 e3 e4 e6 e7 e8 e9 hV a hcr
  obtain ⟨d, e, m, who, rA, rn, rc, til, sA, sn, sc, cA, cn, cc, tA, tn, tc⟩ := th
  simp only at H1 H2 H3 H4 H6 H7 H8 H9 HE ⊢
  obtain ⟨w1, hw1⟩ : ∃ y, y = w.alloc (.cells #[.int .i64 d, .int .i64 e, .int .i64 m, .string who, .slice rA rn rc, .int .i64 til, .slice sA sn sc, .slice cA cn cc, .slice tA tn tc] 27) := ⟨_, rfl⟩
  have HB1 : Hid (Below w.heap.size w w1) := hid (by rw [hw1]; exact (Below.refl _ _).alloc (Nat.le_refl _) _)
  have HX1 : Hid (ThAt w1 w.heap.size ⟨d, e, m, who, rA, rn, rc, til, sA, sn, sc, cA, cn, cc, tA, tn, tc⟩) := hid (by rw [hw1]; exact ThAt.new w ⟨d, e, m, who, rA, rn, rc, til, sA, sn, sc, cA, cn, cc, tA, tn, tc⟩)
  have HW1 := hid hw1
  obtain ⟨c0, c1, c2, c3, c4, c5, c6, c7, c8⟩ := HX1.out.all
  simp only at c0 c1 c2 c3 c4 c5 c6 c7 c8
  clear hw1
  go_enter Tryz.func10, Tryz.ntmps10
  go_upto_region 1 with fail
  rw [← HW1.out]
  go_wp2_with fail
  refine (H1.out _).mono ?_
  rintro er wq ⟨rfl, hwq⟩
  subst hwq
  cases b1
  · skip
    have HF : Hid (V = false) := hid (by rw [HE.out]; simp)
    go_wp2_with fail
    go_ret
    exact ⟨by rw [HF.out]; rfl, HB1.out⟩
  go_wp2_with fail
  refine (H2.out _).mono ?_
  rintro er wq ⟨rfl, hwq⟩
  subst hwq
  cases b2
  · skip
    have HF : Hid (V = false) := hid (by rw [HE.out]; simp)
    go_wp2_with fail
    go_ret
    exact ⟨by rw [HF.out]; rfl, HB1.out⟩
  go_wp2_with fail
  refine (H3.out _).mono ?_
  rintro er wq ⟨rfl, hwq⟩
  subst hwq
  cases b3
  · skip
    have HF : Hid (V = false) := hid (by rw [HE.out]; simp)
    go_wp2_with fail
    go_ret
    exact ⟨by rw [HF.out]; rfl, HB1.out⟩
  go_wp2_with fail
  refine (H4.out _).mono ?_
  rintro er w2 ⟨rfl, q⟩
  have HX2 := hid (HX1.out.below q)
  have HB2 := hid (HB1.out.trans (q.mono HB1.out.size))
  clear q c0 c1 c2 c3 c4 c5 c6 c7 c8
  obtain ⟨c0, c1, c2, c3, c4, c5, c6, c7, c8⟩ := HX2.out.all
  simp only at c0 c1 c2 c3 c4 c5 c6 c7 c8
  cases b4
  · skip
    have HF : Hid (V = false) := hid (by rw [HE.out]; simp)
    go_wp2_with fail
    go_ret
    exact ⟨by rw [HF.out]; rfl, HB2.out⟩
  rcases Nat.eq_zero_or_pos rn with h5 | h5
  · have h5i : ¬ (0 : Int) < (rn : Int) := by omega
    have h5d : decide (0 < rn) = false := decide_eq_false (by omega)
    rw [h5d] at HE
    have HF : Hid (V = false) := hid (by rw [HE.out]; simp)
    go_wp2_with fail
    go_ret
    exact ⟨by rw [HF.out]; rfl, HB2.out⟩
  have h5i : (0 : Int) < (rn : Int) := by omega
  rw [decide_eq_true h5] at HE
  go_wp2_with fail
  refine (H6.out _ HB2.out).mono ?_
  rintro er w3 ⟨rfl, q⟩
  have HX3 := hid (HX2.out.below q)
  have HB3 := hid (HB2.out.trans (q.mono HB2.out.size))
  clear q c0 c1 c2 c3 c4 c5 c6 c7 c8
  obtain ⟨c0, c1, c2, c3, c4, c5, c6, c7, c8⟩ := HX3.out.all
  simp only at c0 c1 c2 c3 c4 c5 c6 c7 c8
  cases b6
  · skip
    have HF : Hid (V = false) := hid (by rw [HE.out]; simp)
    go_wp2_with fail
    go_ret
    exact ⟨by rw [HF.out]; rfl, HB3.out⟩
  go_wp2_with fail
  refine (H7.out _).mono ?_
  rintro er wq ⟨rfl, hwq⟩
  subst hwq
  cases b7
  · skip
    have HF : Hid (V = false) := hid (by rw [HE.out]; simp)
    go_wp2_with fail
    go_ret
    exact ⟨by rw [HF.out]; rfl, HB3.out⟩
  go_wp2_with fail
  refine (H8.out _ HB3.out).mono ?_
  rintro er w4 ⟨rfl, q⟩
  have HX4 := hid (HX3.out.below q)
  have HB4 := hid (HB3.out.trans (q.mono HB3.out.size))
  clear q c0 c1 c2 c3 c4 c5 c6 c7 c8
  obtain ⟨c0, c1, c2, c3, c4, c5, c6, c7, c8⟩ := HX4.out.all
  simp only at c0 c1 c2 c3 c4 c5 c6 c7 c8
  cases b8
  · skip
    have HF : Hid (V = false) := hid (by rw [HE.out]; simp)
    go_wp2_with fail
    go_ret
    exact ⟨by rw [HF.out]; rfl, HB4.out⟩
  go_wp2_with fail
  refine (H9.out _ HB4.out).mono ?_
  rintro er w5 ⟨rfl, q⟩
  have HX5 := hid (HX4.out.below q)
  have HB5 := hid (HB4.out.trans (q.mono HB4.out.size))
  clear q c0 c1 c2 c3 c4 c5 c6 c7 c8
  obtain ⟨c0, c1, c2, c3, c4, c5, c6, c7, c8⟩ := HX5.out.all
  simp only at c0 c1 c2 c3 c4 c5 c6 c7 c8
  cases b9
  · skip
    have HF : Hid (V = false) := hid (by rw [HE.out]; simp)
    go_wp2_with fail
    go_ret
    exact ⟨by rw [HF.out]; rfl, HB5.out⟩
  by_cases h10 : tn = 32
  · have h10i : ((tn : Int) == 32) = true := by simp [h10]
    have h10n : (tn == 32) = true := by simp [h10]
    have HF : Hid (V = true) := hid (by rw [HE.out, decide_eq_true h10]; rfl)
    go_wp2_with fail
    go_ret
    exact ⟨by rw [HF.out]; rfl, HB5.out⟩
  · have h10i : ((tn : Int) == 32) = false := beq_eq_false_iff_ne.2 (by omega)
    have h10n : (tn == 32) = false := beq_eq_false_iff_ne.2 h10
    have HF : Hid (V = false) := hid (by rw [HE.out, decide_eq_false h10]; rfl)
    go_wp2_with fail
    go_ret
    exact ⟨by rw [HF.out]; rfl, HB5.out⟩
open Classical in
theorem pMay12_any {w : World} {Q : Nat → Prop} {th : TH} {t : Tok} (a : TokAt w Q th t) (hf : FewTok t) :
    Calls Tryz.prog 10 #[.agg #[.int .i64 th.d, .int .i64 th.e, .int .i64 th.n, .string th.who, .slice th.rA th.rn th.rc, .int .i64 th.til, .slice th.sA th.sn th.sc, .slice th.cA th.cn th.cc, .slice th.tA th.tn th.tc]] w fun er w' => er = .returned (.bool (decide (OkTok t))) ∧ Below w.heap.size w w' :=
  pMayW_any a (by have := a.rl; have := hf.r; omega) (by have := a.sl; have := hf.s; omega) (by have := a.cl; have := hf.n; omega) (fun c hc => by have := hf.c c hc; omega)
end Go.Proofs.YtaadmgbmaekicaaGreatDoor.Sh
