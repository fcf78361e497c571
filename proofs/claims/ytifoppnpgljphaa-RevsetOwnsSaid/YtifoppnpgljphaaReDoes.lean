/-
  A deed done to both sets: does, by contract.
-/
import Derived.Test.YtifoppnpgljphaaReCut
import Derived.Test.YtifoppnpgljphaaRePg
namespace Go.Proofs.Ytifoppnpgljphaa.Sh
open Go Go.RowKit

set_option linter.unusedSimpArgs false
set_option linter.unusedVariables false
/-- The program's set and the document's, both S, each in blocks of its own. -/
structure BothX (w : World) (P R : Nat → Prop) (gs g gL : Nat) (S : Nat → List Int) : Prop where
  s : SetP w P gs S
  r : SetR w R g gL S
  n1 : gs ≠ g
  n2 : gs ≠ gL
  dis : ∀ b, P b → ¬ R b
  pg : ¬ P g
  pL : ¬ P gL
  rs : ¬ R gs
theorem BothX.below {w w' : World} {P R : Nat → Prop} {gs g gL : Nat} {S : Nat → List Int} (h : BothX w P R gs g gL S) (hb : Below w.heap.size w w') : BothX w' P R gs g gL S := ⟨h.s.below hb, h.r.below hb, h.n1, h.n2, h.dis, h.pg, h.pL, h.rs⟩
theorem BothX.grew {w w' : World} {P R X : Nat → Prop} {gs g gL : Nat} {S : Nat → List Int} (h : BothX w P R gs g gL S) (hg : Grew w w' X) (hx : ∀ b, X b → ¬ P b ∧ ¬ R b ∧ b ≠ gs ∧ b ≠ g ∧ b ≠ gL) : BothX w' P R gs g gL S :=
  ⟨h.s.grew hg (fun b hb => ⟨(hx b hb).1, (hx b hb).2.2.1⟩), h.r.grew hg (fun b hb => ⟨(hx b hb).2.1, (hx b hb).2.2.2.1, (hx b hb).2.2.2.2⟩), h.n1, h.n2, h.dis, h.pg, h.pL, h.rs⟩
theorem BothX.lt {w : World} {P R : Nat → Prop} {gs g gL : Nat} {S : Nat → List Int} (h : BothX w P R gs g gL S) : gs < w.heap.size ∧ g < w.heap.size ∧ gL < w.heap.size := ⟨h.s.lt, h.r.lt.1, h.r.lt.2⟩
/-- What the program's set owns now, the document's not. -/
theorem BothX.turnS {w w' : World} {P R : Nat → Prop} {gs g gL : Nat} {S T : Nat → List Int} (h : BothX w P R gs g gL S) (hR : ∀ b, R b → b < w.heap.size) (hs : SetP w' (upTo P w.heap.size w'.heap.size) gs T) (hg : Grew w w' (fun b => b = gs ∨ P b)) : SetR w' R g gL S :=
  h.r.grew hg (fun b hb => by
    rcases hb with e | hp
    · subst e; exact ⟨h.rs, h.n1, h.n2⟩
    · exact ⟨h.dis b hp, fun e => h.pg (e ▸ hp), fun e => h.pL (e ▸ hp)⟩)
theorem DeedAt.low {w : World} {Q : Nat → Prop} {h : DH} {x : Deed} (a : DeedAt w Q h x) : DeedAt w (fun b => Q b ∧ b < w.heap.size) h x := a.imp fun b q hb => ⟨q, hb⟩
theorem deedS_m {S : Nat → List Int} {x : Deed} (h : x.kind = 1) : deedS S x = mergeS S x.known x.more 16 := if_pos h
theorem deedS_a {S : Nat → List Int} {x : Deed} (h : ¬ x.kind = 1) : deedS S x = addS S x.d x.q := if_neg h
theorem upTo_imp {P : Nat → Prop} {n m b : Nat} (h : upTo P n m b) : (P b ∧ b < n) ∨ (n ≤ b ∧ b < m) := h
set_option maxHeartbeats 16000000 in
theorem does_any {w : World} {P R Q : Nat → Prop} {gs g gL : Nat} {S : Nat → List Int} (hb : BothX w P R gs g gL S) (hPR : ∀ b, P b ∨ R b → b < w.heap.size) {dh : DH} {x : Deed} (a : DeedAt w Q dh x) (hq : ∀ b, Q b → b < w.heap.size → ¬ P b ∧ b ≠ gs ∧ b ≠ gL) :
    Calls Try.prog 10 #[.pointer (some ⟨gs, 0, none⟩), .pointer (some ⟨g, 0, none⟩), .agg #[.int .i64 dh.kind, .int .i64 dh.d, .int .i64 dh.q, .slice dh.kA dh.kn dh.kc, .slice dh.mA dh.mn dh.mc]] w fun e w' => e = .returned (.bool true) ∧ (∃ P' R' : Nat → Prop, BothX w' P' R' gs g gL (deedS S (cutD x)) ∧ ∀ b, P' b ∨ R' b → ((P b ∨ R b) ∧ b < w.heap.size) ∨ (w.heap.size ≤ b ∧ b < w'.heap.size)) ∧ Grew w w' (fun b => b = gs ∨ b = gL ∨ P b) := by
  obtain ⟨kd, d, q, kA, kn, kc, mA, mn, mc⟩ := dh
  simp only
  have hlt := hb.lt
  obtain ⟨w1, hw1⟩ : ∃ y, y = w.alloc (.cells #[.int .i64 kd, .int .i64 d, .int .i64 q, .slice kA kn kc, .slice mA mn mc] 33) := ⟨_, rfl⟩
  have HB1 : Hid (Below w.heap.size w w1) := hid (by rw [hw1]; exact (Below.refl w.heap.size w).alloc (Nat.le_refl _) _)
  have HD1 : Hid (DhAt w1 w.heap.size ⟨kd, d, q, kA, kn, kc, mA, mn, mc⟩) := hid (by rw [hw1]; exact DhAt.new w ⟨kd, d, q, kA, kn, kc, mA, mn, mc⟩)
  have HS1 : Hid (w1.heap.size = w.heap.size + 1) := hid (by rw [hw1]; simp)
  have HC := hid (cut_any (a.low.grew (X := fun _ => False) (Grew.of_below (by rw [hw1]; exact (Below.refl w.heap.size w).alloc (Nat.le_refl _) _) : Grew w w1 _) (fun _ _ h => h)))
  simp only at HC
  have HW1 := hid hw1
  have HBO := hid hb
  have HPR := hid hPR
  have HQ := hid hq
  have HLT := hid hlt
  obtain ⟨d0, d1, d2, d3, d4⟩ := HD1.out.all
  simp only at d0 d1 d2 d3 d4
  clear hb hPR a hq hlt hw1
  go_enter Try.func10, Try.ntmps10
  go_upto_region 1 with fail
  rw [← HW1.out]
  go_wp2_with fail
  refine HC.out.mono ?_
  rintro er w2 ⟨dh', rfl, a2, b2⟩
  have hD2 := HD1.out.below b2
  have hfc := hD2.all
  have hf0 := hD2.f 0
  have hf1 := hD2.f 1
  have hf2 := hD2.f 2
  have hf3 := hD2.f 3
  have hf4 := hD2.f 4
  obtain ⟨y0, y1, y2, y3, y4⟩ := hfc
  simp only at y0 y1 y2 y3 y4
  obtain ⟨ke, de, qe, kAe, kne, kce, mAe, mne, mce⟩ := dh'
  simp only
  obtain ⟨w3, hw3⟩ : ∃ y, y = ((((w2.setCell ⟨w.heap.size, 0, none⟩ (.int .i64 ke)).setCell ⟨w.heap.size, 1, none⟩ (.int .i64 de)).setCell ⟨w.heap.size, 2, none⟩ (.int .i64 qe)).setCell ⟨w.heap.size, 3, none⟩ (.slice kAe kne kce)).setCell ⟨w.heap.size, 4, none⟩ (.slice mAe mne mce) := ⟨_, rfl⟩
  have HD3 : Hid (DhAt w3 w.heap.size ⟨ke, de, qe, kAe, kne, kce, mAe, mne, mce⟩) := hid (by rw [hw3]; exact five_set hD2 _ _ _ _ _)
  have hg3 : Grew w2 w3 (fun b => b = w.heap.size) := by rw [hw3]; exact Grew.of_gro (five_gro w2 w.heap.size _ _ _ _ _) rfl
  have HB3 : Hid (Below w.heap.size w w3) := hid (Grew.then_below (HB1.out.trans (b2.mono HB1.out.size)) hg3 (by have := b2.size; have := HS1.out; omega) (fun b hb => by omega))
  have HA3 := hid (a2.grew hg3 (fun b hb he => by subst he; have := HS1.out; rcases hb with h | h <;> omega))
  have HBO3 := hid (HBO.out.below HB3.out)
  have HW3 := hid hw3
  clear hw3 hg3 a2 b2 hD2
  have hkl := HA3.out.kl
  have hml := HA3.out.ml
  have hk := HA3.out.kind
  have hdd := HA3.out.d
  have hqq := HA3.out.q
  have hmle := cutL_len x.more
  simp only at hkl hml hk hdd hqq
  have hmn : mne ≤ 20 := by rw [← hml]; exact hmle
  have hkn : kne ≤ 20 := by rw [← hkl]; simp [cutD]; omega
  have HKL := hid hkl
  have HML := hid hml
  -- what a step of either set may turn
  have hX1 : Hid (∀ b, ((Q b ∧ b < w.heap.size) ∨ w1.heap.size ≤ b) → b < w3.heap.size → ¬ (b = gs ∨ P b) ∧ ¬ b = gL) := hid (fun b hb _ => by
    have hl := HLT.out
    have h1 := HS1.out
    rcases hb with ⟨h2, h3⟩ | h2
    · obtain ⟨q1, q2, q3⟩ := HQ.out b h2 h3
      exact ⟨fun h => h.elim q2 q1, q3⟩
    · exact ⟨fun h => h.elim (fun e => by omega) (fun hp => by have := HPR.out b (.inl hp); omega), by omega⟩)
  have HCELL : Hid (∀ W, Grew w3 W (fun b => b = gs ∨ b = gL ∨ P b) → DhAt W w.heap.size ⟨ke, de, qe, kAe, kne, kce, mAe, mne, mce⟩) := hid (fun W hW => HD3.out.grew hW (by
    have hl := HLT.out
    rintro (h | h | h)
    · omega
    · omega
    · have := HPR.out _ (.inl h); omega))
  have HD0 : Hid (Grew w3 w3.drew (fun b => b = gs ∨ b = gL ∨ P b)) := hid (Grew.of_below (Below.refl w3.heap.size w3).drew)
  have hGB : Hid (∀ W, Grew w3 W (fun b => b = gs ∨ b = gL ∨ P b) → Grew w W (fun b => b = gs ∨ b = gL ∨ P b)) := hid (fun W h => (Grew.of_below HB3.out).trans h)
  -- the end: the two steps, one after the other
  have HEND : Hid (∀ (T : Nat → List Int) (W w8 w11 : World), Below w3.heap.size w3 W → SetP w8 (upTo P W.heap.size w8.heap.size) gs T → Grew W w8 (fun b => b = gs ∨ P b) → SetR w11 (upTo R w8.heap.size w11.heap.size) g gL T → Grew w8 w11 (fun b => b = gL) →
      (∃ P' R' : Nat → Prop, BothX w11 P' R' gs g gL T ∧ ∀ b, P' b ∨ R' b → ((P b ∨ R b) ∧ b < w.heap.size) ∨ (w.heap.size ≤ b ∧ b < w11.heap.size)) ∧ Grew w w11 (fun b => b = gs ∨ b = gL ∨ P b)) := hid (fun T W w8 w11 hW hs8 hg8 hr11 hg11 => by
    have hl := HLT.out
    have s3 := HB3.out.size
    have sW := hW.size
    have s8 := hg8.size
    have s11 := hg11.size
    have hbo := HBO.out
    refine ⟨⟨upTo P W.heap.size w8.heap.size, upTo R w8.heap.size w11.heap.size, ⟨hs8.grew hg11 (fun b hb => ?_), hr11, hbo.n1, hbo.n2, fun b hp hr => ?_, fun hp => ?_, fun hp => ?_, fun hr => ?_⟩, fun b hb => ?_⟩, hGB.out _ ((Grew.of_below hW).trans ((hg8.mono (fun b _ hb => hb.elim .inl (fun h => .inr (.inr h)))).trans (hg11.mono (fun b _ hb => .inr (.inl hb)))))⟩
    · subst hb
      exact ⟨fun hp => hp.elim (fun h => hbo.pL h.1) (fun h => by omega), fun e => hbo.n2 e.symm⟩
    · rcases hp with ⟨h1, h2⟩ | ⟨h1, h2⟩
      · rcases hr with ⟨h3, h4⟩ | ⟨h3, h4⟩
        · exact hbo.dis b h1 h3
        · omega
      · rcases hr with ⟨h3, h4⟩ | ⟨h3, h4⟩
        · have := HPR.out b (.inr h3); omega
        · omega
    · exact hp.elim (fun h => hbo.pg h.1) (fun h => by omega)
    · exact hp.elim (fun h => hbo.pL h.1) (fun h => by omega)
    · exact hr.elim (fun h => hbo.rs h.1) (fun h => by omega)
    · rcases hb with hp | hr
      · rcases hp with ⟨h1, h2⟩ | ⟨h1, h2⟩
        · exact .inl ⟨.inl h1, HPR.out b (.inl h1)⟩
        · exact .inr ⟨by omega, by omega⟩
      · rcases hr with ⟨h1, h2⟩ | ⟨h1, h2⟩
        · exact .inl ⟨.inr h1, HPR.out b (.inr h1)⟩
        · exact .inr ⟨by omega, by omega⟩)
  have HRB : Hid (∀ b, R b → b < w3.heap.size) := hid (fun b hb => Nat.lt_of_lt_of_le (HPR.out b (.inr hb)) HB3.out.size)
  obtain ⟨x0, x1, x2, x3, x4⟩ := HD3.out.all
  simp only at x0 x1 x2 x3 x4
  have HDD := hid hdd
  have HQQ := hid hqq
  clear hkl hml hmle hdd hqq
  have HNQ1 : Hid (¬ ((Q gs ∧ gs < w.heap.size) ∨ w1.heap.size ≤ gs)) := hid (fun h => by
    have hl := HLT.out; have := HS1.out
    rcases h with ⟨h1, h2⟩ | h1
    · exact (HQ.out gs h1 h2).2.1 rfl
    · omega)
  have HNQ2 : Hid (¬ ((Q gL ∧ gL < w.heap.size) ∨ w1.heap.size ≤ gL)) := hid (fun h => by
    have hl := HLT.out; have := HS1.out
    rcases h with ⟨h1, h2⟩ | h1
    · exact (HQ.out gL h1 h2).2.2 rfl
    · omega)
  have HA4 : Hid (∀ W X, Grew w3 W X → (∀ b, X b → b = gs ∨ b = gL ∨ P b) → DeedAt W (fun b => (Q b ∧ b < w.heap.size) ∨ w1.heap.size ≤ b) ⟨ke, de, qe, kAe, kne, kce, mAe, mne, mce⟩ (cutD x)) := hid (fun W X hW hX => by
    have hm : Grew w3 W (fun b => (b = gs ∨ b = gL ∨ P b) ∧ b < w3.heap.size) := hW.mono (fun b hb hx => ⟨hX b hx, hb⟩)
    exact HA3.out.grew hm (fun b hb hx => by
      obtain ⟨q1, q2⟩ := hX1.out b hb hx.2
      rcases hx.1 with e | e | e
      · exact q1 (.inl e)
      · exact q2 e
      · exact q1 (.inr e)))
  by_cases hk1 : ke = 1
  · subst hk1
    have HDE : Hid (deedS S (cutD x) = mergeS S (cutD x).known (cutD x).more 16) := hid (deedS_m hk.symm)
    have HMS : Hid (∀ W, Below w3.heap.size w3 W → Calls Try.prog 20 #[.pointer (some ⟨gs, 0, none⟩), .slice kAe kne kce, .slice mAe mne mce] W fun e w' => e = .returned (.int .i64 (mergeN S (cutD x).known (cutD x).more 16 : Nat)) ∧ SetP w' (upTo P W.heap.size w'.heap.size) gs (mergeS S (cutD x).known (cutD x).more 16) ∧ Grew W w' (fun b => b = gs ∨ P b)) := hid (fun W hW => by
      have hA := HA4.out W (fun _ => False) (Grew.of_below hW) (fun _ h => h.elim)
      exact mergeX_any (HBO3.out.s.below hW) HNQ1.out kAe (cutD x).known kne kce HKL.out (by omega) hA.ke mAe (cutD x).more mne mce HML.out (by omega) (fun l hl => by have := cutL_mem l hl; omega) hA.mw hA.me)
    have HMR : Hid (∀ W w8 T, Below w3.heap.size w3 W → SetP w8 (upTo P W.heap.size w8.heap.size) gs T → Grew W w8 (fun b => b = gs ∨ P b) → Calls Try.prog 28 #[.pointer (some ⟨g, 0, none⟩), .slice kAe kne kce, .slice mAe mne mce] w8 fun e w' => e = .returned (.int .i64 (mergeN S (cutD x).known (cutD x).more 16 : Nat)) ∧ SetR w' (upTo R w8.heap.size w'.heap.size) g gL (mergeS S (cutD x).known (cutD x).more 16) ∧ Grew w8 w' (fun b => b = gL)) := hid (fun W w8 T hW hs8 hg8 => by
      have hA := HA4.out w8 (fun b => b = gs ∨ P b) ((Grew.of_below hW).trans hg8) (fun b h => h.elim .inl (fun h => .inr (.inr h)))
      exact refMergeX_any (BothX.turnS (HBO3.out.below hW) (fun b hb => Nat.lt_of_lt_of_le (HRB.out b hb) hW.size) hs8 hg8) HNQ2.out kAe (cutD x).known kne kce HKL.out (by omega) hA.ke mAe (cutD x).more mne mce HML.out (by omega) hA.me)
    obtain ⟨N, hN⟩ : ∃ N, mergeN S (cutD x).known (cutD x).more 16 = N := ⟨_, rfl⟩
    rw [hN] at HMS HMR
    obtain ⟨S', hS'⟩ : ∃ S', mergeS S (cutD x).known (cutD x).more 16 = S' := ⟨_, rfl⟩
    rw [hS'] at HMS HMR HDE
    have HKS : Hid (∀ W, Grew w3 W (fun b => b = gs ∨ b = gL ∨ P b) → W.cell? ⟨w.heap.size, 3, none⟩ = some (.slice kAe kne kce) ∧ W.cell? ⟨w.heap.size, 4, none⟩ = some (.slice mAe mne mce)) := hid (fun W hW => by
      obtain ⟨_, _, _, h3, h4⟩ := (HCELL.out W hW).all
      exact ⟨h3, h4⟩)
    clear hN hS' hk
    go_upto_region 3 with fail
    try rw [← HW3.out]
    go_region_held3 (fun W => W.cell? ⟨w.heap.size, 3, none⟩ = some (.slice kAe kne kce) ∧ W.cell? ⟨w.heap.size, 4, none⟩ = some (.slice mAe mne mce))
      (first | exact HKS.out _ HD0.out | exact HKS.out _ HG8.out | exact HKS.out _ HG11.out)
      ((first
        | (go_at_call 20; ((refine (HMS.out _ (Below.refl w3.heap.size w3).drew).mono ?_); rintro er w8 ⟨rfl, h8, k8⟩; have HP8 := hid h8; have HE8 := hid k8; have HG8 : Hid (Grew w3 w8 (fun b => b = gs ∨ b = gL ∨ P b)) := hid ((Grew.of_below (Below.refl w3.heap.size w3).drew).trans (k8.mono (fun b _ h => h.elim .inl (fun h => .inr (.inr h))))); clear h8 k8))
        | (go_at_call 28; ((refine (HMR.out _ _ _ (Below.refl w3.heap.size w3).drew HP8.out HE8.out).mono ?_); rintro er w11 ⟨rfl, h8, k8⟩; have HR11 := hid h8; have HE11 := hid k8; have HG11 : Hid (Grew w3 w11 (fun b => b = gs ∨ b = gL ∨ P b)) := hid (HG8.out.trans (k8.mono (fun b _ h => .inr (.inl h)))); clear h8 k8))))
    all_goals
      go_wp2_with fail
      go_ret
      exact ⟨rfl, by rw [HDE.out]; exact HEND.out _ _ _ _ (Below.refl w3.heap.size w3).drew HP8.out HE8.out HR11.out HE11.out⟩
  · have hk2 : (ke == 1) = false := beq_eq_false_iff_ne.2 hk1
    have HDE : Hid (deedS S (cutD x) = addS S de qe) := hid (by rw [deedS_a (by rw [← hk]; exact hk1), HDD.out, HQQ.out])
    have HMS : Hid (∀ W, Below w3.heap.size w3 W → Calls Try.prog 21 #[.pointer (some ⟨gs, 0, none⟩), .agg #[.int .i64 de, .int .i64 qe]] W fun e w' => e = .returned (.int .i64 (addE S de qe)) ∧ SetP w' (upTo P W.heap.size w'.heap.size) gs (addS S de qe) ∧ Grew W w' (fun b => b = gs ∨ P b)) := hid (fun W hW => addX_any (HBO3.out.s.below hW) de qe)
    have HMR : Hid (∀ W w8 T, Below w3.heap.size w3 W → SetP w8 (upTo P W.heap.size w8.heap.size) gs T → Grew W w8 (fun b => b = gs ∨ P b) → Calls Try.prog 29 #[.pointer (some ⟨g, 0, none⟩), .agg #[.int .i64 de, .int .i64 qe]] w8 fun e w' => e = .returned (.int .i64 (addE S de qe)) ∧ SetR w' (upTo R w8.heap.size w'.heap.size) g gL (addS S de qe) ∧ Grew w8 w' (fun b => b = gL)) := hid (fun W w8 T hW hs8 hg8 =>
      refAddX_any (BothX.turnS (HBO3.out.below hW) (fun b hb => Nat.lt_of_lt_of_le (HRB.out b hb) hW.size) hs8 hg8) de qe)
    obtain ⟨N, hN⟩ : ∃ N, addE S de qe = N := ⟨_, rfl⟩
    rw [hN] at HMS HMR
    obtain ⟨S', hS'⟩ : ∃ S', addS S de qe = S' := ⟨_, rfl⟩
    rw [hS'] at HMS HMR HDE
    have HKS : Hid (∀ W, Grew w3 W (fun b => b = gs ∨ b = gL ∨ P b) → W.cell? ⟨w.heap.size, 1, none⟩ = some (.int .i64 de) ∧ W.cell? ⟨w.heap.size, 2, none⟩ = some (.int .i64 qe)) := hid (fun W hW => by
      obtain ⟨_, h1, h2, _, _⟩ := (HCELL.out W hW).all
      exact ⟨h1, h2⟩)
    clear hN hS' hk
    go_upto_region 4 with fail
    try rw [← HW3.out]
    go_region_held3 (fun W => W.cell? ⟨w.heap.size, 1, none⟩ = some (.int .i64 de) ∧ W.cell? ⟨w.heap.size, 2, none⟩ = some (.int .i64 qe))
      (first | exact HKS.out _ HD0.out | exact HKS.out _ HG8.out | exact HKS.out _ HG11.out)
      ((first
        | (go_at_call 21; ((refine (HMS.out _ (Below.refl w3.heap.size w3).drew).mono ?_); rintro er w8 ⟨rfl, h8, k8⟩; have HP8 := hid h8; have HE8 := hid k8; have HG8 : Hid (Grew w3 w8 (fun b => b = gs ∨ b = gL ∨ P b)) := hid ((Grew.of_below (Below.refl w3.heap.size w3).drew).trans (k8.mono (fun b _ h => h.elim .inl (fun h => .inr (.inr h))))); clear h8 k8))
        | (go_at_call 29; ((refine (HMR.out _ _ _ (Below.refl w3.heap.size w3).drew HP8.out HE8.out).mono ?_); rintro er w11 ⟨rfl, h8, k8⟩; have HR11 := hid h8; have HE11 := hid k8; have HG11 : Hid (Grew w3 w11 (fun b => b = gs ∨ b = gL ∨ P b)) := hid (HG8.out.trans (k8.mono (fun b _ h => .inr (.inl h)))); clear h8 k8))))
    all_goals
      go_wp2_with fail
      go_ret
      exact ⟨rfl, by rw [HDE.out]; exact HEND.out _ _ _ _ (Below.refl w3.heap.size w3).drew HP8.out HE8.out HR11.out HE11.out⟩
/-- Both sets, in whatever blocks of their own from B on. -/
def Both (w : World) (B gs g gL : Nat) (S : Nat → List Int) : Prop := ∃ P R : Nat → Prop, BothX w P R gs g gL S ∧ ∀ b, P b ∨ R b → B ≤ b ∧ b < w.heap.size
section
variable {w w' : World} {B gs g gL : Nat} {S : Nat → List Int}
theorem Both.s (h : Both w B gs g gL S) : SetP w (fun b => b ≠ gs ∧ B ≤ b) gs S := by
  obtain ⟨P, R, h1, h2⟩ := h
  exact h1.s.imp (fun b hp _ => ⟨fun e => h1.s.ng (e ▸ hp), (h2 b (.inl hp)).1⟩) (fun h => h.1 rfl)
theorem Both.r (h : Both w B gs g gL S) : SetR w (fun b => b ≠ g ∧ b ≠ gL ∧ B ≤ b) g gL S := by
  obtain ⟨P, R, h1, h2⟩ := h
  exact h1.r.kept (fun _ _ _ => rfl) (Nat.le_refl _) (fun b hp _ => ⟨fun e => h1.r.ng (e ▸ hp), fun e => h1.r.nL (e ▸ hp), (h2 b (.inr hp)).1⟩) (fun h => h.1 rfl) (fun h => h.2.1 rfl)
theorem Both.below (h : Both w B gs g gL S) (hb : Below w.heap.size w w') : Both w' B gs g gL S := by
  obtain ⟨P, R, h1, h2⟩ := h
  exact ⟨P, R, h1.below hb, fun b hp => ⟨(h2 b hp).1, Nat.lt_of_lt_of_le (h2 b hp).2 hb.size⟩⟩
theorem Both.lt (h : Both w B gs g gL S) : gs < w.heap.size ∧ g < w.heap.size ∧ gL < w.heap.size := by
  obtain ⟨P, R, h1, h2⟩ := h
  exact h1.lt
theorem doesE_any (hb : Both w B gs g gL S) (hB : B ≤ w.heap.size) (h1 : B ≤ gs) (h2 : B ≤ gL) {dh : DH} {x : Deed} (a : DeedAt w (fun b => b < B) dh x) :
    Calls Try.prog 10 #[.pointer (some ⟨gs, 0, none⟩), .pointer (some ⟨g, 0, none⟩), .agg #[.int .i64 dh.kind, .int .i64 dh.d, .int .i64 dh.q, .slice dh.kA dh.kn dh.kc, .slice dh.mA dh.mn dh.mc]] w fun e w' => e = .returned (.bool true) ∧ Both w' B gs g gL (deedS S (cutD x)) ∧ Grew w w' (fun b => B ≤ b) := by
  obtain ⟨P, R, hbx, hpr⟩ := hb
  refine (does_any hbx (fun b h => (hpr b h).2) a (fun b hq hl => ⟨fun hp => by have := (hpr b (.inl hp)).1; omega, by omega, by omega⟩)).mono ?_
  rintro e w' ⟨rfl, ⟨P', R', hbx', hpr'⟩, hg⟩
  have hs := hg.size
  refine ⟨rfl, ⟨P', R', hbx', fun b hp => ?_⟩, hg.mono fun b hl hx => ?_⟩
  · rcases hpr' b hp with ⟨q1, q2⟩ | ⟨q1, q2⟩
    · exact ⟨(hpr b q1).1, by omega⟩
    · exact ⟨by omega, by omega⟩
  · rcases hx with e | e | e
    · omega
    · omega
    · exact (hpr b (.inl e)).1
end
end Go.Proofs.Ytifoppnpgljphaa.Sh
