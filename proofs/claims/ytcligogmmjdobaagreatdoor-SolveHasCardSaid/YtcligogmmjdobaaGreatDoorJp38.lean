/-
  The statements' own lives and few.
-/
import Derived.Test.YtcligogmmjdobaaGreatDoorJp37
import Derived.Test.YtcligogmmjdobaaGreatDoorJp8
set_option linter.unusedVariables false
set_option linter.unusedSimpArgs false
namespace Go.Proofs.YtcligogmmjdobaaGreatDoor.Sh
open Go Go.RowKit

set_option linter.unusedSimpArgs false
set_option linter.unusedVariables false
def cA : Crd := ⟨1, 1, ⟨#[97]⟩, 3, ⟨#[]⟩, ⟨#[]⟩, ⟨#[98]⟩, ⟨#[]⟩, ⟨#[99]⟩⟩
def cB : Crd := ⟨1, 2, ⟨#[98]⟩, 1, ⟨#[100, 50]⟩, ⟨#[]⟩, ⟨#[]⟩, ⟨#[]⟩, ⟨#[]⟩⟩
def cC : Crd := ⟨2, 1, ⟨#[99]⟩, 1, ⟨#[98, 111, 98]⟩, ⟨#[]⟩, ⟨#[]⟩, ⟨#[]⟩, ⟨#[]⟩⟩
def three : List Crd := [cA, cB, cC]
theorem mayA : mayC cA = true := by decide
theorem mayBb : mayC cB = true := by decide
theorem mayCc : mayC cC = true := by decide
theorem three_mem {out : List Crd} (h : CountsOf out three) (c : Crd) : c ∈ out ↔ c ∈ three := by
  have key : ∀ x ∈ three, x ∈ out := by
    intro x hx
    have h1 : (three.filter fun c => idIs x.d x.q c && mayC c).take 1 = [x] := by
      simp only [three, List.mem_cons, List.not_mem_nil, or_false] at hx
      rcases hx with rfl | rfl | rfl <;> rfl
    have h2 := h.2 x.d x.q
    rw [h1] at h2
    exact (List.mem_filter.1 (by rw [h2]; simp : x ∈ out.filter (idIs x.d x.q))).1
  exact ⟨fun hc => (counts_mem h hc).2, key c⟩
def pA : Pr := ((⟨#[100, 49]⟩, ⟨#[97]⟩), ⟨#[98, 111, 98]⟩)
def pB : Pr := ((⟨#[100, 49]⟩, ⟨#[98]⟩), ⟨#[100, 50]⟩)
def pC : Pr := ((⟨#[100, 50]⟩, ⟨#[99]⟩), ⟨#[98, 111, 98]⟩)
theorem roleA : roleOf cA = pA.1 := rfl
theorem roleB' : roleOf cB = pB.1 := rfl
theorem roleC' : roleOf cC = pC.1 := rfl
theorem three_imp {out : List Crd} (h : CountsOf out three) (p : Pr) : Imp (· ∈ out) p ↔ p = pA ∨ p = pB ∨ p = pC := by
  have hm := three_mem h
  have mA : cA ∈ out := (hm cA).2 (by simp [three])
  have mB : cB ∈ out := (hm cB).2 (by simp [three])
  have mC : cC ∈ out := (hm cC).2 (by simp [three])
  have hB : Imp (· ∈ out) pB := Imp.mem (c := cB) mB rfl
  have hC : Imp (· ∈ out) pC := Imp.mem (c := cC) mC rfl
  constructor
  · intro hi
    induction hi with
    | mem hc h1 =>
      have := (hm _).1 hc
      simp only [three, List.mem_cons, List.not_mem_nil, or_false] at this
      rcases this with rfl | rfl | rfl
      · exact absurd h1 (by decide)
      · exact .inr (.inl rfl)
      · exact .inr (.inr rfl)
    | inc hc h2 _ _ =>
      have := (hm _).1 hc
      simp only [three, List.mem_cons, List.not_mem_nil, or_false] at this
      rcases this with rfl | rfl | rfl <;> exact absurd h2 (by decide)
    | lnk hc h3 _ hy _ ih1 ih2 =>
      have := (hm _).1 hc
      simp only [three, List.mem_cons, List.not_mem_nil, or_false] at this
      rcases this with rfl | rfl | rfl
      · rename_i x y _ _
        have e1 : y = ⟨#[100, 50]⟩ := by
          rcases ih1 with e | e | e
          · have := (Prod.mk.inj e).1; exact absurd this (by decide)
          · exact (Prod.mk.inj e).2
          · have := (Prod.mk.inj e).1; exact absurd this (by decide)
        subst e1
        have e2 : x = ⟨#[98, 111, 98]⟩ := by
          rcases ih2 with e | e | e
          · have := (Prod.mk.inj e).1; exact absurd this (by decide)
          · have := (Prod.mk.inj e).1; exact absurd this (by decide)
          · exact (Prod.mk.inj e).2
        subst e2
        exact .inl rfl
      · exact absurd h3 (by decide)
      · exact absurd h3 (by decide)
    | bth hc h4 _ _ _ _ =>
      have := (hm _).1 hc
      simp only [three, List.mem_cons, List.not_mem_nil, or_false] at this
      rcases this with rfl | rfl | rfl <;> exact absurd h4 (by decide)
  · rintro (rfl | rfl | rfl)
    · exact Imp.lnk (c := cA) (y := ⟨#[100, 50]⟩) mA rfl hB (by unfold isD; decide) hC
    · exact hB
    · exact hC
theorem three_len {out : List Crd} (h : CountsOf out three) {l : List Pr} (hs : SortedP l) (hm : ∀ p, p ∈ l ↔ Imp (· ∈ out) p) : l.length = 3 := by
  have hn := hs.nodup
  have h1 : l.length ≤ [pA, pB, pC].length := nodup_length hn fun p hp => by
    have := (three_imp h p).1 ((hm p).1 hp)
    simpa using this
  have h2 : [pA, pB, pC].length ≤ l.length := nodup_length (by decide) fun p hp => by
    rw [hm, three_imp h]
    simpa using hp
  exact Nat.le_antisymm h1 h2
theorem three_mbr {out : List Crd} (h : CountsOf out three) {l : List ByteArray} (hs : SortedB l) (hm : ∀ x, x ∈ l ↔ Imp (· ∈ out) (((⟨#[100, 49]⟩, ⟨#[97]⟩) : Rl), x)) : l = [⟨#[98, 111, 98]⟩] := by
  have hx : ∀ x, x ∈ l ↔ x = ⟨#[98, 111, 98]⟩ := fun x => by
    rw [hm, three_imp h]
    constructor
    · rintro (e | e | e)
      · exact (Prod.mk.inj e).2
      · have := (Prod.mk.inj e).1; exact absurd this (by decide)
      · have := (Prod.mk.inj e).1; exact absurd this (by decide)
    · rintro rfl; exact .inl rfl
  cases l with
  | nil => exact absurd ((hx _).2 rfl) (by simp)
  | cons a t =>
    have ha := (hx a).1 (by simp)
    cases t with
    | nil => rw [ha]
    | cons b t =>
      have hb := (hx b).1 (by simp)
      have := (List.pairwise_cons.1 hs).1 b (by simp)
      rw [ha, hb] at this
      exact absurd this (by decide)
theorem small_ok (l : List UInt8) (h : l.length ≤ 100) : okB ⟨l.toArray⟩ := by
  unfold okB
  rw [← size_list]
  show l.length ≤ _
  unfold maxLen
  omega
set_option maxHeartbeats 1000000 in
set_option maxRecDepth 100000 in
theorem lives_any (w : World) : Calls Tryz.prog 13 #[] w fun e w' => e = .returned (.bool true) ∧ Below w.heap.size w w' := by
  obtain ⟨w1, hw1⟩ : ∃ w1, w1 = w.alloc (.cells (cv three).toArray 66) := ⟨_, rfl⟩
  have q1 : Below w.heap.size w w1 := by rw [hw1]; exact (Below.refl _ _).alloc (Nat.le_refl _) _
  have hz1 : w1.heap.size = w.heap.size + 1 := by rw [hw1]; simp
  have r1 : Crs w1 w1.heap.size (some ⟨w.heap.size, 0, none⟩) three := fun _ => by
    obtain ⟨ad, e, hc⟩ := reads_new w (cv three).toArray 66 (0, 0) (by simp [cv_length, three])
    injection e with e
    subst e
    exact ⟨_, rfl, by rw [hz1]; exact Nat.lt_succ_self _, by rw [hw1]; exact hc⟩
  have HC := hid (fun W (hW : Below w1.heap.size w1 W) => (r1.below hW).more hW.size)
  have HQ1 := hid q1
  have hw2 : w.alloc (.cells #[.int .i64 1, .int .i64 1, .string ⟨#[97]⟩, .int .i64 3, .string ⟨#[]⟩, .string ⟨#[]⟩, .string ⟨#[98]⟩, .string ⟨#[]⟩, .string ⟨#[99]⟩, .int .i64 1, .int .i64 2, .string ⟨#[98]⟩, .int .i64 1, .string ⟨#[100, 50]⟩, .string ⟨#[]⟩, .string ⟨#[]⟩, .string ⟨#[]⟩, .string ⟨#[]⟩, .int .i64 2, .int .i64 1, .string ⟨#[99]⟩, .int .i64 1, .string ⟨#[98, 111, 98]⟩, .string ⟨#[]⟩, .string ⟨#[]⟩, .string ⟨#[]⟩, .string ⟨#[]⟩] 66) = w1 := by rw [hw1]; rfl
  have HMB := hid (fun W (hW : Below w1.heap.size w1 W) => members_any (some ⟨w.heap.size, 0, none⟩) three 3 3 rfl (Nat.le_refl _) (by omega) (by omega) ⟨#[100, 49]⟩ ⟨#[97]⟩ (small_ok [100, 49] (by simp)) (small_ok [97] (by simp)) W (HC.out W hW))
  have HHB : Hid (∀ W, Below w1.heap.size w1 W → Calls Tryz.prog 16 #[.slice (some ⟨w.heap.size, 0, none⟩) 3 3, .string ⟨#[98, 111, 98]⟩, .agg #[.string ⟨#[100, 50]⟩, .string ⟨#[99]⟩]] W fun e w' => e = .returned (.bool true) ∧ Below W.heap.size W w') := hid (fun W (hW : Below w1.heap.size w1 W) => (has_any (some ⟨w.heap.size, 0, none⟩) three 3 3 rfl (Nat.le_refl _) (by omega) (by omega) ⟨#[100, 50]⟩ ⟨#[99]⟩ ⟨#[98, 111, 98]⟩ (small_ok [100, 50] (by simp)) (small_ok [99] (by simp)) (small_ok [98, 111, 98] (by simp)) W (HC.out W hW)).mono
    (fun e w' ⟨out, b, h1, h2, h3, h4⟩ => ⟨by rw [h2, h3.2 ((three_imp h1 _).2 (.inr (.inr rfl)))], h4⟩))
  have HHA : Hid (∀ W, Below w1.heap.size w1 W → Calls Tryz.prog 16 #[.slice (some ⟨w.heap.size, 0, none⟩) 3 3, .string ⟨#[97, 110, 110]⟩, .agg #[.string ⟨#[100, 50]⟩, .string ⟨#[99]⟩]] W fun e w' => e = .returned (.bool false) ∧ Below W.heap.size W w') := hid (fun W (hW : Below w1.heap.size w1 W) => (has_any (some ⟨w.heap.size, 0, none⟩) three 3 3 rfl (Nat.le_refl _) (by omega) (by omega) ⟨#[100, 50]⟩ ⟨#[99]⟩ ⟨#[97, 110, 110]⟩ (small_ok [100, 50] (by simp)) (small_ok [99] (by simp)) (small_ok [97, 110, 110] (by simp)) W (HC.out W hW)).mono
    (fun e w' ⟨out, b, h1, h2, h3, h4⟩ => ⟨by
      have : b = false := by
        cases b with
        | false => rfl
        | true =>
          rcases (three_imp h1 _).1 (h3.1 rfl) with e | e | e
          · have := (Prod.mk.inj e).1; exact absurd this (by decide)
          · have := (Prod.mk.inj e).1; exact absurd this (by decide)
          · have := (Prod.mk.inj e).2; exact absurd this (by decide)
      rw [h2, this], h4⟩))
  have HAL : Hid (∀ W, Below w1.heap.size w1 W → Calls Tryz.prog 11 #[.slice (some ⟨w.heap.size, 0, none⟩) 3 3] W fun e w' => ∃ A' c', e = .returned (.slice A' 3 c') ∧ Below W.heap.size W w') := hid (fun W (hW : Below w1.heap.size w1 W) => (all_any (some ⟨w.heap.size, 0, none⟩) three 3 3 rfl (Nat.le_refl _) (by omega) (by omega) W (HC.out W hW)).mono
    (fun e w' ⟨out, A', c', lst, h1, h2, h3, h4, _, h5⟩ => ⟨A', c', by rw [h2, three_len h1 h3 h4], h5⟩))
  have tok1 : True := trivial
  clear q1 r1 hw1
  go_enter Tryz.func13, Tryz.ntmps13
  go_wp2_with (first
    | (go_at_call 15; (try rw [hw2]); (refine (HMB.out _ (Below.refl _ _)).mono ?_); rintro er w3 ⟨out, A', c', lst, h1, rfl, h3, h4, h5, h6⟩; have e3 := three_mbr h1 h3 h4; subst e3; (obtain ⟨ad, aj, rfl, -, ea, -, a0, -⟩ := (own_els h5).get (j := 0) rfl); have a0 := a0 _ rfl; have ea : ad = aj := (by rw [← ea]; exact (add_zero ad).symm); subst ea; have B3 := hid h6; clear h1 h3 h4 h5 h6)
    | (go_at_call 16; have _t := tok1; (refine (HHB.out _ B3.out).mono ?_); rintro er w4 ⟨rfl, h4⟩; clear tok1; have B4 := hid (B3.out.trans (h4.mono B3.out.size)); clear h4)
    | (go_at_call 16; (refine (HHA.out _ B4.out).mono ?_); rintro er w5 ⟨rfl, h5⟩; have B5 := hid (B4.out.trans (h5.mono B4.out.size)); clear h5)
    | (go_at_call 11; (refine (HAL.out _ B5.out).mono ?_); rintro er w6 ⟨A6, c6, rfl, h6⟩; have B6 := hid (B5.out.trans (h6.mono B5.out.size)); clear h6))
  go_ret
  exact ⟨rfl, HQ1.out.trans (B6.out.mono HQ1.out.size)⟩
end Go.Proofs.YtcligogmmjdobaaGreatDoor.Sh
/-
  What All's contract says of lengths, and of the credentials that count.
-/
namespace Go.Proofs.YtcligogmmjdobaaGreatDoor.Sh
open Go Go.RowKit

set_option linter.unusedSimpArgs false
set_option linter.unusedVariables false
theorem idIs_iff {c x : Crd} : idIs c.d c.q x = true ↔ x.d = c.d ∧ x.q = c.q := by unfold idIs; simp
/-- Of those of one ID there is at most one. -/
theorem counts_one {out l : List Crd} (h : CountsOf out l) {c : Crd} (hc : c ∈ out) : out.filter (idIs c.d c.q) = [c] := by
  have h1 : c ∈ out.filter (idIs c.d c.q) := List.mem_filter.2 ⟨hc, by simp [idIs]⟩
  have h2 : (out.filter (idIs c.d c.q)).length ≤ 1 := by rw [h.2, List.length_take]; omega
  match hf : out.filter (idIs c.d c.q), h1, h2 with
  | [x], h1, _ => rw [List.mem_singleton.1 h1]
/-- Those that count, in any order, count still. -/
theorem counts_back {out out2 l : List Crd} (h : CountsOf out l) (h2 : CountsOf out2 out.reverse) (c : Crd) : c ∈ out2 ↔ c ∈ out := by
  constructor
  · intro hc
    exact List.mem_reverse.1 (counts_mem h2 hc).2
  · intro hc
    have hm := (counts_mem h hc).1
    have h3 := h2.2 c.d c.q
    have h4 : out.reverse.filter (fun x => idIs c.d c.q x && mayC x) = [c] := by
      rw [List.filter_reverse, show (fun x => idIs c.d c.q x && mayC x) = (fun x => mayC x && idIs c.d c.q x) from funext fun x => Bool.and_comm _ _, ← List.filter_filter, counts_one h hc]
      simp [hm]
    rw [h4] at h3
    exact (List.mem_filter.1 (by rw [h3]; simp : c ∈ out2.filter (idIs c.d c.q))).1
/-- With more behind, those that count count still. -/
theorem counts_more {out out2 l more : List Crd} (h : CountsOf out l) (h2 : CountsOf out2 (l ++ more)) (c : Crd) (hc : c ∈ out) : c ∈ out2 := by
  have h1 := counts_one h hc
  rw [h.2] at h1
  have h3 := h2.2 c.d c.q
  rw [List.filter_append] at h3
  have h4 : ((l.filter fun x => idIs c.d c.q x && mayC x) ++ (more.filter fun x => idIs c.d c.q x && mayC x)).take 1 = [c] := by
    cases hf : (l.filter fun x => idIs c.d c.q x && mayC x) with
    | nil => rw [hf] at h1; cases h1
    | cons x t => rw [hf] at h1; simpa using h1
  rw [h4] at h3
  exact (List.mem_filter.1 (by rw [h3]; simp : c ∈ out2.filter (idIs c.d c.q))).1
theorem counts_len {out l : List Crd} (h : CountsOf out l) : out.length ≤ l.length := by
  have hn : out.Nodup := by
    have : ∀ (a : List Crd), (∀ c ∈ a, a.filter (idIs c.d c.q) = [c]) → a.Nodup := by
      intro a
      induction a with
      | nil => intro _; exact List.nodup_nil
      | cons x t ih =>
        intro ha
        have hx := ha x (by simp)
        rw [List.filter_cons_of_pos (by simp [idIs])] at hx
        have hx0 : t.filter (idIs x.d x.q) = [] := (List.cons.inj hx).2
        have hnot : ∀ c ∈ t, ¬ (c.d = x.d ∧ c.q = x.q) := fun c hc hh => by
          have : c ∈ t.filter (idIs x.d x.q) := List.mem_filter.2 ⟨hc, idIs_iff.2 hh⟩
          rw [hx0] at this
          cases this
        refine List.nodup_cons.2 ⟨fun hh => hnot x hh ⟨rfl, rfl⟩, ih fun c hc => ?_⟩
        have hc1 := ha c (by simp [hc])
        rwa [List.filter_cons_of_neg (by rw [idIs_iff]; intro hh; exact hnot c hc ⟨hh.1.symm, hh.2.symm⟩)] at hc1
    exact this out fun c hc => counts_one h hc
  classical
  exact nodup_length hn fun c hc => (counts_mem h hc).2
theorem all_len {out l : List Crd} {lst : List Pr} (h : CountsOf out l) (hs : SortedP lst) (hm : ∀ p, p ∈ lst ↔ Imp (· ∈ out) p) (hl : l.length ≤ 1000) : lst.length ≤ 1000000 := by
  have h1 := nodup_length hs.nodup fun p hp => imp_uni ((hm p).1 hp)
  rw [uni_length] at h1
  have h2 := counts_len h
  have h3 : out.length * out.length ≤ 1000 * 1000 := Nat.mul_le_mul (by omega) (by omega)
  omega
theorem imp_congr {out out2 : List Crd} (h : ∀ c, c ∈ out ↔ c ∈ out2) (p : Pr) : Imp (· ∈ out) p ↔ Imp (· ∈ out2) p :=
  ⟨imp_mono fun c hc => (h c).1 hc, imp_mono fun c hc => (h c).2 hc⟩
end Go.Proofs.YtcligogmmjdobaaGreatDoor.Sh
/-
  The document's own Same of credentials, at equal lists; Before over IDs in IdAt.
-/
namespace Go.Proofs.YtcligogmmjdobaaGreatDoor.Sh
open Go Go.RowKit

end Go.Proofs.YtcligogmmjdobaaGreatDoor.Sh
