/-
  The statements' own lives, few, small.
-/
import Derived.Test.YtfbapbpggicfbaaGreatDoorJz19
import Derived.Test.YtfbapbpggicfbaaGreatDoorJz29
import Derived.Test.YtfbapbpggicfbaaGreatDoorJz12
import Derived.Test.YtfbapbpggicfbaaGreatDoorJz16
import Derived.Test.YtfbapbpggicfbaaGreatDoorJz7
import Derived.Test.YtfbapbpggicfbaaGreatDoorJz3
import Derived.Test.YtfbapbpggicfbaaGreatDoorJz8
set_option linter.unusedVariables false
set_option linter.unusedSimpArgs false
namespace Go.Proofs.YtfbapbpggicfbaaGreatDoor.Sh
open Go Go.RowKit

set_option linter.unusedSimpArgs false
set_option linter.unusedVariables false
def c7A : Crd := ⟨1, 1, ⟨#[97]⟩, 2, ⟨#[]⟩, ⟨#[100, 50]⟩, ⟨#[98]⟩, ⟨#[]⟩, ⟨#[]⟩⟩
def c7B : Crd := ⟨2, 1, ⟨#[98]⟩, 1, ⟨#[97, 110, 110]⟩, ⟨#[]⟩, ⟨#[]⟩, ⟨#[]⟩, ⟨#[]⟩⟩
def two7 : List Crd := [c7A, c7B]
theorem may7A : mayC c7A = true := by decide
theorem may7B : mayC c7B = true := by decide
theorem two7_mem {out : List Crd} (h : CountsOf out two7) (c : Crd) : c ∈ out ↔ c ∈ two7 := by
  have key : ∀ x ∈ two7, x ∈ out := by
    intro x hx
    have h1 : (two7.filter fun c => idIs x.d x.q c && mayC c).take 1 = [x] := by
      simp only [two7, List.mem_cons, List.not_mem_nil, or_false] at hx
      rcases hx with rfl | rfl <;> rfl
    have h2 := h.2 x.d x.q
    rw [h1] at h2
    exact (List.mem_filter.1 (by rw [h2]; simp : x ∈ out.filter (idIs x.d x.q))).1
  exact ⟨fun hc => (counts_mem h hc).2, key c⟩
def p7B : PT := .mk ⟨#[100, 50]⟩ ⟨#[98]⟩ ⟨#[97, 110, 110]⟩ 2 1 none 0 []
def p7A (g : Nat) : PT := .mk ⟨#[100, 49]⟩ ⟨#[97]⟩ ⟨#[97, 110, 110]⟩ 1 1 (some ⟨g, 0, none⟩) 1 [p7B]
def p7Q : PT := .mk ⟨#[100, 49]⟩ ⟨#[97]⟩ ⟨#[97, 110, 110]⟩ 1 1 none 0 []
theorem cor7A {out : List Crd} (h : CountsOf out two7) (g : Nat) : dc (Cor out (p7A g)) = true := by
  rw [dc_iff]
  have hA : c7A ∈ out := (two7_mem h _).2 (by simp [two7])
  have hB : c7B ∈ out := (two7_mem h _).2 (by simp [two7])
  refine .mk ⟨c7A, hA, rfl, rfl, rfl, .inr (.inl ⟨rfl, p7B, rfl, rfl⟩)⟩ fun a ha => ?_
  have : a = p7B := by simpa [p7A, PT.ps] using ha
  subst this
  exact .mk ⟨c7B, hB, rfl, rfl, rfl, .inl ⟨rfl, rfl, rfl⟩⟩ fun a ha => by simp [p7B, PT.ps] at ha
theorem cor7Q {out : List Crd} (h : CountsOf out two7) : dc (Cor out p7Q) = false := by
  refine Bool.eq_false_iff.2 fun e => ?_
  obtain ⟨c, hc, hd, hq, _, hk⟩ := ((dc_iff (p := Cor out p7Q)).1 e).fol
  have := (two7_mem h c).1 hc
  simp only [two7, List.mem_cons, List.not_mem_nil, or_false] at this
  rcases this with rfl | rfl
  · rcases hk with ⟨h1, _⟩ | ⟨_, a, h1, _⟩ | ⟨h1, _⟩ | ⟨h1, _⟩
    · exact absurd h1 (by decide)
    · exact absurd h1 (by simp [p7Q, PT.ps])
    · exact absurd h1 (by decide)
    · exact absurd h1 (by decide)
  · exact absurd hd (by decide)
theorem ids7B : p7B.ids = [(2, 1)] := by unfold p7B; rw [PT.ids_eq]; rfl
theorem ids7A (g : Nat) : (p7A g).ids = [(1, 1), (2, 1)] := by unfold p7A; rw [PT.ids_eq, List.flatMap_cons, ids7B]; rfl
theorem size7A (g : Nat) : (p7A g).size = 2 := by unfold PT.size; rw [ids7A]; rfl
theorem deep7A (g : Nat) : (p7A g).deep = 1 := by
  have h : p7B.deep = 0 := by unfold p7B; rw [PT.deep_eq]; rfl
  unfold p7A
  rw [PT.deep_eq]
  simp [h]
theorem same7AA (g : Nat) : smP (p7A g) (p7A g) = true := by unfold smP; exact @decide_eq_true _ (Classical.propDecidable _) rfl
theorem same7AQ (g : Nat) : smP (p7A g) p7Q = false := by
  unfold smP
  refine @decide_eq_false _ (Classical.propDecidable _) fun e => ?_
  unfold p7A p7Q at e
  have := (bare_same.1 e).2.2.2.2.2
  simp at this
theorem sup7A {ss : List (Int × Int)} {g : Nat} (h : SortedI ss) (hm : ∀ i, i ∈ ss ↔ i ∈ (p7A g).ids) : ss = [(1, 1), (2, 1)] := by
  rw [ids7A] at hm
  exact h.uniq (List.pairwise_cons.2 ⟨fun y hy => by simp at hy; rw [hy]; decide, List.pairwise_singleton _ _⟩) hm
set_option maxHeartbeats 8000000 in
set_option maxRecDepth 100000 in
theorem lives7_any (w : World) : Calls Tryz.prog 7 #[] w fun e w' => e = .returned (.bool true) ∧ Below w.heap.size w w' := by
  obtain ⟨g0, hg0⟩ : ∃ g, w.heap.size = g := ⟨_, rfl⟩
  obtain ⟨wA, hwA⟩ : ∃ x, x = (w.alloc (.cells #[.string ⟨#[100, 49]⟩, .string ⟨#[97]⟩] 24)).alloc (.cells #[.string ⟨#[100, 50]⟩, .string ⟨#[98]⟩] 24) := ⟨_, rfl⟩
  have sA : wA.heap.size = g0 + 1 + 1 := by rw [hwA, World.size_alloc, World.size_alloc, hg0]
  obtain ⟨wB, hwB⟩ : ∃ x, x = wA.alloc (.cells (cv two7).toArray 43) := ⟨_, rfl⟩
  have sB : wB.heap.size = g0 + 1 + 1 + 1 := by rw [hwB, World.size_alloc, sA]
  obtain ⟨wC, hwC⟩ : ∃ x, x = wB.alloc (.cells (PT.cells p7B).toArray 29) := ⟨_, rfl⟩
  have sC : wC.heap.size = g0 + 1 + 1 + 1 + 1 := by rw [hwC, World.size_alloc, sB]
  obtain ⟨w1, hw1⟩ : ∃ x, x = wC.alloc (.cells (PT.cells (p7A (g0 + 1 + 1 + 1))).toArray 29) := ⟨_, rfl⟩
  have s1 : w1.heap.size = g0 + 1 + 1 + 1 + 1 + 1 := by rw [hw1, World.size_alloc, sC]
  have bA : Below g0 w wA := by rw [hwA]; exact ((Below.refl _ w).alloc (by omega) _).alloc (by rw [World.size_alloc]; omega) _
  have bC : Below (g0 + 1 + 1 + 1) wB wC := by rw [hwC]; exact (Below.refl _ wB).alloc (by omega) _
  have b1 : Below (g0 + 1 + 1 + 1 + 1) wC w1 := by rw [hw1]; exact (Below.refl _ wC).alloc (by omega) _
  have HQ1 : Hid (Below w.heap.size w w1) := hid (by
    rw [hg0]
    have h2 : Below g0 w wB := by rw [hwB]; exact bA.alloc (by omega) _
    exact (h2.trans (bC.mono (by omega))).trans (b1.mono (by omega)))
  have HCR : Hid (Crs w1 w1.heap.size (some ⟨g0 + 1 + 1, 0, none⟩) two7) := hid (fun _ => by
    obtain ⟨ad, e, hc⟩ := reads_new wA (cv two7).toArray 43 (0, 0) (by simp [cv_length, two7])
    injection e with e
    subst e
    rw [sA] at hc
    refine ⟨_, rfl, by rw [s1]; show g0 + 1 + 1 < g0 + 1 + 1 + 1 + 1 + 1; omega, fun j x hx => ?_⟩
    have h := hc j x hx
    rw [← hwB] at h
    rw [← h]
    exact (b1.cell (by rw [block_add]; show g0 + 1 + 1 < g0 + 1 + 1 + 1 + 1; omega)).trans (bC.cell (by rw [block_add]; show g0 + 1 + 1 < g0 + 1 + 1 + 1; omega)))
  have HPB : ∀ (W : World) (B : Nat), PIn W B p7B := fun W B => .mk ⟨⟨by decide, by decide⟩, ⟨by decide, by decide⟩⟩ (Nat.le_refl _) (by decide) Els.nil (fun p hp => by simp at hp)
  have HPA : Hid (PIn w1 w1.heap.size (p7A (g0 + 1 + 1 + 1))) := hid (.mk ⟨⟨by decide, by decide⟩, ⟨by decide, by decide⟩⟩ (Nat.le_refl _) (by decide) (fun _ => by
    obtain ⟨ad, e, hc⟩ := reads_new wB (PT.cells p7B).toArray 29 (0, 0) (by simp [PT.cells, p7B])
    injection e with e
    subst e
    rw [sB] at hc
    refine ⟨_, rfl, by rw [s1]; show g0 + 1 + 1 + 1 < g0 + 1 + 1 + 1 + 1 + 1; omega, fun j x hx => ?_⟩
    have h := hc j x (by simpa [ev, encT] using hx)
    rw [← hwC] at h
    rw [← h]
    exact b1.cell (by rw [block_add]; show g0 + 1 + 1 + 1 < g0 + 1 + 1 + 1 + 1; omega)) (fun p hp => by rw [List.mem_singleton] at hp; rw [hp]; exact HPB _ _))
  have HAT : Hid (PrAt w1 (g0 + 1 + 1 + 1 + 1) (p7A (g0 + 1 + 1 + 1))) := hid (by rw [hw1]; have := PrAt.new wC (p7A (g0 + 1 + 1 + 1)); rwa [sC] at this)
  have HSU := hid (support_any (p7A (g0 + 1 + 1 + 1)) w1 (by rw [size7A]; omega) HPA.out)
  have HPIN := hid (fun W (hW : Below w1.heap.size w1 W) => HPA.out.now hW)
  have HPQ : Hid (∀ (W : World) (B : Nat), PIn W B p7Q) := hid (fun W B => .mk ⟨⟨by decide, by decide⟩, ⟨by decide, by decide⟩⟩ (Nat.le_refl _) (by decide) Els.nil (fun p hp => by simp at hp))
  have HCS := hid (fun W (hW : Below w1.heap.size w1 W) => (HCR.out.below hW).more hW.size)
  have HC1 : Hid (∀ W, Below w1.heap.size w1 W → Calls Tryz.prog 6 #[.slice (some ⟨g0 + 1 + 1, 0, none⟩) 2 2, .agg (PT.cells (p7A (g0 + 1 + 1 + 1))).toArray] W fun e w' => e = .returned (.int .i64 0) ∧ Below W.heap.size W w') := hid (fun W hW => (check_any _ two7 2 2 rfl (Nat.le_refl _) (by omega) (by omega) (p7A (g0 + 1 + 1 + 1)) W (HCS.out W hW) (HPIN.out W hW)).mono
    fun e w' ⟨out, h1, h2, h3⟩ => ⟨by rw [h2, cor7A h1]; rfl, h3⟩)
  have HC2 : Hid (∀ W, Below w1.heap.size w1 W → Calls Tryz.prog 6 #[.slice (some ⟨g0 + 1 + 1, 0, none⟩) 2 2, .agg (PT.cells p7Q).toArray] W fun e w' => e = .returned (.int .i64 15) ∧ Below W.heap.size W w') := hid (fun W hW => (check_any _ two7 2 2 rfl (Nat.le_refl _) (by omega) (by omega) p7Q W (HCS.out W hW) (HPQ.out W _)).mono
    fun e w' ⟨out, h1, h2, h3⟩ => ⟨by rw [h2, cor7Q h1]; rfl, h3⟩)
  have HSZ : Hid (∀ W, Below w1.heap.size w1 W → Calls Tryz.prog 15 #[.agg (PT.cells (p7A (g0 + 1 + 1 + 1))).toArray] W fun e w' => e = .returned (.int .i64 2) ∧ Below W.heap.size W w') := hid (fun W hW => (size_any (p7A (g0 + 1 + 1 + 1)) W (by rw [size7A]; omega) (HPIN.out W hW)).mono
    fun e w' ⟨h1, h2⟩ => ⟨by rw [h1, size7A]; rfl, h2⟩)
  have HS1 : Hid (∀ W, Below w1.heap.size w1 W → Calls Tryz.prog 16 #[.agg (PT.cells (p7A (g0 + 1 + 1 + 1))).toArray, .agg (PT.cells (p7A (g0 + 1 + 1 + 1))).toArray] W fun e w' => e = .returned (.bool true) ∧ Below W.heap.size W w') := hid (fun W hW => (same_any (p7A (g0 + 1 + 1 + 1)) (p7A (g0 + 1 + 1 + 1)) W (HPIN.out W hW) (HPIN.out W hW)).mono
    fun e w' ⟨h1, h2⟩ => ⟨by rw [h1, same7AA], h2⟩)
  have HS2 : Hid (∀ W, Below w1.heap.size w1 W → Calls Tryz.prog 16 #[.agg (PT.cells (p7A (g0 + 1 + 1 + 1))).toArray, .agg (PT.cells p7Q).toArray] W fun e w' => e = .returned (.bool false) ∧ Below W.heap.size W w') := hid (fun W hW => (same_any (p7A (g0 + 1 + 1 + 1)) p7Q W (HPIN.out W hW) (HPQ.out W _)).mono
    fun e w' ⟨h1, h2⟩ => ⟨by rw [h1, same7AQ], h2⟩)
  have HW1 : Hid (∀ W, Below w1.heap.size w1 W → Calls Tryz.prog 17 #[.agg (PT.cells (p7A (g0 + 1 + 1 + 1))).toArray, .int .i64 1] W fun e w' => e = .returned (.bool true) ∧ Below W.heap.size W w') := hid (fun W hW => (within_any (p7A (g0 + 1 + 1 + 1)) 1 W (by omega) (by omega) (HPIN.out W hW)).mono
    fun e w' ⟨h1, h2⟩ => ⟨by rw [h1, deep7A]; rfl, h2⟩)
  have HW0 : Hid (∀ W, Below w1.heap.size w1 W → Calls Tryz.prog 17 #[.agg (PT.cells (p7A (g0 + 1 + 1 + 1))).toArray, .int .i64 0] W fun e w' => e = .returned (.bool false) ∧ Below W.heap.size W w') := hid (fun W hW => (within_any (p7A (g0 + 1 + 1 + 1)) 0 W (by omega) (by omega) (HPIN.out W hW)).mono
    fun e w' ⟨h1, h2⟩ => ⟨by rw [h1, deep7A]; rfl, h2⟩)
  have hwX : ((((w.alloc (.cells #[.string ⟨#[100, 49]⟩, .string ⟨#[97]⟩] 24)).alloc (.cells #[.string ⟨#[100, 50]⟩, .string ⟨#[98]⟩] 24)).alloc (.cells #[.int .i64 1, .int .i64 1, .string ⟨#[97]⟩, .int .i64 2, .string ⟨#[]⟩, .string ⟨#[100, 50]⟩, .string ⟨#[98]⟩, .string ⟨#[]⟩, .string ⟨#[]⟩, .int .i64 2, .int .i64 1, .string ⟨#[98]⟩, .int .i64 1, .string ⟨#[97, 110, 110]⟩, .string ⟨#[]⟩, .string ⟨#[]⟩, .string ⟨#[]⟩, .string ⟨#[]⟩] 43)).alloc (.cells #[.string ⟨#[100, 50]⟩, .string ⟨#[98]⟩, .string ⟨#[97, 110, 110]⟩, .int .i64 2, .int .i64 1, .slice none 0 0] 29)).alloc (.cells #[.string ⟨#[100, 49]⟩, .string ⟨#[97]⟩, .string ⟨#[97, 110, 110]⟩, .int .i64 1, .int .i64 1, .slice (some ⟨g0 + 1 + 1 + 1, 0, none⟩) 1 1] 29) = w1 := by
    rw [hw1, hwC, hwB, hwA]; rfl
  have HG0 := hid hg0
  clear hwA sA hwB sB hwC sC hw1 s1 bA bC b1 HPB
  unfold p7A at HSU HC1 HSZ HS1 HS2 HW1 HW0
  unfold PT.cells at HSU HC1 HSZ HS1 HS2 HW1 HW0
  unfold p7Q at HC2 HS2
  unfold PT.cells at HC2
  simp only [List.length_cons, List.length_nil, Nat.zero_add] at HSU HC1 HC2 HSZ HS1 HS2 HW1 HW0
  obtain ⟨k0, k1, k2, k3, k4, k5⟩ := HAT.out.all
  simp only [List.length_cons, List.length_nil, Nat.zero_add] at k5
  go_enter Tryz.func7, Tryz.ntmps7
  go_wp2_with fail
  refine HSU.out.mono ?_
  rintro er w2 ⟨A5, c5, ss, rfl, hso, hmem, hown, hb2⟩
  have e5 := sup7A (g := g0 + 1 + 1 + 1) hso hmem
  subst e5
  have HB2 := hid hb2
  obtain ⟨ad, aj, rfl, hab, ea, habj, a0, ai⟩ := (own_els hown).get (j := 1) rfl
  have a0 := a0 _ rfl
  have a1 := ai 1 _ (by omega) rfl
  have ea : ad.add 2 = aj := ea
  simp only at a0 a1
  obtain ⟨w3, hw3⟩ : ∃ x, w2.alloc (.cells #[.string ⟨#[100, 49]⟩, .string ⟨#[97]⟩, .string ⟨#[97, 110, 110]⟩, .int .i64 1, .int .i64 1, .slice none 0 0] 29) = x := ⟨_, rfl⟩
  have HB3 : Hid (Below w1.heap.size w1 w3) := hid (by rw [← hw3]; exact hb2.alloc hb2.size _)
  have b23 : Below w2.heap.size w2 w3 := by rw [← hw3]; exact (Below.refl _ _).alloc (Nat.le_refl _) _
  have HQT : Hid (PrAt w3 w2.heap.size p7Q) := hid (by rw [← hw3]; exact PrAt.new w2 p7Q)
  have HSJ := hid (fun W (hW : Below w3.heap.size w3 W) => (⟨(hW.cell (p := aj) (show aj.block < _ by have := b23.size; omega)).trans ((b23.cell (p := aj) (by omega)).trans a0), (hW.cell (p := ⟨aj.block, aj.off + 1, none⟩) (show aj.block < _ by have := b23.size; omega)).trans ((b23.cell (p := ⟨aj.block, aj.off + 1, none⟩) (show aj.block < _ by omega)).trans a1)⟩ : W.cell? aj = some (.int .i64 2) ∧ W.cell? ⟨aj.block, aj.off + 1, none⟩ = some (.int .i64 1)))
  have HPP := hid (fun W (hW : Below w3.heap.size w3 W) => (HAT.out.kept (HB3.out.trans (hW.mono HB3.out.size))).all)
  have HQQ := hid (fun W (hW : Below w3.heap.size w3 W) => (HQT.out.kept hW).all)
  simp only [List.length_cons, List.length_nil, Nat.zero_add] at HPP HQQ
  have h31 := HB3.out.size
  clear hb2
  clear hso hmem hown hab habj ai a0 a1 k0 k1 k2 k3 k4 k5 b23
  have HW3 := hid hw3
  obtain ⟨k0, k1, k2, k3, k4, k5⟩ := HPP.out _ (Below.refl _ _)
  rw [← hw3] at k0 k1 k2 k3 k4 k5
  clear hw3
  have q0 : True := trivial
  have q1 : True := trivial
  have q2 : True := trivial
  have q3 : True := trivial
  have q4 : True := trivial
  have q5 : True := trivial
  have a0 : True := trivial
  have a1 : True := trivial
  obtain ⟨m0, m1, m2, m3, m4, m5⟩ := (HAT.out.kept HB2.out).all
  simp only [List.length_cons, List.length_nil, Nat.zero_add] at m5
  have tok1 : True := trivial
  have tok2 : True := trivial
  have tok3 : True := trivial
  go_wp2_with (first
    | (go_at_call 6; have _t := tok1; rw [HW3.out]; (refine (HC1.out _ HB3.out).mono ?_); rintro er w4 ⟨rfl, bb⟩; clear tok1; have B4 := hid bb; clear bb; clear k0 k1 k2 k3 k4 k5 q0 q1 q2 q3 q4 q5 a0 a1; (obtain ⟨k0, k1, k2, k3, k4, k5⟩ := HPP.out _ B4.out); (obtain ⟨q0, q1, q2, q3, q4, q5⟩ := HQQ.out _ B4.out); (obtain ⟨a0, a1⟩ := HSJ.out _ B4.out))
    | (go_at_call 6; (refine (HC2.out _ (HB3.out.trans (B4.out.mono h31))).mono ?_); rintro er w5 ⟨rfl, bb⟩; have B5 := hid (B4.out.trans (bb.mono B4.out.size)); clear bb; clear k0 k1 k2 k3 k4 k5 q0 q1 q2 q3 q4 q5 a0 a1; (obtain ⟨k0, k1, k2, k3, k4, k5⟩ := HPP.out _ B5.out); (obtain ⟨q0, q1, q2, q3, q4, q5⟩ := HQQ.out _ B5.out); (obtain ⟨a0, a1⟩ := HSJ.out _ B5.out))
    | (go_at_call 15; (refine (HSZ.out _ (HB3.out.trans (B5.out.mono h31))).mono ?_); rintro er w6 ⟨rfl, bb⟩; have B6 := hid (B5.out.trans (bb.mono B5.out.size)); clear bb; clear k0 k1 k2 k3 k4 k5 q0 q1 q2 q3 q4 q5 a0 a1; (obtain ⟨k0, k1, k2, k3, k4, k5⟩ := HPP.out _ B6.out); (obtain ⟨q0, q1, q2, q3, q4, q5⟩ := HQQ.out _ B6.out))
    | (go_at_call 16; have _t := tok2; (refine (HS1.out _ (HB3.out.trans (B6.out.mono h31))).mono ?_); rintro er w7 ⟨rfl, bb⟩; clear tok2; have B7 := hid (B6.out.trans (bb.mono B6.out.size)); clear bb; clear k0 k1 k2 k3 k4 k5 q0 q1 q2 q3 q4 q5; (obtain ⟨k0, k1, k2, k3, k4, k5⟩ := HPP.out _ B7.out); (obtain ⟨q0, q1, q2, q3, q4, q5⟩ := HQQ.out _ B7.out))
    | (go_at_call 16; (refine (HS2.out _ (HB3.out.trans (B7.out.mono h31))).mono ?_); rintro er w8 ⟨rfl, bb⟩; have B8 := hid (B7.out.trans (bb.mono B7.out.size)); clear bb; clear k0 k1 k2 k3 k4 k5 q0 q1 q2 q3 q4 q5; (obtain ⟨k0, k1, k2, k3, k4, k5⟩ := HPP.out _ B8.out))
    | (go_at_call 17; have _t := tok3; (refine (HW1.out _ (HB3.out.trans (B8.out.mono h31))).mono ?_); rintro er w9 ⟨rfl, bb⟩; clear tok3; have B9 := hid (B8.out.trans (bb.mono B8.out.size)); clear bb; clear k0 k1 k2 k3 k4 k5; (obtain ⟨k0, k1, k2, k3, k4, k5⟩ := HPP.out _ B9.out))
    | (go_at_call 17; (refine (HW0.out _ (HB3.out.trans (B9.out.mono h31))).mono ?_); rintro er w10 ⟨rfl, bb⟩; have B10 := hid (B9.out.trans (bb.mono B9.out.size)); clear bb))
  go_ret
  exact ⟨rfl, HQ1.out.trans ((HB3.out.trans (B10.out.mono h31)).mono HQ1.out.size)⟩
end Go.Proofs.YtfbapbpggicfbaaGreatDoor.Sh
/-
  The document's own of, by contract: what it says of a proof.
-/
namespace Go.Proofs.YtfbapbpggicfbaaGreatDoor.Sh
open Go Go.RowKit

set_option linter.unusedVariables false
set_option linter.unusedSimpArgs false

/-- What 'of' asks of a proof. -/
def OfP (cs : List Crd) (p : PT) (r : Pr) : Prop := p.pr = r ∧ Cor cs p
theorem of_no {cs : List Crd} {p : PT} {r : Pr} (h : look cs (p.d, p.q) = none) : ¬ OfP cs p r := fun e => fol_none h e.2.fol
theorem of_role {cs : List Crd} (ho : OnceI cs) {p : PT} {r : Pr} {c : Crd} (h : look cs (p.d, p.q) = some c) (hr : roleOf c ≠ (p.o, p.n)) : ¬ OfP cs p r := fun e => hr ((fol_iff ho h).1 e.2.fol).1
section
variable {cs : List Crd} {o n x : ByteArray} {d q : Int} {A : Option Addr} {cp : Nat} {ps : List PT} {c : Crd}
theorem of_kind (ho : OnceI cs) (h : look cs (d, q) = some c) (hr : roleOf c = (o, n)) : OfP cs (.mk o n x d q A cp ps) ((o, n), x) ↔ KindP c (.mk o n x d q A cp ps) ∧ ∀ a ∈ ps, Cor cs a := by
  unfold OfP
  rw [cor_iff, fol_iff ho (p := .mk o n x d q A cp ps) h]
  constructor
  · rintro ⟨_, ⟨_, h1⟩, h2⟩; exact ⟨h1, h2⟩
  · rintro ⟨h1, h2⟩; exact ⟨rfl, ⟨hr, h1⟩, h2⟩
theorem of_1 (ho : OnceI cs) (h : look cs (d, q) = some c) (hr : roleOf c = (o, n)) (hk : c.kd = 1) : OfP cs (.mk o n x d q A cp ps) ((o, n), x) ↔ c.wh = x ∧ ps = [] := by
  rw [of_kind ho h hr]
  unfold KindP PT.x PT.ps
  rw [hk]
  simp
  constructor
  · rintro ⟨⟨h1, h2⟩, _⟩; exact ⟨h1.symm, h2⟩
  · rintro ⟨h1, h2⟩; subst h2; exact ⟨⟨h1.symm, rfl⟩, by simp⟩
theorem of_2 (ho : OnceI cs) (h : look cs (d, q) = some c) (hr : roleOf c = (o, n)) (hk : c.kd = 2) : OfP cs (.mk o n x d q A cp ps) ((o, n), x) ↔ ∃ a, ps = [a] ∧ OfP cs a ((c.ao, c.an), x) := by
  rw [of_kind ho h hr]
  unfold KindP PT.x PT.ps OfP
  rw [hk]
  simp
  constructor
  · rintro ⟨⟨a, h1, h2⟩, h3⟩; subst h1; exact ⟨a, rfl, h2, h3 a (by simp)⟩
  · rintro ⟨a, h1, h2, h3⟩; subst h1; exact ⟨⟨a, rfl, h2⟩, fun b hb => by rw [List.mem_singleton] at hb; rw [hb]; exact h3⟩
theorem of_4 (ho : OnceI cs) (h : look cs (d, q) = some c) (hr : roleOf c = (o, n)) (hk : c.kd = 4) : OfP cs (.mk o n x d q A cp ps) ((o, n), x) ↔ ∃ a b, ps = [a, b] ∧ OfP cs a ((c.ao, c.an), x) ∧ OfP cs b ((c.bo, c.bn), x) := by
  rw [of_kind ho h hr]
  unfold KindP PT.x PT.ps OfP
  rw [hk]
  simp
  constructor
  · rintro ⟨⟨a, b, h1, h2, h3⟩, h4⟩; subst h1; exact ⟨a, b, rfl, ⟨h2, h4 a (by simp)⟩, h3, h4 b (by simp)⟩
  · rintro ⟨a, b, h1, ⟨h2, h4⟩, h3, h5⟩
    subst h1
    refine ⟨⟨a, b, rfl, h2, h3⟩, fun y hy => ?_⟩
    rcases List.mem_cons.1 hy with e | e
    · rw [e]; exact h4
    · rw [List.mem_singleton] at e; rw [e]; exact h5
theorem of_3 (ho : OnceI cs) (h : look cs (d, q) = some c) (hr : roleOf c = (o, n)) (hk : c.kd = 3) : OfP cs (.mk o n x d q A cp ps) ((o, n), x) ↔ ∃ a b, ps = [a, b] ∧ isD a.x ∧ OfP cs a (firstOf c, a.x) ∧ OfP cs b ((a.x, c.bn), x) := by
  rw [of_kind ho h hr]
  unfold KindP LinkP PT.x PT.ps OfP
  rw [hk]
  simp
  constructor
  · rintro ⟨⟨a, b, h1, h2, h6, h3⟩, h4⟩; subst h1; exact ⟨a, b, rfl, h6, ⟨h2, h4 a (by simp)⟩, h3, h4 b (by simp)⟩
  · rintro ⟨a, b, h1, h6, ⟨h2, h4⟩, h3, h5⟩
    subst h1
    refine ⟨⟨a, b, rfl, h2, h6, h3⟩, fun y hy => ?_⟩
    rcases List.mem_cons.1 hy with e | e
    · rw [e]; exact h4
    · rw [List.mem_singleton] at e; rw [e]; exact h5
end
end Go.Proofs.YtfbapbpggicfbaaGreatDoor.Sh
/-
  The document's own Same of credentials, at equal lists; Before over IDs in IdAt.
-/
namespace Go.Proofs.YtfbapbpggicfbaaGreatDoor.Sh
open Go Go.RowKit

end Go.Proofs.YtfbapbpggicfbaaGreatDoor.Sh
