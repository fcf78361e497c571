/-
  The walks of RevsetPlays and RevsetDeltas (the contract of lives is their premise).
-/
import Derived.Test.YtifoppnpgljphaaReLike
namespace Go.Proofs.Ytifoppnpgljphaa.Sh
open Go Go.RowKit

set_option linter.unusedSimpArgs false
set_option linter.unusedVariables false
def Lives11 : Prop := ∀ w : World, Calls Try.prog 14 #[] w fun e w' => e = .returned (.bool true) ∧ Below w.heap.size w w'
/-- Both sets, new. -/
theorem both_new {w1 w2 : World} {B gs g gL : Nat} (hs : ∀ P : Nat → Prop, ¬ P gs → SetP w1 P gs S0) (h1 : gs < w1.heap.size) (hb : Below w1.heap.size w1 w2) (h2 : w1.heap.size ≤ g) (h3 : w1.heap.size ≤ gL) (hr : ∀ P : Nat → Prop, ¬ P g → ¬ P gL → SetR w2 P g gL S0)
    (hl : g < w2.heap.size ∧ gL < w2.heap.size) (hB : B ≤ w1.heap.size) : Both w2 B gs g gL S0 :=
  ⟨fun _ => False, fun b => w1.heap.size ≤ b ∧ b < w2.heap.size ∧ b ≠ g ∧ b ≠ gL, ⟨(hs (fun _ => False) id).below hb, hr _ (fun h => h.2.2.1 rfl) (fun h => h.2.2.2 rfl), by omega, by omega, fun _ h => h.elim, id, id, fun h => by omega⟩, fun b h => h.elim False.elim (fun h => ⟨by omega, h.2.1⟩)⟩
set_option maxHeartbeats 16000000 in
theorem revsetPlays_walk (hlv : Lives11) (A : Option Addr) (xs : List Deed) (n c : Nat) (hn : xs.length = n) (hc : n ≤ c) (hm : c ≤ 9223372036854775807) (w : World) (h : Deeds w w.heap.size A xs) :
    Calls Try.prog 3 #[.slice A n c] w fun e w' => e = .returned (.bool true) ∧ Below w.heap.size w w' := by
  have HLV := hid hlv
  have HD := hid h
  have HN := hid hn
  clear hlv h hn
  go_enter Try.func3, Try.ntmps3
  go_wp2_with fail
  refine (new11_any w).mono ?_
  rintro er w1 ⟨gs, rfl, s1, s2, b1, p1⟩
  have HS1 := hid p1
  have HB1 := hid b1
  clear b1 p1
  go_wp2_with fail
  refine (refNew11_any w1).mono ?_
  rintro er w2 ⟨g, gL, rfl, r1, r2, r3, r4, b2, p2⟩
  have HBO : Hid (Both w2 w.heap.size gs g gL S0) := hid (both_new HS1.out s2 b2 r1 r2 p2 ⟨r3, r4⟩ HB1.out.size)
  have HB2 := hid (HB1.out.trans (b2.mono HB1.out.size))
  have hgs : w.heap.size ≤ gs := s1
  have hgL : w.heap.size ≤ gL := by have := HB1.out.size; omega
  clear b2 p2 r1 r2 r3 r4 s1 s2 HS1 HB1
  go_wp2_with fail
  go_loopw [5] (fun i wr => ∃ (k : Nat) (S : Nat → List Int), i = .int .i64 (k : Int) ∧ k ≤ n ∧ k ≤ 60 ∧ Hid (Both wr w.heap.size gs g gL S) ∧ Hid (Below w.heap.size w wr)) (fun i _ => 60 - (intOf i).toNat)
  case atStart => exact ⟨0, S0, rfl, Nat.zero_le _, Nat.zero_le _, HBO, HB2⟩
  case round =>
    clear HBO HB2
    obtain ⟨wj, hwj⟩ : ∃ x, x = wr := ⟨_, rfl⟩
    subst hwj
    obtain ⟨k, S, rfl, hk, hk60, HBO, HB⟩ := hrel
    have hk0 : (0 : Int) ≤ (k : Int) := Int.natCast_nonneg _
    by_cases hlt : k < n
    · have hk1 : (k : Int) < (n : Int) := by omega
      by_cases hlt2 : k < 60
      · have hk2 : (k : Int) < 60 := by omega
        obtain ⟨x, hx⟩ : ∃ x, xs[k]? = some x := ⟨_, List.getElem?_eq_getElem (by rw [HN.out]; exact hlt)⟩
        have HDW := hid (fun W (hW : Below w.heap.size w W) => (HD.out.below (Nat.le_refl _) hW).at hx)
        obtain ⟨ad, aj, dh, hA, hab, haj, hbj, hde, c0, c1, c2, c3, c4⟩ := HDW.out wj HB.out
        subst hA
        have HDO := hid (doesE_any HBO.out HB.out.size hgs hgL hde)
        have HID : Hid (∀ W, Below w.heap.size w W → W.cell? ⟨aj.block, aj.off + 1, none⟩ = some (.int .i64 dh.d) ∧ W.cell? ⟨aj.block, aj.off + 2, none⟩ = some (.int .i64 dh.q)) := hid (fun W hW => by
          have hj : aj.block < w.heap.size := by rw [hbj]; exact hab
          have e1 : ∀ i v, wj.cell? ⟨aj.block, i, none⟩ = some v → W.cell? ⟨aj.block, i, none⟩ = some v := fun i v hv => by
            rw [hW.cell (p := ⟨aj.block, i, none⟩) hj, ← HB.out.cell (p := ⟨aj.block, i, none⟩) hj]; exact hv
          exact ⟨e1 _ _ c1, e1 _ _ c2⟩)
        obtain ⟨kd, d, q, kA, kn, kc, mA, mn, mc⟩ := dh
        simp only at c0 c1 c2 c3 c4 HDO HID
        clear hx hde HDW hab hbj
        go_wp2_with fail
        refine HDO.out.mono ?_
        rintro er w3 ⟨rfl, o3, g3⟩
        have HBO3 := hid o3
        have HB3 := hid (Grew.then_below HB.out g3 HB.out.size (fun b hb => hb))
        clear o3 g3 c0 c1 c2 c3 c4
        go_wp2_with fail
        refine (like_any HBO3.out.s HBO3.out.r).mono ?_
        rintro er w4 ⟨rfl, b4⟩
        have HBO4 := hid (fun W (hW : Below w4.heap.size w4 W) => (HBO3.out.below b4).below hW)
        have HB4 := hid (HB3.out.trans (b4.mono HB3.out.size))
        clear b4
        obtain ⟨bb, hbb⟩ : ∃ b, @decide (hasS (deedS S (cutD x)) d q) (Classical.propDecidable _) = b := ⟨_, rfl⟩
        have HS5 := hid (fun W (hW : Below w4.heap.size w4 W) => has11_any (HBO4.out W hW).s d q)
        have HR5 := hid (fun W (hW : Below w4.heap.size w4 W) => refHas11_any (HBO4.out W hW).r d q)
        rw [hbb] at HS5 HR5
        have HKS : Hid (∀ W, Below w4.heap.size w4 W → W.cell? ⟨aj.block, aj.off + 1, none⟩ = some (.int .i64 d) ∧ W.cell? ⟨aj.block, aj.off + 2, none⟩ = some (.int .i64 q)) := hid (fun W hW => HID.out W (HB4.out.trans (hW.mono HB4.out.size)))
        clear hbb HID
        cases bb
        all_goals
          go_wp2_with fail
          go_region_held3 (fun W => W.cell? ⟨aj.block, aj.off + 1, none⟩ = some (.int .i64 d) ∧ W.cell? ⟨aj.block, aj.off + 2, none⟩ = some (.int .i64 q))
            (first | exact HKS.out _ (Below.refl w4.heap.size w4).drew | exact HKS.out _ BQ8.out | exact HKS.out _ BQ9.out)
            ((first
              | (go_at_call 12; ((refine (HS5.out _ (Below.refl w4.heap.size w4).drew).mono ?_); rintro er w8 ⟨rfl, k8⟩; have BQ8 : Hid (Below w4.heap.size w4 w8) := hid ((Below.refl w4.heap.size w4).drew.trans k8); clear k8))
              | (go_at_call 13; ((refine (HR5.out _ BQ8.out).mono ?_); rintro er w9 ⟨rfl, k9⟩; have BQ9 : Hid (Below w4.heap.size w4 w9) := hid (BQ8.out.trans (k9.mono BQ8.out.size)); clear k9))))
          all_goals
            go_wp2_with fail
            go_roundw
            case rel => exact ⟨k + 1, deedS S (cutD x), by go_num, by omega, by omega, hid (HBO4.out _ BQ9.out), hid (HB4.out.trans (BQ9.out.mono HB4.out.size))⟩
            case measure => simp [intOf]; omega
      · have hk2 : ¬ (k : Int) < 60 := by omega
        go_wp2_with fail
        refine (HLV.out _).mono ?_
        rintro er w3 ⟨rfl, b3⟩
        have HB3 := hid (HB.out.trans (b3.mono HB.out.size))
        clear b3
        go_wp2_with fail
        go_ret
        exact ⟨rfl, HB3.out⟩
    · have hk1 : ¬ (k : Int) < (n : Int) := by omega
      go_wp2_with fail
      refine (HLV.out _).mono ?_
      rintro er w3 ⟨rfl, b3⟩
      have HB3 := hid (HB.out.trans (b3.mono HB.out.size))
      clear b3
      go_wp2_with fail
      go_ret
      exact ⟨rfl, HB3.out⟩
end Go.Proofs.Ytifoppnpgljphaa.Sh
