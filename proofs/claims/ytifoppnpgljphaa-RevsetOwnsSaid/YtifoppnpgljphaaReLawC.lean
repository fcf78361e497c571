/-
  The walk of RevsetGrows (the contract of lives is its premise).
-/
import Derived.Test.YtifoppnpgljphaaReLawB
namespace Go.Proofs.Ytifoppnpgljphaa.Sh
open Go Go.RowKit

set_option linter.unusedSimpArgs false
set_option linter.unusedVariables false
theorem deedS_pre (S : Nat → List Int) (x : Deed) (i : Nat) : S i <+: deedS S x i := by
  unfold deedS; split
  · show S i <+: (if i < 16 then mrow (S i) (vat x.known i).toNat (x.more.getD i []) else S i)
    split
    · exact mrow_pre _ _ _
    · exact List.prefix_refl _
  · unfold addS; split
    · unfold up; split
      · rename_i h; rw [h]; exact List.prefix_append _ _
      · exact List.prefix_refl _
    · exact List.prefix_refl _
theorem Frs.lower {w : World} {B B' n : Nat} {A : Option Addr} {l : List Int} (h : Frs w B A n l) (hb : B' ≤ B) : Frs w B' A n l := ⟨h.len, h.row, fun ad e => ⟨Nat.le_trans hb (h.lies ad e).1, (h.lies ad e).2⟩⟩
theorem Frs.grew {w w' : World} {B n : Nat} {X : Nat → Prop} {A : Option Addr} {l : List Int} (h : Frs w B A n l) (hg : Grew w w' X) (hx : ∀ b, B ≤ b → ¬ X b) : Frs w' B A n l :=
  ⟨h.len, fun h0 => by
    obtain ⟨g, cs, e, hg', hc, hx'⟩ := h.row h0
    have := h.lies _ e
    exact ⟨g, cs, e, (hg.block g this.2 (hx g this.1)).trans hg', hc, hx'⟩, fun ad e => ⟨(h.lies ad e).1, Nat.lt_of_lt_of_le (h.lies ad e).2 hg.size⟩⟩
/-- A row of numbers is none of the headers' own. -/
theorem Frs.apart {w w' : World} {B B' n : Nat} {A : Option Addr} {l : List Int} {v : Value} {hs : List Hd} (h : Frs w B A n l) (o : Own (E := encH) w B' 30 v hs) (hg : w.grownBy w' v.ownBlock) : Frs w' B A n l :=
  ⟨h.len, fun h0 => by
    obtain ⟨g, cs, e, hg', hc, hx'⟩ := h.row h0
    refine ⟨g, cs, e, (hg.block g (Array.getElem?_eq_some_iff.1 hg').1 (fun e2 => ?_)).trans hg', hc, hx'⟩
    obtain ⟨cs2, h2⟩ := own_cellsN o e2.symm
    rw [hg'] at h2
    simp only [Option.some.injEq, Obj.cells.injEq] at h2
    exact absurd h2.2.1 (by decide), fun ad e => ⟨(h.lies ad e).1, Nat.lt_of_lt_of_le (h.lies ad e).2 hg.size⟩⟩
/-- The first j rows as they were, in rows of their own. -/
def WasAt (w : World) (B : Nat) (v : Value) (S : Nat → List Int) (j : Nat) : Prop :=
  ∃ hs : List Hd, Own (E := encH) w B 30 v hs ∧ hs.length = j ∧ ∀ (i : Nat) (h : Hd), hs[i]? = some h → h.n ≤ h.c ∧ h.c ≤ 9223372036854775807 ∧ Frs w B h.A h.n (S i)
theorem WasAt.below {w w' : World} {B j : Nat} {v : Value} {S : Nat → List Int} (h : WasAt w B v S j) (hb : Below w.heap.size w w') : WasAt w' B v S j := by
  obtain ⟨hs, h1, h2, h3⟩ := h
  exact ⟨hs, h1.below hb, h2, fun i x hx => ⟨(h3 i x hx).1, (h3 i x hx).2.1, (h3 i x hx).2.2.below hb⟩⟩
theorem WasAt.grew {w w' : World} {B j : Nat} {X : Nat → Prop} {v : Value} {S : Nat → List Int} (h : WasAt w B v S j) (hg : Grew w w' X) (hx : ∀ b, B ≤ b → ¬ X b) : WasAt w' B v S j := by
  obtain ⟨hs, h1, h2, h3⟩ := h
  exact ⟨hs, h1.kept fun g e => hg.block g (h1.lt g e).2 (hx g (h1.lt g e).1), h2, fun i x hh => ⟨(h3 i x hh).1, (h3 i x hh).2.1, (h3 i x hh).2.2.grew hg hx⟩⟩
theorem WasAt.at {w : World} {B n c j : Nat} {A : Option Addr} {S : Nat → List Int} (h : WasAt w B (.slice A n c) S j) {i : Nat} (hi : i < j) : ∃ ad A' n' c', A = some ad ∧ ad.block < w.heap.size ∧ w.cell? (ad.add i) = some (.slice A' n' c') ∧ n' ≤ c' ∧ c' ≤ 9223372036854775807 ∧ Frs w B A' n' (S i) := by
  obtain ⟨hs, h1, h2, h3⟩ := h
  obtain ⟨x, hx⟩ : ∃ x, hs[i]? = some x := ⟨_, List.getElem?_eq_getElem (by omega)⟩
  obtain ⟨ad, e, hbl, hc⟩ := (own_els h1).hd hx
  obtain ⟨k1, k2, k3⟩ := h3 i x hx
  exact ⟨ad, x.A, x.n, x.c, e, hbl, hc, k1, k2, k3⟩
set_option maxHeartbeats 16000000 in
set_option maxRecDepth 100000 in
theorem revsetGrows_walk (hlv : Lives11) (A : Option Addr) (xs : List Deed) (n c : Nat) (hn : xs.length = n) (hc : n ≤ c) (hm : c ≤ 9223372036854775807) (w : World) (h : Deeds w w.heap.size A xs) :
    Calls Try.prog 5 #[.slice A n c] w fun e w' => e = .returned (.bool true) ∧ Below w.heap.size w w' := by
  have HLV := hid hlv
  have HD := hid h
  have HN := hid hn
  clear hlv h hn
  go_enter Try.func5, Try.ntmps5
  go_wp2_with fail
  refine (new11_any w).mono ?_
  rintro er w1 ⟨gs, rfl, s1, s2, b1, p1⟩
  have HS1 := hid (p1 (fun b => b ≠ gs ∧ w.heap.size ≤ b) (fun h => h.1 rfl))
  have HB1 := hid b1
  have hgs : w.heap.size ≤ gs := s1
  clear b1 p1 s1 s2
  go_wp2_with fail
  go_loopw [4] (fun i wr => ∃ (k : Nat) (S : Nat → List Int), i = .int .i64 (k : Int) ∧ k ≤ n ∧ k ≤ 60 ∧ Hid (SetP wr (fun b => b ≠ gs ∧ w.heap.size ≤ b) gs S) ∧ Hid (Below w.heap.size w wr)) (fun i _ => 60 - (intOf i).toNat)
  case atStart => exact ⟨0, S0, rfl, Nat.zero_le _, Nat.zero_le _, HS1, HB1⟩
  case round =>
    clear HS1 HB1
    obtain ⟨wj, hwj⟩ : ∃ x, x = wr := ⟨_, rfl⟩
    subst hwj
    obtain ⟨k, S, rfl, hk, hk60, HSP, HB⟩ := hrel
    have hk0 : (0 : Int) ≤ (k : Int) := Int.natCast_nonneg _
    by_cases hlt : k < n ∧ k < 60
    · have hk1 : (k : Int) < (n : Int) := by omega
      have hk2 : (k : Int) < 60 := by omega
      obtain ⟨x, hx⟩ : ∃ x, xs[k]? = some x := ⟨_, List.getElem?_eq_getElem (by rw [HN.out]; exact hlt.1)⟩
      have HDW := hid (fun W (hW : Below w.heap.size w W) => (HD.out.below (Nat.le_refl _) hW).at hx)
      have hgl := HSP.out.lt
      have HGL := hid hgl
      clear hx hgl
      go_wp2_with fail
      go_loopw [5, 6] (fun v i wr => ∃ (A1 : Option Addr) (c1 j : Nat), v = .slice A1 j c1 ∧ i = .int .i64 ((j : Int) + 1) ∧ j ≤ 16 ∧ Hid (WasAt wr wj.heap.size (.slice A1 j c1) S j) ∧ Hid (Below wj.heap.size wj wr)) (fun _ i _ => 17 - (intOf i).toNat)
      case atStart => exact ⟨none, 0, 0, rfl, rfl, Nat.zero_le _, hid ⟨[], Own.nil _ _ _, rfl, fun i h hh => by simp at hh⟩, hid (Below.refl _ _)⟩
      case round =>
        obtain ⟨wi, hwi⟩ : ∃ x, x = wr := ⟨_, rfl⟩
        subst hwi
        obtain ⟨A1, c1, j, rfl, rfl, hj, HWA, HBI⟩ := hrel
        have hj0 : (0 : Int) ≤ (j : Int) := Int.natCast_nonneg _
        by_cases hltj : j < 16
        · have hj1 : (j : Int) + 1 ≤ 16 := by omega
          have HRW := hid (row11_any (HSP.out.below HBI.out) ((j : Int) + 1))
          rw [rowS_at hltj] at HRW
          go_wp2_with fail
          refine HRW.out.mono ?_
          rintro er w3 ⟨A3, n3, c3, rfl, q1, q2, f3, b3⟩
          have HF3 : Hid (Frs (w3.alloc (.cells #[.slice A3 n3 c3] 30)) wj.heap.size A3 n3 (S j)) := hid ((f3.lower HBI.out.size).below ((Below.refl _ _).alloc (Nat.le_refl _) _))
          have HB3 := hid (HBI.out.trans (b3.mono HBI.out.size))
          have HBA := hid (HB3.out.alloc HB3.out.size (.cells #[.slice A3 n3 c3] 30))
          have HWB : Hid (WasAt (w3.alloc (.cells #[.slice A3 n3 c3] 30)) wj.heap.size (.slice A1 j c1) S j) := hid ((HWA.out.below b3).below ((Below.refl _ _).alloc (Nat.le_refl _) _))
          obtain ⟨hs, hO1, hL1, hE1⟩ := HWB.out
          have HO1 := hid hO1
          have HRD := hid (reads_new w3 #[.slice A3 n3 c3] 30 (0, 0))
          have hbs : wj.heap.size ≤ (w3.alloc (.cells #[.slice A3 n3 c3] 30)).heap.size := HBA.out.size
          have hfl : hs.length ≤ 1000000000000 := by omega
          have HL1 := hid hL1
          have HFR : Hid (∀ (A9 : Option Addr) (c9 : Nat) (w9 : World), Own (E := encH) w9 wj.heap.size 30 (.slice A9 (j + 1) c9) (hs ++ [⟨A3, n3, c3⟩]) → (w3.alloc (.cells #[.slice A3 n3 c3] 30)).grownBy w9 (Value.slice A1 j c1).ownBlock → WasAt w9 wj.heap.size (.slice A9 (j + 1) c9) S (j + 1) ∧ Below wj.heap.size wj w9) := hid (fun A9 c9 w9 o9 g9 => by
            refine ⟨⟨_, o9, by rw [List.length_append, hL1]; rfl, fun i h hh => ?_⟩, HBA.out.grown g9 HBA.out.size (fun b e => (hO1.lt b e).1)⟩
            by_cases hi : i < hs.length
            · rw [List.getElem?_append_left hi] at hh
              obtain ⟨k1, k2, k3⟩ := hE1 i h hh
              exact ⟨k1, k2, k3.apart hO1 g9⟩
            · have hi2 : i = j := by
                have := (List.getElem?_eq_some_iff.1 hh).1
                simp at this; omega
              subst hi2
              rw [List.getElem?_append_right (by omega)] at hh
              simp [hL1] at hh
              subst hh
              exact ⟨q1, q2, HF3.out.apart hO1 g9⟩)
          clear hO1 hL1 hE1 f3 b3
          go_wp2_with (first | (at_builtin; refine wpList_app1 (E := encH) rfl slH (.tmp 27) (.tmp 31) rfl (B := wj.heap.size) (v := .slice A1 j c1) (l := hs) HO1.out rfl (ad := ⟨w3.heap.size, 0, none⟩) (c := 1) ⟨A3, n3, c3⟩ rfl HRD.out hfl (by omega) hbs ?_; intro A9 c9 w9 ho9 hg9 he9; rw [HL1.out] at ho9; obtain ⟨k1, k2⟩ := HFR.out A9 c9 w9 ho9 hg9; have K1 := hid k1; have K2 := hid k2; clear ho9 hg9 he9 k1 k2) | go_in)
          rw [HL1.out]
          go_roundw
          case rel => exact ⟨A9, c9, j + 1, rfl, by go_num, by omega, K1, K2⟩
          case measure => simp [intOf]; omega
        · obtain rfl : j = 16 := by omega
          have HBI2 := hid (HB.out.trans (HBI.out.mono HB.out.size))
          obtain ⟨ad, aj, dh, hA, hab, haj, hbj, hde, c0, c1', c2, c3, c4⟩ := HDW.out wi HBI2.out
          subst hA
          have HC := hid (cut_any hde)
          obtain ⟨kd, d, q, kA, kn, kc, mA, mn, mc⟩ := dh
          simp only at c0 c1' c2 c3 c4 HC
          clear hde hab hbj
          go_wp2_with fail
          refine HC.out.mono ?_
          rintro er w4 ⟨dh', rfl, a4, b4⟩
          obtain ⟨ke, de, qe, kAe, kne, kce, mAe, mne, mce⟩ := dh'
          simp only
          obtain ⟨w5, hw5⟩ : ∃ y, y = w4.alloc (.cells #[.int .i64 ke, .int .i64 de, .int .i64 qe, .slice kAe kne kce, .slice mAe mne mce] 33) := ⟨_, rfl⟩
          have HX5 : Hid (DhAt w5 w4.heap.size ⟨ke, de, qe, kAe, kne, kce, mAe, mne, mce⟩) := hid (by rw [hw5]; exact DhAt.new w4 ⟨ke, de, qe, kAe, kne, kce, mAe, mne, mce⟩)
          have HB45 : Hid (Below w4.heap.size w4 w5) := hid (by rw [hw5]; exact (Below.refl _ _).alloc (Nat.le_refl _) _)
          have HB5 : Hid (Below wj.heap.size wj w5) := hid ((HBI.out.trans (b4.mono HBI.out.size)).trans (HB45.out.mono (by have := HBI.out.size; have := b4.size; omega)))
          have HA5 := hid (a4.grew (Grew.of_below (X := fun _ => False) HB45.out) (fun _ _ h => h))
          have HW5 : Hid (WasAt w5 wj.heap.size (.slice A1 16 c1) S 16) := hid ((HWA.out.below b4).below HB45.out)
          have HSP5 : Hid (SetP w5 (fun b => (b ≠ gs ∧ w.heap.size ≤ b) ∧ b < wj.heap.size) gs S) := hid ((HSP.out.imp (Q := fun b => (b ≠ gs ∧ w.heap.size ≤ b) ∧ b < wj.heap.size) (fun b hp hl => ⟨hp, hl⟩) (fun h => h.1.1 rfl)).below HB5.out)
          have HSPN : Hid (∀ (w6 : World) (T : Nat → List Int), SetP w6 (upTo (fun b => (b ≠ gs ∧ w.heap.size ≤ b) ∧ b < wj.heap.size) w5.heap.size w6.heap.size) gs T → SetP w6 (fun b => b ≠ gs ∧ w.heap.size ≤ b) gs T) := hid (fun w6 T h => h.imp (fun b hp _ => by
            have h1 := HGL.out
            have h2 := HB.out.size
            have h3 := HB5.out.size
            rcases hp with ⟨hp, _⟩ | ⟨hp, _⟩
            · exact hp.1
            · exact ⟨by omega, by omega⟩) (fun h => h.1 rfl))
          have HWW := hid hw5
          have HNQ : Hid (¬ ((gs < w.heap.size) ∨ wi.heap.size ≤ gs)) := hid (by have := HBI.out.size; have := HGL.out; omega)
          have hkl := HA5.out.kl
          have hml := HA5.out.ml
          have hkk := HA5.out.kind
          have hdd := HA5.out.d
          have hqq := HA5.out.q
          have hmle := cutL_len x.more
          simp only at hkl hml hkk hdd hqq
          have hmn : mne ≤ 20 := by rw [← hml]; exact hmle
          have hkn : kne ≤ 20 := by rw [← hkl]; simp [cutD]; omega
          have HKL := hid hkl
          have HML := hid hml
          have HDD := hid hdd
          have HQQ := hid hqq
          have HKK := hid hkk
          obtain ⟨x0, x1, x2, x3, x4⟩ := HX5.out.all
          simp only at x0 x1 x2 x3 x4
          have HSPX : Hid (∀ W, Grew w5 W (fun b => b = gs ∨ ((b ≠ gs ∧ w.heap.size ≤ b) ∧ b < wj.heap.size)) → WasAt W wj.heap.size (.slice A1 16 c1) S 16 ∧ Below w.heap.size w W) := hid (fun W hW => ⟨HW5.out.grew hW (fun b hb he => by have := HGL.out; rcases he with e | e <;> omega), Grew.then_below (HB.out.trans (HB5.out.mono HB.out.size)) hW (by have := HB.out.size; have := HB5.out.size; omega) (fun b hb => by rcases hb with e | e <;> omega)⟩)
          clear hkl hml hmle hdd hqq hkk hw5 a4 b4 c0 c1' c2 c3 c4
          go_upto_region 13 with fail
          rw [← HWW.out]
          by_cases hk1' : ke = 1
          · subst hk1'
            have HDE : Hid (deedS S (cutD x) = mergeS S (cutD x).known (cutD x).more 16) := hid (deedS_m HKK.out.symm)
            have HMS := hid (mergeX_any (Q := fun b => b < w.heap.size ∨ wi.heap.size ≤ b) HSP5.out HNQ.out kAe (cutD x).known kne kce HKL.out (by omega) HA5.out.ke mAe (cutD x).more mne mce HML.out (by omega) (fun l hl => by have := cutL_mem l hl; omega) HA5.out.mw HA5.out.me)
            go_wp2_with fail
            refine HMS.out.mono ?_
            rintro er w6 ⟨rfl, h6, g6⟩
            have HSP6 : Hid (SetP w6 (fun b => b ≠ gs ∧ w.heap.size ≤ b) gs (deedS S (cutD x))) := hid (by rw [HDE.out]; exact HSPN.out w6 _ h6)
            obtain ⟨h7, h8⟩ := HSPX.out w6 g6
            have HW6 := hid h7
            have HB6 := hid h8
            clear h6 g6 h7 h8
            go_wp2_with fail
            have HSD : Hid (∀ i, S i <+: deedS S (cutD x) i) := hid (deedS_pre S (cutD x))
            have HSO := hid HSP6.out.ok
            obtain ⟨S', hS'⟩ : ∃ S', deedS S (cutD x) = S' := ⟨_, rfl⟩
            rw [hS'] at HSP6 HSD HSO
            clear hS' x0 x1 x2 x3 x4
            go_loopw [8] (fun i wr => ∃ j : Nat, i = .int .i64 ((j : Int) + 1) ∧ j ≤ 16 ∧ Hid (SetP wr (fun b => b ≠ gs ∧ w.heap.size ≤ b) gs S') ∧ Hid (WasAt wr wj.heap.size (.slice A1 16 c1) S 16) ∧ Hid (Below w.heap.size w wr)) (fun i _ => 17 - (intOf i).toNat)
            case atStart => exact ⟨0, rfl, Nat.zero_le _, HSP6, HW6, HB6⟩
            case round =>
              clear HSP6 HW6 HB6
              obtain ⟨wv, hwv⟩ : ∃ y, y = wr := ⟨_, rfl⟩
              subst hwv
              obtain ⟨j, rfl, hj, HSV, HWV, HBV⟩ := hrel
              have hj0 : (0 : Int) ≤ (j : Int) := Int.natCast_nonneg _
              by_cases hltj : j < 16
              · have hj1 : (j : Int) + 1 ≤ 16 := by omega
                have hj2 : (j : Int) < 16 := by omega
                have e1 : (j : Int) + 1 - 1 = (j : Int) := by omega
                have e2 : IntKind.i64.wrap ((j : Int) + 1 - 1) = (j : Int) := by rw [e1, IntKind.wrap_i64]; omega
                have e3 : IntKind.i64.wrap (j : Int) = (j : Int) := by rw [IntKind.wrap_i64]; omega
                obtain ⟨ad2, A', n', c', hA2, hbl, hcw, _, _, hfw⟩ := HWV.out.at hltj
                subst hA2
                have HCW : Hid (∀ W, Below wv.heap.size wv W → W.cell? (ad2.add j) = some (.slice A' n' c')) := hid (fun W hW => (hW.cell (by rw [block_add]; exact hbl)).trans hcw)
                have HFW : Hid (∀ W, Below wv.heap.size wv W → Els encN W W.heap.size A' (S j)) := hid (fun W hW => (hfw.below hW).els1)
                have HFL : Hid ((S j).length = n') := hid hfw.len
                have HRW := hid (fun W (hW : Below wv.heap.size wv W) => row11_any (HSV.out.below hW) ((j : Int) + 1))
                rw [rowS_at hltj] at HRW
                have hp := HSD.out j
                have hrl := (HSO.out j).len
                have hsl := hp.length_le
                obtain ⟨row, hrow⟩ : ∃ y, S' j = y := ⟨_, rfl⟩
                rw [hrow] at HRW hp hrl hsl
                obtain ⟨old, hold⟩ : ∃ y, S j = y := ⟨_, rfl⟩
                rw [hold] at HFW HFL hp hsl
                have HBG : Hid (∀ (W : World) (A3 : Option Addr) (n3 c3 : Nat), row.length = n3 → n3 ≤ c3 → c3 ≤ 9223372036854775807 → Els encN W W.heap.size A3 row → Els encN W W.heap.size A' old → Calls Try.prog 22 #[.slice A3 n3 c3, .slice A' n' c'] W fun e w' => e = .returned (.bool true) ∧ Below W.heap.size W w') := hid (fun W A3 n3 c3 q0 q1 q2 q3 q4 =>
                  (begins11_any A3 A' row old n3 n' c3 c' q0 HFL.out q1 q2 (by omega) (by have := HFL.out; omega) W q3 q4).mono fun e w' ⟨a1, k, a2⟩ => ⟨by rw [a1, show decide (old <+: row) = true from decide_eq_true hp], by subst a2; exact below_drewN (Below.refl _ _) k⟩)
                have HRL := hid hrl
                clear hcw hfw hbl hp hsl hrow hold hrl
                go_wp2_with fail
                go_region_held3 (fun W => W.cell? (ad2.add j) = some (.slice A' n' c'))
                  (first | exact HCW.out _ (Below.refl wv.heap.size wv).drew | exact HCW.out _ BQ8.out | exact HCW.out _ BQ9.out)
                  ((first
                    | (go_at_call 18; ((refine (HRW.out _ (Below.refl wv.heap.size wv).drew).mono ?_); rintro er w8 ⟨A3, n3, c3, rfl, q1, q2, f3, k8⟩; have HF8 := hid f3.els1; have HL8 := hid f3.len; have BQ8 : Hid (Below wv.heap.size wv w8) := hid ((Below.refl wv.heap.size wv).drew.trans k8); clear k8 f3))
                    | (go_at_call 22; ((refine (HBG.out w8 A3 n3 c3 HL8.out q1 q2 HF8.out (HFW.out w8 BQ8.out)).mono ?_); rintro er w9 ⟨rfl, k9⟩; have BQ9 : Hid (Below wv.heap.size wv w9) := hid (BQ8.out.trans (k9.mono BQ8.out.size)); clear k9))))
                all_goals
                  go_wp2_with fail
                  refine (HRW.out _ BQ9.out).mono ?_
                  rintro er w10 ⟨A4, n4, c4, rfl, _, _, f4, b4⟩
                  have h432 : ¬ (32 : Int) < (n4 : Int) := by have h1 := f4.len; have h2 := HRL.out; omega
                  have HQ10 := hid (BQ9.out.trans (b4.mono BQ9.out.size))
                  clear f4 b4
                  go_wp2_with fail
                  go_roundw
                  case rel => exact ⟨j + 1, by go_num, by omega, hid (HSV.out.below HQ10.out), hid (HWV.out.below HQ10.out), hid (HBV.out.trans (HQ10.out.mono HBV.out.size))⟩
                  case measure => simp [intOf]; omega
              · obtain rfl : j = 16 := by omega
                go_wp2_with fail
                go_roundw
                case rel => exact ⟨k + 1, S', by go_num, by omega, by omega, HSV, HBV⟩
                case measure => simp [intOf]; omega
          · have hk2' : (ke == 1) = false := beq_eq_false_iff_ne.2 hk1'
            have HDE : Hid (deedS S (cutD x) = addS S de qe) := hid (by rw [deedS_a (by rw [← HKK.out]; exact hk1'), HDD.out, HQQ.out])
            have HMS := hid (addX_any HSP5.out de qe)
            go_wp2_with fail
            refine HMS.out.mono ?_
            rintro er w6 ⟨rfl, h6, g6⟩
            have HSP6 : Hid (SetP w6 (fun b => b ≠ gs ∧ w.heap.size ≤ b) gs (deedS S (cutD x))) := hid (by rw [HDE.out]; exact HSPN.out w6 _ h6)
            obtain ⟨h7, h8⟩ := HSPX.out w6 g6
            have HW6 := hid h7
            have HB6 := hid h8
            clear h6 g6 h7 h8
            go_wp2_with fail
            have HSD : Hid (∀ i, S i <+: deedS S (cutD x) i) := hid (deedS_pre S (cutD x))
            have HSO := hid HSP6.out.ok
            obtain ⟨S', hS'⟩ : ∃ S', deedS S (cutD x) = S' := ⟨_, rfl⟩
            rw [hS'] at HSP6 HSD HSO
            clear hS' x0 x1 x2 x3 x4
            go_loopw [8] (fun i wr => ∃ j : Nat, i = .int .i64 ((j : Int) + 1) ∧ j ≤ 16 ∧ Hid (SetP wr (fun b => b ≠ gs ∧ w.heap.size ≤ b) gs S') ∧ Hid (WasAt wr wj.heap.size (.slice A1 16 c1) S 16) ∧ Hid (Below w.heap.size w wr)) (fun i _ => 17 - (intOf i).toNat)
            case atStart => exact ⟨0, rfl, Nat.zero_le _, HSP6, HW6, HB6⟩
            case round =>
              clear HSP6 HW6 HB6
              obtain ⟨wv, hwv⟩ : ∃ y, y = wr := ⟨_, rfl⟩
              subst hwv
              obtain ⟨j, rfl, hj, HSV, HWV, HBV⟩ := hrel
              have hj0 : (0 : Int) ≤ (j : Int) := Int.natCast_nonneg _
              by_cases hltj : j < 16
              · have hj1 : (j : Int) + 1 ≤ 16 := by omega
                have hj2 : (j : Int) < 16 := by omega
                have e1 : (j : Int) + 1 - 1 = (j : Int) := by omega
                have e2 : IntKind.i64.wrap ((j : Int) + 1 - 1) = (j : Int) := by rw [e1, IntKind.wrap_i64]; omega
                have e3 : IntKind.i64.wrap (j : Int) = (j : Int) := by rw [IntKind.wrap_i64]; omega
                obtain ⟨ad2, A', n', c', hA2, hbl, hcw, _, _, hfw⟩ := HWV.out.at hltj
                subst hA2
                have HCW : Hid (∀ W, Below wv.heap.size wv W → W.cell? (ad2.add j) = some (.slice A' n' c')) := hid (fun W hW => (hW.cell (by rw [block_add]; exact hbl)).trans hcw)
                have HFW : Hid (∀ W, Below wv.heap.size wv W → Els encN W W.heap.size A' (S j)) := hid (fun W hW => (hfw.below hW).els1)
                have HFL : Hid ((S j).length = n') := hid hfw.len
                have HRW := hid (fun W (hW : Below wv.heap.size wv W) => row11_any (HSV.out.below hW) ((j : Int) + 1))
                rw [rowS_at hltj] at HRW
                have hp := HSD.out j
                have hrl := (HSO.out j).len
                have hsl := hp.length_le
                obtain ⟨row, hrow⟩ : ∃ y, S' j = y := ⟨_, rfl⟩
                rw [hrow] at HRW hp hrl hsl
                obtain ⟨old, hold⟩ : ∃ y, S j = y := ⟨_, rfl⟩
                rw [hold] at HFW HFL hp hsl
                have HBG : Hid (∀ (W : World) (A3 : Option Addr) (n3 c3 : Nat), row.length = n3 → n3 ≤ c3 → c3 ≤ 9223372036854775807 → Els encN W W.heap.size A3 row → Els encN W W.heap.size A' old → Calls Try.prog 22 #[.slice A3 n3 c3, .slice A' n' c'] W fun e w' => e = .returned (.bool true) ∧ Below W.heap.size W w') := hid (fun W A3 n3 c3 q0 q1 q2 q3 q4 =>
                  (begins11_any A3 A' row old n3 n' c3 c' q0 HFL.out q1 q2 (by omega) (by have := HFL.out; omega) W q3 q4).mono fun e w' ⟨a1, k, a2⟩ => ⟨by rw [a1, show decide (old <+: row) = true from decide_eq_true hp], by subst a2; exact below_drewN (Below.refl _ _) k⟩)
                have HRL := hid hrl
                clear hcw hfw hbl hp hsl hrow hold hrl
                go_wp2_with fail
                go_region_held3 (fun W => W.cell? (ad2.add j) = some (.slice A' n' c'))
                  (first | exact HCW.out _ (Below.refl wv.heap.size wv).drew | exact HCW.out _ BQ8.out | exact HCW.out _ BQ9.out)
                  ((first
                    | (go_at_call 18; ((refine (HRW.out _ (Below.refl wv.heap.size wv).drew).mono ?_); rintro er w8 ⟨A3, n3, c3, rfl, q1, q2, f3, k8⟩; have HF8 := hid f3.els1; have HL8 := hid f3.len; have BQ8 : Hid (Below wv.heap.size wv w8) := hid ((Below.refl wv.heap.size wv).drew.trans k8); clear k8 f3))
                    | (go_at_call 22; ((refine (HBG.out w8 A3 n3 c3 HL8.out q1 q2 HF8.out (HFW.out w8 BQ8.out)).mono ?_); rintro er w9 ⟨rfl, k9⟩; have BQ9 : Hid (Below wv.heap.size wv w9) := hid (BQ8.out.trans (k9.mono BQ8.out.size)); clear k9))))
                all_goals
                  go_wp2_with fail
                  refine (HRW.out _ BQ9.out).mono ?_
                  rintro er w10 ⟨A4, n4, c4, rfl, _, _, f4, b4⟩
                  have h432 : ¬ (32 : Int) < (n4 : Int) := by have h1 := f4.len; have h2 := HRL.out; omega
                  have HQ10 := hid (BQ9.out.trans (b4.mono BQ9.out.size))
                  clear f4 b4
                  go_wp2_with fail
                  go_roundw
                  case rel => exact ⟨j + 1, by go_num, by omega, hid (HSV.out.below HQ10.out), hid (HWV.out.below HQ10.out), hid (HBV.out.trans (HQ10.out.mono HBV.out.size))⟩
                  case measure => simp [intOf]; omega
              · obtain rfl : j = 16 := by omega
                go_wp2_with fail
                go_roundw
                case rel => exact ⟨k + 1, S', by go_num, by omega, by omega, HSV, HBV⟩
                case measure => simp [intOf]; omega
    · by_cases hk1 : (k : Int) < (n : Int)
      all_goals
        try have hk2 : ¬ (k : Int) < 60 := (by omega)
        go_wp2_with fail
        refine (HLV.out _).mono ?_
        rintro er w3 ⟨rfl, b3⟩
        have HB3 := hid (HB.out.trans (b3.mono HB.out.size))
        clear b3
        go_wp2_with fail
        go_ret
        exact ⟨rfl, HB3.out⟩
end Go.Proofs.Ytifoppnpgljphaa.Sh
