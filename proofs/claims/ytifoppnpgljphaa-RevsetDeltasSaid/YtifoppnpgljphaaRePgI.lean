/-
  The program's own set: Delta, by contract.
-/
import Derived.Test.YtifoppnpgljphaaRePgH
namespace Go.Proofs.Ytifoppnpgljphaa.Sh
open Go Go.RowKit

set_option linter.unusedSimpArgs false
set_option linter.unusedVariables false
/-- Lists of the call's own, perhaps with more in their blocks. -/
structure FrsLL (w : World) (B : Nat) (A : Option Addr) (n : Nat) (ll : List (List Int)) : Prop where
  len : ll.length = n
  rows : 0 < n → ∃ (g : Nat) (cs : Array Value), A = some ⟨g, 0, none⟩ ∧ B ≤ g ∧ w.heap[g]? = some (.cells cs 30 (0, 0)) ∧ ∀ (i : Nat) (l : List Int), ll[i]? = some l → ∃ h : Hd, cs[i]? = some h.val ∧ l.length = h.n ∧ h.n ≤ h.c ∧ h.c ≤ 9223372036854775807 ∧ Frs w B h.A h.n l
theorem OwnLL.frs {w : World} {B n c : Nat} {A : Option Addr} {ll : List (List Int)} (h : OwnLL w B (.slice A n c) ll) (hn : ll.length = n) : FrsLL w B A n ll where
  len := hn
  rows h0 := by
    obtain ⟨hs, h1, h2, h3⟩ := h
    rcases h1.2 with ⟨e, h4⟩ | ⟨g, cap, cur, e, k1, k2, k3, k4, k5, k6⟩
    · omega
    · simp only [Value.slice.injEq] at e
      refine ⟨g, cur, e.1, k1, k2, fun i l hl => ?_⟩
      obtain ⟨x, hx⟩ : ∃ x, hs[i]? = some x := ⟨_, List.getElem?_eq_getElem (by rw [h2]; exact (List.getElem?_eq_some_iff.1 hl).1)⟩
      obtain ⟨q1, q2⟩ := h3 i x l hx hl
      obtain ⟨q3, q4, q5⟩ := Own.asFrs (show Own (E := encN) w B 3 (.slice x.A x.n x.c) l from q2) q1
      refine ⟨x, ?_, q1, q3, q4, q5⟩
      have e2 : (ev encH hs)[i]? = some x.val := by rw [ev_hd, List.getElem?_map, hx]; rfl
      rw [← k6, List.getElem?_take] at e2
      split at e2
      · simpa using e2
      · cases e2
theorem delta_nil {S : Nat → List Int} {known : List Int} {j : Nat} (h : partS S known j = []) : trimL (partsTo S known (j + 1)) = trimL (partsTo S known j) := by
  rw [partsTo_succ, h, trimL_snoc_nil]
theorem delta_ne {S : Nat → List Int} {known : List Int} {j : Nat} (h : partS S known j ≠ []) : trimL (partsTo S known (j + 1)) = (trimL (partsTo S known j) ++ List.replicate (j - (trimL (partsTo S known j)).length) []) ++ [partS S known j] := by
  rw [partsTo_succ, trimL_snoc_ne _ h]
  congr 1
  have := (trimL_pad (partsTo S known j)).2
  rw [partsTo_len] at this
  exact this
set_option maxHeartbeats 8000000 in
theorem delta11_any {w : World} {P : Nat → Prop} {g : Nat} {S : Nat → List Int} (h : SetP w P g S) (A : Option Addr) (known : List Int) (n c : Nat) (hn : known.length = n) (hm : n ≤ 9223372036854775807) (hk : Els encN w w.heap.size A known) :
    Calls Try.prog 16 #[.pointer (some ⟨g, 0, none⟩), .slice A n c] w fun e w' => ∃ (A' : Option Addr) (m c' : Nat), e = .returned (.slice A' m c') ∧ m ≤ c' ∧ c' ≤ 9223372036854775807 ∧ FrsLL w' w.heap.size A' m (deltaS S known) ∧ Below w.heap.size w w' := by
  obtain ⟨hs, cs, r⟩ := h.rows
  have HOK := hid h.ok
  have HR := hid (fun W (hW : Below w.heap.size w W) => r.below hW)
  have HCC : Hid (∀ W, Below w.heap.size w W → ∀ i, i < 16 → W.cell? ⟨g, i, none⟩ = some (.slice (hs i).A (hs i).n (hs i).c)) := hid (fun W hW i hi => (r.below hW).cells i hi)
  have HG := hid (fun (j : Nat) (hj : j < 16) W (hW : Below w.heap.size w W) => getJ_any A known n c hn hm j hj W ((hk.below hW).more hW.size))
  have HI := hid (idx16 hs)
  have k0 := HCC.out w (Below.refl _ _) 0 (by omega)
  have k1 := HCC.out w (Below.refl _ _) 1 (by omega)
  have k2 := HCC.out w (Below.refl _ _) 2 (by omega)
  have k3 := HCC.out w (Below.refl _ _) 3 (by omega)
  have k4 := HCC.out w (Below.refl _ _) 4 (by omega)
  have k5 := HCC.out w (Below.refl _ _) 5 (by omega)
  have k6 := HCC.out w (Below.refl _ _) 6 (by omega)
  have k7 := HCC.out w (Below.refl _ _) 7 (by omega)
  have k8 := HCC.out w (Below.refl _ _) 8 (by omega)
  have k9 := HCC.out w (Below.refl _ _) 9 (by omega)
  have k10 := HCC.out w (Below.refl _ _) 10 (by omega)
  have k11 := HCC.out w (Below.refl _ _) 11 (by omega)
  have k12 := HCC.out w (Below.refl _ _) 12 (by omega)
  have k13 := HCC.out w (Below.refl _ _) 13 (by omega)
  have k14 := HCC.out w (Below.refl _ _) 14 (by omega)
  have k15 := HCC.out w (Below.refl _ _) 15 (by omega)
  clear h r hk hn
  go_enter Try.func16, Try.ntmps16
  go_wp2_with fail
  clear k0 k1 k2 k3 k4 k5 k6 k7 k8 k9 k10 k11 k12 k13 k14 k15
  go_loopw [5, 13] (fun v i wr => ∃ (A1 : Option Addr) (c1 j m : Nat), v = .slice A1 m c1 ∧ i = .int .i64 (j : Int) ∧ j ≤ 16 ∧ m ≤ j ∧ Hid ((trimL (partsTo S known j)).length = m) ∧ Hid (OwnLL wr w.heap.size (.slice A1 m c1) (trimL (partsTo S known j))) ∧ Hid (Below w.heap.size w wr)) (fun _ i _ => 16 - (intOf i).toNat)
  case atStart => exact ⟨none, 0, 0, 0, rfl, rfl, Nat.zero_le _, Nat.le_refl _, hid rfl, hid (OwnLL.nil _ _), hid (Below.refl _ _)⟩
  case round =>
    obtain ⟨wj, hwj⟩ : ∃ x, x = wr := ⟨_, rfl⟩
    subst hwj
    obtain ⟨A1, c1, j, m, rfl, rfl, hj, hmj, HM, HO, HB⟩ := hrel
    have hk0 : (0 : Int) ≤ (j : Int) := Int.natCast_nonneg _
    have hm0 : (0 : Int) ≤ (m : Int) := Int.natCast_nonneg _
    have hmj1 : (m : Int) ≤ (j : Int) := by omega
    by_cases hlt : j < 16
    · have hk1 : (j : Int) < 16 := by omega
      have hix := HI.out j hlt
      obtain ⟨row, hrow⟩ : ∃ row, S j = row := ⟨_, rfl⟩
      obtain ⟨K, hK⟩ : ∃ K : Nat, vat known j = (K : Int) := ⟨(vat known j).toNat, by have := (vat_b known j).1; omega⟩
      have HPS : Hid (partS S known j = row.drop K) := hid (by unfold partS; rw [hrow, hK, Int.toNat_natCast])
      have HGJ := hid (fun W (hW : Below w.heap.size w W) => HG.out j hlt W hW)
      rw [hK] at HGJ
      have hK0 : (0 : Int) ≤ (K : Int) := Int.natCast_nonneg _
      have HLN : Hid (row.length = (hs j).n) := hid (by rw [← hrow]; exact (HR.out wj HB.out).len j hlt)
      have HOW : Hid (∀ W, Below w.heap.size w W → Own (E := encN) W 0 3 (.slice (hs j).A (hs j).n (hs j).c) row) := hid (fun W hW => by rw [← hrow]; exact (HR.out W hW).own j hlt)
      have HRO : Hid (row.length ≤ 32) := hid (by rw [← hrow]; exact (HOK.out j).len)
      obtain ⟨⟨xA, xn, xc⟩, hx⟩ : ∃ x, hs j = x := ⟨_, rfl⟩
      rw [hx] at hix HLN HOW
      simp only at hix HLN HOW
      have hx0 : (0 : Int) ≤ (xn : Int) := Int.natCast_nonneg _
      clear hrow hK hx HI HCC
      by_cases hle : xn ≤ K
      · have hle1 : (xn : Int) ≤ (K : Int) := by omega
        have HZ : Hid (trimL (partsTo S known (j + 1)) = trimL (partsTo S known j)) := hid (delta_nil (by rw [HPS.out]; exact List.drop_of_length_le (by rw [HLN.out]; exact hle)))
        go_wp2_with fail
        refine (HGJ.out _ HB.out).mono ?_
        rintro er wq ⟨rfl, hw⟩
        have hw2 : wj = wq := hw
        subst hw2
        clear hw
        go_wp2_with fail
        go_roundw
        case rel => exact ⟨A1, c1, j + 1, m, rfl, by go_num, by omega, by omega, hid (by rw [HZ.out]; exact HM.out), hid (by rw [HZ.out]; exact HO.out), HB⟩
        case measure => simp [intOf]; omega
      · have hle1 : ¬ (xn : Int) ≤ (K : Int) := by omega
        have hle2 : (K : Int) ≤ (xn : Int) := by omega
        have hne : partS S known j ≠ [] := fun e => by
          have h1 := HPS.out
          rw [e] at h1
          have h2 := congrArg List.length h1
          rw [List.length_drop, HLN.out] at h2
          simp at h2; omega
        have HZ : Hid (trimL (partsTo S known (j + 1)) = (trimL (partsTo S known j) ++ List.replicate (j - m) []) ++ [row.drop K]) := hid (by rw [delta_ne hne, HM.out, HPS.out])
        obtain ⟨gx, rfl⟩ : ∃ gx, xA = some ⟨gx, 0, none⟩ := by
          rcases (HOW.out wj HB.out).2 with ⟨e, h0⟩ | ⟨gx, cap, cur, e, _⟩
          · simp only [Value.slice.injEq] at e; omega
          · simp only [Value.slice.injEq] at e; exact ⟨gx, e.1⟩
        obtain ⟨hxc, hxm, -⟩ := (HOW.out wj HB.out).asFrs HLN.out
        have hxc1 : (xn : Int) ≤ (xc : Int) := by omega
        obtain ⟨hh, hO1, hL1, hE1⟩ := HO.out
        have hhl : hh.length = m := by rw [hL1, HM.out]
        obtain ⟨A7, c7, w7, hrun, ho7, hg7⟩ := run_appZ hO1 (j - m) (by omega) (by omega) HB.out.size 31
        have HRUN := hid hrun
        have HO7 : Hid (OwnLL w7 w.heap.size (.slice A7 (hh.length + (j - m)) c7) (trimL (partsTo S known j) ++ List.replicate (j - m) [])) := hid (OwnLL.pad hO1 hL1 hE1 hg7 ho7)
        have HB7 : Hid (Below w.heap.size w w7) := hid (HB.out.grown hg7 HB.out.size (fun b e => (hO1.lt b e).1))
        have ejm : (j : Int) - (m : Int) = ((j - m : Nat) : Int) := by omega
        have hlj : hh.length + (j - m) = j := by omega
        rw [hlj] at hrun HO7
        clear hne hO1 hL1 hE1 ho7 hg7 HRUN
        go_wp2_with fail
        refine (HGJ.out _ HB.out).mono ?_
        rintro er wq ⟨rfl, hw⟩
        have hw2 : wj = wq := hw
        subst hw2
        clear hw
        go_wp2_with (at_builtin; refine Lib.wpList_append_run _ rfl _ _ _ _ rfl _ _ rfl rfl _ _ hrun ?_)
        have HTL : Hid (Els encN w7 w7.heap.size (some ⟨gx, K, none⟩) (row.drop K)) := hid (by
          have q := (own_els (HOW.out w7 HB7.out)).tail (lo := K) (cap := xc) (by rw [HLN.out]; exact hxc)
          rw [if_neg (by omega)] at q
          have e1 : ((⟨gx, 0, none⟩ : Addr)).add (K * encN.k) = ⟨gx, K, none⟩ := by rw [show K * encN.k = K from Nat.mul_one _]; exact addr_rowN gx K
          simpa [e1] using q)
        have HDL : Hid ((row.drop K).length = xn - K) := hid (by rw [List.length_drop, HLN.out])
        refine (cloneSome_any ⟨gx, K, none⟩ (row.drop K) (xn - K) (xc - K) HDL.out (by have := HRO.out; have := HLN.out; omega) w7 HTL.out).mono ?_
        rintro er w8 ⟨A8, k8, rfl, o8, b8⟩
        have HB8 := hid (HB7.out.trans (b8.mono HB7.out.size))
        have HBA := hid (HB8.out.alloc HB8.out.size (.cells #[.slice A8 (xn - K) k8] 30))
        have HPA : Hid (Own (E := encN) (w8.alloc (.cells #[.slice A8 (xn - K) k8] 30)) w.heap.size 3 (Hd.val ⟨A8, xn - K, k8⟩) (row.drop K)) := hid ((o8.lower HB7.out.size).alloc _)
        have HLW : Hid (OwnLL (w8.alloc (.cells #[.slice A8 (xn - K) k8] 30)) w.heap.size (.slice A7 j c7) (trimL (partsTo S known j) ++ List.replicate (j - m) [])) := hid ((HO7.out.below b8).below ((Below.refl _ _).alloc (Nat.le_refl _) _))
        have hbs : w.heap.size ≤ (w8.alloc (.cells #[.slice A8 (xn - K) k8] 30)).heap.size := HBA.out.size
        have HRD := hid (reads_new w8 #[.slice A8 (xn - K) k8] 30 (0, 0))
        obtain ⟨h9, hO1, hL1, hE1⟩ := HLW.out
        have HO1 := hid hO1
        have hl9 : h9.length = j := by rw [hL1, List.length_append, List.length_replicate, HM.out]; omega
        have HL9 := hid hl9
        have hfl : h9.length ≤ 1000000000000 := by omega
        have HFR : Hid (∀ (A9 : Option Addr) (c9 : Nat) (w9 : World), Own (E := encH) w9 w.heap.size 30 (.slice A9 (j + 1) c9) (h9 ++ [⟨A8, xn - K, k8⟩]) → (w8.alloc (.cells #[.slice A8 (xn - K) k8] 30)).grownBy w9 (Value.slice A7 j c7).ownBlock → OwnLL w9 w.heap.size (.slice A9 (j + 1) c9) (trimL (partsTo S known (j + 1))) ∧ Below w.heap.size w w9) := hid (fun A9 c9 w9 o9 g9 =>
          ⟨by rw [HZ.out]; exact OwnLL.add hO1 hL1 hE1 HPA.out HDL.out g9 o9, HBA.out.grown g9 HBA.out.size (fun b e => (hO1.lt b e).1)⟩)
        have HTN : Hid ((trimL (partsTo S known (j + 1))).length = j + 1) := hid (by rw [HZ.out, List.length_append, List.length_append, List.length_replicate, HM.out]; simp; omega)
        clear hO1 hL1 hE1 o8 b8 hl9
        go_wp2_with (at_builtin; refine wpList_app1 (E := encH) rfl slH (.tmp 31) (.tmp 36) rfl (B := w.heap.size) (v := .slice A7 j c7) (l := h9) HO1.out rfl (ad := ⟨w8.heap.size, 0, none⟩) (c := 1) ⟨A8, xn - K, k8⟩ rfl HRD.out hfl (by omega) hbs ?_; intro A9 c9 w9 ho9 hg9 he9; rw [HL9.out] at ho9; obtain ⟨k1, k2⟩ := HFR.out A9 c9 w9 ho9 hg9; have K1 := hid k1; have K2 := hid k2; clear ho9 hg9 he9 k1 k2; rw [HL9.out])
        go_roundw
        case rel => exact ⟨A9, c9, j + 1, j + 1, rfl, by go_num, by omega, Nat.le_refl _, HTN, K1, K2⟩
        case measure => simp [intOf]; omega
    · obtain rfl : j = 16 := by omega
      have HFR := hid (HO.out.frs HM.out)
      have hcap : m ≤ c1 ∧ c1 ≤ 9223372036854775807 := by
        obtain ⟨hh, h1, h2, -⟩ := HO.out
        obtain ⟨A', c', e', q1, q2, -⟩ := h1.els
        simp only [Value.slice.injEq] at e'
        have := HM.out
        omega
      go_wp2_with fail
      go_ret
      exact ⟨A1, m, c1, rfl, hcap.1, hcap.2, HFR.out, HB.out⟩
end Go.Proofs.Ytifoppnpgljphaa.Sh
