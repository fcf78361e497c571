/-
  The document's set: Merge, by contract; what comes in, in given blocks.
-/
import Derived.Test.YtifoppnpgljphaaReRef5
import Derived.Test.YtifoppnpgljphaaBaQ
namespace Go.Proofs.Ytifoppnpgljphaa.Sh
open Go Go.RowKit

set_option linter.unusedSimpArgs false
set_option linter.unusedVariables false
/-- Lists of numbers, all of it in blocks Q. -/
def LlsQ (w : World) (Q : Nat → Prop) (A : Option Addr) (ll : List (List Int)) : Prop :=
  ∃ hs : List Hd, hs.length = ll.length ∧ ElsQ encH w Q A hs ∧ ∀ (i : Nat) (h : Hd) (l : List Int), hs[i]? = some h → ll[i]? = some l → l.length = h.n ∧ h.n ≤ h.c ∧ h.c ≤ 9223372036854775807 ∧ ElsQ encN w Q h.A l
theorem LlsQ.kept {w w' : World} {Q : Nat → Prop} {A : Option Addr} {ll : List (List Int)} (h : LlsQ w Q A ll) (hk : ∀ b, Q b → b < w.heap.size → w'.heap[b]? = w.heap[b]?) (hs : w.heap.size ≤ w'.heap.size) : LlsQ w' Q A ll := by
  obtain ⟨x, h1, h2, h3⟩ := h
  exact ⟨x, h1, h2.kept hk hs, fun i y l hy hl => by obtain ⟨a, b, c, d⟩ := h3 i y l hy hl; exact ⟨a, b, c, d.kept hk hs⟩⟩
theorem LlsQ.imp {w : World} {Q R : Nat → Prop} {A : Option Addr} {ll : List (List Int)} (h : LlsQ w Q A ll) (hq : ∀ b, Q b → b < w.heap.size → R b) : LlsQ w R A ll := by
  obtain ⟨x, h1, h2, h3⟩ := h
  exact ⟨x, h1, h2.imp hq, fun i y l hy hl => by obtain ⟨a, b, c, d⟩ := h3 i y l hy hl; exact ⟨a, b, c, d.imp hq⟩⟩
theorem LlsQ.nil {w : World} {Q : Nat → Prop} {A : Option Addr} : LlsQ w Q A [] := ⟨[], rfl, ElsQ.nil, fun i h l hh => by simp at hh⟩
theorem LlsQ.row {w : World} {Q : Nat → Prop} {A : Option Addr} {ll : List (List Int)} (h : LlsQ w Q A ll) {i : Nat} {l : List Int} (hi : ll[i]? = some l) : ∃ ad A' n c, A = some ad ∧ Q ad.block ∧ ad.block < w.heap.size ∧ w.cell? (ad.add i) = some (.slice A' n c) ∧ l.length = n ∧ n ≤ c ∧ c ≤ 9223372036854775807 ∧ ElsQ encN w Q A' l := by
  obtain ⟨hs, h1, h2, h3⟩ := h
  obtain ⟨x, hx⟩ : ∃ x, hs[i]? = some x := ⟨_, List.getElem?_eq_getElem (by rw [h1]; exact (List.getElem?_eq_some_iff.1 hi).1)⟩
  obtain ⟨ad, e, q, hb, hc⟩ := h2 (by have := (List.getElem?_eq_some_iff.1 hx).1; omega)
  obtain ⟨k1, k2, k3, k4⟩ := h3 i x l hx hi
  exact ⟨ad, x.A, x.n, x.c, e, q, hb, hc i x.val (by rw [ev_hd, List.getElem?_map, hx]; rfl), k1, k2, k3, k4⟩
theorem mergeS_stop (S : Nat → List Int) (known : List Int) (more : List (List Int)) {j : Nat} (h : more.length ≤ j) (hj : j ≤ 16) : mergeS S known more j = mergeS S known more 16 := funext fun i => by
  show (if i < j then mrow (S i) (vat known i).toNat (more.getD i []) else S i) = if i < 16 then mrow (S i) (vat known i).toNat (more.getD i []) else S i
  by_cases h1 : i < j
  · rw [if_pos h1, if_pos (by omega)]
  · rw [if_neg h1]
    split
    · rw [List.getD_eq_getElem?_getD, List.getElem?_eq_none (by omega)]
      exact (mrow_nil _ _).symm
    · rfl
theorem mergeN_stop (S : Nat → List Int) (known : List Int) (more : List (List Int)) {j : Nat} (h : more.length ≤ j) (t : Nat) : mergeN S known more (j + t) = mergeN S known more j := by
  induction t with
  | zero => rfl
  | succ t ih =>
    show mergeN S known more (j + t) + ((mrow (S (j + t)) (vat known (j + t)).toNat (more.getD (j + t) [])).length - (S (j + t)).length) = _
    rw [ih, List.getD_eq_getElem?_getD, List.getElem?_eq_none (by omega), Option.getD_none, mrow_nil]
    omega
theorem mergeN_stop16 (S : Nat → List Int) (known : List Int) (more : List (List Int)) {j : Nat} (h : more.length ≤ j) (hj : j ≤ 16) : mergeN S known more j = mergeN S known more 16 := by
  have := mergeN_stop S known more h (16 - j)
  rw [show j + (16 - j) = 16 by omega] at this
  exact this.symm
theorem merge_skip {S : Nat → List Int} {known : List Int} {more : List (List Int)} {j : Nat} (h : mrow (S j) (vat known j).toNat (more.getD j []) = S j) : mergeS S known more (j + 1) = mergeS S known more j ∧ mergeN S known more (j + 1) = mergeN S known more j := by
  constructor
  · rw [mergeS_succ, h]
    conv => lhs; arg 3; rw [← mergeS_at S known more j]
    exact up_self _ _
  · show mergeN S known more j + _ = _
    rw [h]; omega
theorem mrow_no {row l : List Int} {k : Nat} (h : ¬ Takes row k l) : mrow row k l = row := if_neg h
theorem mrow_yes {row l : List Int} {k : Nat} (h : Takes row k l) : mrow row k l = row.take k ++ l := if_pos h
set_option maxHeartbeats 16000000 in
set_option maxRecDepth 100000 in
theorem refMerge11_any {w : World} {P Q : Nat → Prop} {g gL : Nat} {S : Nat → List Int} (h : SetR w P g gL S) (hP : ∀ b, w.heap.size ≤ b → P b) (hQ : ¬ Q gL) (A : Option Addr) (known : List Int) (n c : Nat) (hn : known.length = n) (hm : n ≤ 9223372036854775807) (hk : ElsQ encN w Q A known)
    (AM : Option Addr) (more : List (List Int)) (mn mc : Nat) (hmn : more.length = mn) (hmm : mn ≤ 1099511627776) (hmo : LlsQ w Q AM more) :
    Calls Try.prog 28 #[.pointer (some ⟨g, 0, none⟩), .slice A n c, .slice AM mn mc] w fun e w' => e = .returned (.int .i64 (mergeN S known more 16 : Nat)) ∧ SetR w' P g gL (mergeS S known more 16) ∧ w.grownBy w' (some gL) := by
  have HK := hid (fun W (hW : w.grownBy W (some gL)) => hk.kept (kept_gro hW hQ) hW.size)
  have HMO := hid (fun W (hW : w.grownBy W (some gL)) => hmo.kept (kept_gro hW hQ) hW.size)
  have HG := hid (fun (j : Nat) (hj : j < 16) W (hW : w.grownBy W (some gL)) => (refGet_any A known n c hn hm ((j : Int) + 1) (by omega) W (HK.out W hW).els).mono (R' := fun e w' => e = .returned (.int .i64 (vat known j)) ∧ W = w') fun e w' ⟨g1, g2⟩ => ⟨by rw [g1, vget_at known hj], g2⟩)
  have HPP := hid hP
  have HMN := hid hmn
  have HOK := hid h.ok
  have HS0 : Hid (SetR w P g gL (mergeS S known more 0)) := hid (by rw [mergeS_zero]; exact h)
  clear h hk hn hQ hmo hmn hP HK
  go_enter Try.func28, Try.ntmps28
  go_wp2_with fail
  go_loopw [7, 8] (fun z i wr => ∃ j N : Nat, z = .int .i64 (N : Int) ∧ i = .int .i64 ((j : Int) + 1) ∧ j ≤ 16 ∧ j ≤ mn ∧ N ≤ 32 * j ∧ Hid (N = mergeN S known more j) ∧ Hid (SetR wr P g gL (mergeS S known more j)) ∧ Hid (w.grownBy wr (some gL))) (fun _ i _ => 17 - (intOf i).toNat)
  case atStart => exact ⟨0, 0, rfl, rfl, Nat.zero_le _, Nat.zero_le _, by omega, hid rfl, HS0, hid (gro_bl (Below.refl _ _))⟩
  case round =>
    clear HS0
    obtain ⟨wj, hwj⟩ : ∃ x, x = wr := ⟨_, rfl⟩
    subst hwj
    obtain ⟨j, N, rfl, rfl, hj, hjm, hN, HN, HS, HGR⟩ := hrel
    have hj0 : (0 : Int) ≤ (j : Int) := Int.natCast_nonneg _
    have hN0 : (0 : Int) ≤ (N : Int) := Int.natCast_nonneg _
    have hN1 : (N : Int) ≤ 512 := by omega
    by_cases hlt : j < 16
    · by_cases hlm : j < mn
      · have hj1 : (j : Int) + 1 ≤ 16 := by omega
        have hj2 : (j : Int) < 16 := by omega
        have hj3 : (j : Int) + 1 ≤ (mn : Int) := by omega
        have hj4 : (j : Int) < (mn : Int) := by omega
        have e1 : (j : Int) + 1 - 1 = (j : Int) := by omega
        obtain ⟨row, hrow⟩ : ∃ row, S j = row := ⟨_, rfl⟩
        obtain ⟨l, hl⟩ : ∃ l, more[j]? = some l := ⟨_, List.getElem?_eq_getElem (by rw [HMN.out]; exact hlm)⟩
        have hgd : more.getD j [] = l := by rw [List.getD_eq_getElem?_getD, hl]; rfl
        obtain ⟨K, hK⟩ : ∃ K : Nat, vat known j = (K : Int) := ⟨(vat known j).toNat, by have := (vat_b known j).1; omega⟩
        have hKb : (K : Int) ≤ 1099511627776 := by have := (vat_b known j).2; omega
        have hK0 : (0 : Int) ≤ (K : Int) := Int.natCast_nonneg _
        have hkt : (vat known j).toNat = K := by rw [hK, Int.toNat_natCast]
        have HSK : Hid (mrow row K l = row → mergeS S known more (j + 1) = mergeS S known more j ∧ mergeN S known more (j + 1) = mergeN S known more j) := hid (fun e => merge_skip (by rw [hrow, hgd, hkt, e]))
        have HTK : Hid (mergeS S known more (j + 1) = up (mergeS S known more j) j (mrow row K l) ∧ mergeN S known more (j + 1) = mergeN S known more j + ((mrow row K l).length - row.length)) := hid ⟨by rw [mergeS_succ, hrow, hgd, hkt], by show mergeN S known more j + _ = _; rw [hrow, hgd, hkt]⟩
        have HRO : Hid (OkR row) := hid (hrow ▸ HOK.out j)
        have HGJ := hid (fun W (hW : w.grownBy W (some gL)) => HG.out j hlt W hW)
        rw [hK] at HGJ
        have HSJ : Hid (∀ W, Below wj.heap.size wj W → ∃ (c n k : Nat) (A : Option Addr), 16 ≤ c ∧ c ≤ 9223372036854775807 ∧ W.cell? ⟨g, 0, none⟩ = some (.slice (some ⟨gL, 0, none⟩) 16 c) ∧ W.cell? ⟨gL, j, none⟩ = some (.slice A n k) ∧ RowAt W P ⟨A, n, k⟩ row) := hid (fun W hW => by
          have := (HS.out.below hW).at hlt
          rw [mergeS_at, hrow] at this
          exact this)
        have HLR : Hid (∀ W, Below wj.heap.size wj W → ∃ ad A' n c, AM = some ad ∧ Q ad.block ∧ ad.block < W.heap.size ∧ W.cell? (ad.add j) = some (.slice A' n c) ∧ l.length = n ∧ n ≤ c ∧ c ≤ 9223372036854775807 ∧ ElsQ encN W Q A' l) := hid (fun W hW => (HMO.out W (gro_then HGR.out hW)).row hl)
        obtain ⟨cL, nr, cr, Ar, hc1, hc2, ha, hb, r⟩ := HSJ.out wj (Below.refl _ _)
        obtain ⟨ad, Al, nl, cl, rfl, hq, hbk, hla, hll, hlc, hlcm, hel⟩ := HLR.out wj (Below.refl _ _)
        have hrl : row.length = nr := r.len
        have hnr : nr ≤ 32 := by have := HRO.out.len; omega
        have hnl0 : (0 : Int) ≤ (nl : Int) := Int.natCast_nonneg _
        have hnr0 : (0 : Int) ≤ (nr : Int) := Int.natCast_nonneg _
        have HR := hid r
        have HLL := hid hll
        have HRL := hid hrl
        have HEL := hid hel
        clear hrow hgd hl hK hkt hq hbk r hel
        by_cases h0 : nl = 0
        · subst h0
          have HZ : Hid (mrow row K l = row) := hid (by rw [List.eq_nil_of_length_eq_zero HLL.out]; exact mrow_nil _ _)
          go_wp2_with fail
          refine (HGJ.out wj HGR.out).mono ?_
          rintro er wq ⟨rfl, hw⟩
          have hw2 : wj = wq := hw
          subst hw2
          clear hw
          go_wp2_with fail
          go_roundw
          case rel => exact ⟨j + 1, N, rfl, by go_num, by omega, by omega, by omega, hid (by rw [(HSK.out HZ.out).2]; exact HN.out), hid (by rw [(HSK.out HZ.out).1]; exact HS.out), HGR⟩
          case measure => simp [intOf]; omega
        have h01 : ((nl : Int) == 0) = false := beq_eq_false_iff_ne.2 (by omega)
        by_cases hKr : nr < K
        · have hKr1 : (nr : Int) < (K : Int) := by omega
          have HZ : Hid (mrow row K l = row) := hid (mrow_no (fun h => by have := h.1; omega))
          go_wp2_with fail
          refine (HGJ.out wj HGR.out).mono ?_
          rintro er wq ⟨rfl, hw⟩
          have hw2 : wj = wq := hw
          subst hw2
          clear hw
          go_wp2_with fail
          go_roundw
          case rel => exact ⟨j + 1, N, rfl, by go_num, by omega, by omega, by omega, hid (by rw [(HSK.out HZ.out).2]; exact HN.out), hid (by rw [(HSK.out HZ.out).1]; exact HS.out), HGR⟩
          case measure => simp [intOf]; omega
        have hKr1 : ¬ (nr : Int) < (K : Int) := by omega
        by_cases hl32 : 32 < nl
        · have hl33 : (32 : Int) < (nl : Int) := by omega
          have HZ : Hid (mrow row K l = row) := hid (mrow_no (fun h => by have h1 := h.2.1.len; rw [List.length_append, HLL.out] at h1; omega))
          go_wp2_with fail
          refine (HGJ.out wj HGR.out).mono ?_
          rintro er wq ⟨rfl, hw⟩
          have hw2 : wj = wq := hw
          subst hw2
          clear hw
          go_wp2_with fail
          go_roundw
          case rel => exact ⟨j + 1, N, rfl, by go_num, by omega, by omega, by omega, hid (by rw [(HSK.out HZ.out).2]; exact HN.out), hid (by rw [(HSK.out HZ.out).1]; exact HS.out), HGR⟩
          case measure => simp [intOf]; omega
        have hl33 : ¬ (32 : Int) < (nl : Int) := by omega
        have HTKL : Hid ((row.take K).length = K) := hid (by rw [List.length_take]; omega)
        have HTKR : Hid (Reads wj Ar (ev encN (row.take K))) := hid (HR.out.els.head (hi := K)).reads
        have hcr : nr ≤ cr := HR.out.cap
        have hcrm : cr ≤ 9223372036854775807 := HR.out.max
        have hKc : (K : Int) ≤ (cr : Int) := by omega
        have hK32 : K ≤ 32 := by omega
        obtain ⟨cand, hcand⟩ : ∃ x, row.take K ++ l = x := ⟨_, rfl⟩
        have hcl : cand.length = K + nl := by rw [← hcand, List.length_append, HTKL.out, HLL.out]
        have HTY : Hid (Takes row K l ↔ OkR cand ∧ row <+: cand ∧ row.length < cand.length) := hid (by
          unfold Takes; rw [hcand]
          exact ⟨fun h => h.2, fun h => ⟨by omega, h⟩⟩)
        have HCD := hid hcand
        have HCL := hid hcl
        clear hcand hcl
        go_wp2_with fail
        refine (HGJ.out wj HGR.out).mono ?_
        rintro er wq ⟨rfl, hw⟩
        have hw2 : wj = wq := hw
        subst hw2
        clear hw
        go_wp2_with (first
          | (at_builtin; refine wpList_appL (E := encN) rfl slN (.tmp 58) (.tmp 61) rfl (B := wj.heap.size) (v := .slice none 0 0) (l := []) (Own.nil _ _ _) rfl (A := Ar) (m := K) (c := cr) (row.take K) rfl HTKL.out HTKR.out (by simp; omega) (by omega) (Nat.le_refl _) ?_; intro AT cT wT oT gT eT; simp only [List.length_nil, Nat.zero_add, List.nil_append] at oT ⊢; have HT := hid oT; have BT := hid ((Below.refl wj.heap.size wj).grown gT (Nat.le_refl _) (fun g e => by cases e)); clear oT gT eT; obtain ⟨ad, Al, nl', cl, hAd, hq, hbk, hlT, hll', hlc', hlcm', hel'⟩ := HLR.out wT BT.out; injection hAd with hAd; subst hAd; have hnn : nl = nl' := HLL.out.symm.trans hll'; subst hnn; have HRD := hid hel'.els.reads; have hbT := BT.out.size; clear hq hbk hll' hel')
          | (at_builtin; refine wpList_appL (E := encN) rfl slN (.tmp 63) (.tmp 68) rfl (B := wj.heap.size) (v := .slice AT K cT) (l := row.take K) HT.out rfl (A := Al) (m := nl) (c := cl) l rfl HLL.out HRD.out (by rw [HTKL.out]; omega) (by omega) hbT ?_; intro A9 c9 w9 ho9 hg9 he9; rw [HTKL.out] at ho9; have HO9 := hid ho9; have HB9 := hid (BT.out.grown hg9 hbT (fun g e => (World.ownsRow.lt HT.out g e).1)); clear ho9 hg9 he9; rw [HTKL.out])
          )
        rw [HCD.out] at HO9
        have HE9 := hid (own_els HO9.out)
        have HG9 := hid (gro_then HGR.out HB9.out)
        have HS9 := hid (HS.out.below HB9.out)
        have HR9 := hid (HR.out.kept (w' := w9) (Q := P) (fun b _ hl => HB9.out.block b hl) HB9.out.size (fun _ hp _ => hp))
        have hc9 : K + nl ≤ c9 ∧ c9 ≤ 9223372036854775807 := by
          obtain ⟨A', c', e', q1, q2, -⟩ := (show Own (E := encN) w9 wj.heap.size 3 (.slice A9 (K + nl) c9) cand from HO9.out).els
          simp only [Value.slice.injEq] at e'
          have := HCL.out
          omega
        have HOW : Hid (RowAt w9 P ⟨A9, K + nl, c9⟩ cand) := hid (RowAt.own HO9.out HCL.out (fun b hb => HPP.out b (by have := HGR.out.size; omega)))
        have hcd : K + nl ≤ 1099511627776 := by omega
        refine (may11_any A9 cand (K + nl) c9 HCL.out hc9.1 hc9.2 hcd w9 HE9.out).mono ?_
        rintro er wA ⟨rfl, kA, hwA⟩
        obtain ⟨b1, hb1⟩ : ∃ b, @decide (OkR cand) (Classical.propDecidable _) = b := ⟨_, rfl⟩
        have HB1 := hid hb1
        rw [hb1]
        clear hb1
        have HEA : Hid (Els encN wA wA.heap.size A9 cand) := hid (by rw [hwA]; exact HE9.out)
        have HRA : Hid (Els encN wA wA.heap.size Ar row) := hid (by rw [hwA]; exact HR9.out.els)
        have HSA : Hid (SetR wA P g gL (mergeS S known more j)) := hid (by rw [hwA]; exact HS9.out.drewN kA)
        have HGA : Hid (w.grownBy wA (some gL)) := hid (gro_then HG9.out (by rw [hwA]; exact below_drewN (Below.refl _ _) kA))
        have HWA : Hid (RowAt wA P ⟨A9, K + nl, c9⟩ cand) := hid (by rw [hwA]; exact HOW.out.kept (fun b _ _ => rfl) (Nat.le_refl _) (fun _ hp _ => hp))
        clear hwA HE9 HR9 HS9 HG9 HOW HO9 HB9
        go_wp2_with fail
        refine (begins11_any A9 Ar cand row (K + nl) nr c9 cr HCL.out HRL.out hc9.1 hc9.2 hcd (by omega) wA HEA.out HRA.out).mono ?_
        rintro er wB ⟨rfl, kB, hwB⟩
        obtain ⟨b2, hb2⟩ : ∃ b, decide (row <+: cand) = b := ⟨_, rfl⟩
        have HB2 := hid hb2
        rw [hb2]
        clear hb2
        have HEB : Hid (Els encN wB wB.heap.size A9 cand) := hid (by rw [hwB]; exact HEA.out)
        have HRB : Hid (Els encN wB wB.heap.size Ar row) := hid (by rw [hwB]; exact HRA.out)
        have HSB : Hid (SetR wB P g gL (mergeS S known more j)) := hid (by rw [hwB]; exact HSA.out.drewN kB)
        have HGB : Hid (w.grownBy wB (some gL)) := hid (gro_then HGA.out (by rw [hwB]; exact below_drewN (Below.refl _ _) kB))
        have HWB : Hid (RowAt wB P ⟨A9, K + nl, c9⟩ cand) := hid (by rw [hwB]; exact HWA.out.kept (fun b _ _ => rfl) (Nat.le_refl _) (fun _ hp _ => hp))
        clear hwB HEA HRA HSA HGA HWA
        go_wp2_with fail
        refine (begins11_any Ar A9 row cand nr (K + nl) cr c9 HRL.out HCL.out hcr hcrm (by omega) hcd wB HRB.out HEB.out).mono ?_
        rintro er wC ⟨rfl, kC, hwC⟩
        obtain ⟨b3, hb3⟩ : ∃ b, decide (cand <+: row) = b := ⟨_, rfl⟩
        have HB3 := hid hb3
        rw [hb3]
        clear hb3
        have HSC : Hid (SetR wC P g gL (mergeS S known more j)) := hid (by rw [hwC]; exact HSB.out.drewN kC)
        have HGC : Hid (w.grownBy wC (some gL)) := hid (gro_then HGB.out (by rw [hwC]; exact below_drewN (Below.refl _ _) kC))
        have HWC : Hid (RowAt wC P ⟨A9, K + nl, c9⟩ cand) := hid (by rw [hwC]; exact HWB.out.kept (fun b _ _ => rfl) (Nat.le_refl _) (fun _ hp _ => hp))
        clear hwC HEB HRB HSB HGB HWB
        have HSKIP : Hid (¬ Takes row K l → ∃ j' N' : Nat, Value.int .i64 (N : Int) = .int .i64 (N' : Int) ∧ Value.int .i64 ((j : Int) + 1 + 1) = .int .i64 ((j' : Int) + 1) ∧ j' ≤ 16 ∧ j' ≤ mn ∧ N' ≤ 32 * j' ∧ Hid (N' = mergeN S known more j') ∧ Hid (SetR wC P g gL (mergeS S known more j')) ∧ Hid (w.grownBy wC (some gL))) := hid (fun hT => by
          have HZ := mrow_no hT
          exact ⟨j + 1, N, rfl, by go_num, by omega, by omega, by omega, hid (by rw [(HSK.out HZ).2]; exact HN.out), hid (by rw [(HSK.out HZ).1]; exact HSC.out), HGC⟩)
        by_cases hlo : nr < K + nl
        · have hlo1 : (nr : Int) < ((K + nl : Nat) : Int) := by omega
          cases b1
          · have hnT : Hid (¬ Takes row K l) := hid (fun hT => by
              have h1 := (HTY.out.1 hT).1
              have h2 := @of_decide_eq_false _ (Classical.propDecidable _) HB1.out
              exact h2 h1)
            clear HB1 HB2 HB3
            cases b2 <;> cases b3
            all_goals
              go_wp2_with fail
              go_roundw
              case rel => exact HSKIP.out hnT.out
              case measure => simp [intOf]; omega
          · cases b2
            · have hnT : Hid (¬ Takes row K l) := hid (fun hT => of_decide_eq_false HB2.out (HTY.out.1 hT).2.1)
              have hb3' : b3 = false := by
                cases hb : b3
                · rfl
                · exfalso
                  have h1 := (of_decide_eq_true (HB3.out.trans hb)).length_le
                  have h2 := HCL.out
                  have h3 := HRL.out
                  omega
              subst hb3'
              clear HB1 HB2 HB3
              go_wp2_with fail
              go_roundw
              case rel => exact HSKIP.out hnT.out
              case measure => simp [intOf]; omega
            · have hT : Hid (Takes row K l) := hid (HTY.out.2 ⟨@of_decide_eq_true _ (Classical.propDecidable _) HB1.out, of_decide_eq_true HB2.out, by rw [HRL.out, HCL.out]; exact hlo⟩)
              have hok : Hid (OkR cand) := hid (@of_decide_eq_true _ (Classical.propDecidable _) HB1.out)
              have HM : Hid (mrow row K l = cand) := hid ((mrow_yes hT.out).trans HCD.out)
              have hc32 : K + nl ≤ 32 := by have := hok.out.len; rw [HCL.out] at this; exact this
              have hsum : (N : Int) + ((K : Int) + (nl : Int)) - (nr : Int) = ((N + (K + nl - nr) : Nat) : Int) := by omega
              have HPUT := hid (HSC.out.put hlt (x := ⟨A9, K + nl, c9⟩) HWC.out hok.out)
              obtain ⟨c', n', kc', A', hc1', hc2', ha', hb', r'⟩ := HSC.out.at hlt
              obtain ⟨csL, hcL, -⟩ := HSC.out.list
              have fz := frozen_of_row wC gL j _ _ hcL
              have HREL : Hid (∀ W, W = wC.setCell ⟨gL, j, none⟩ (Hd.val ⟨A9, K + nl, c9⟩) → ∃ j' N' : Nat, Value.int .i64 ((N + (K + nl - nr) : Nat) : Int) = .int .i64 (N' : Int) ∧ Value.int .i64 ((j : Int) + 1 + 1) = .int .i64 ((j' : Int) + 1) ∧ j' ≤ 16 ∧ j' ≤ mn ∧ N' ≤ 32 * j' ∧ Hid (N' = mergeN S known more j') ∧ Hid (SetR W P g gL (mergeS S known more j')) ∧ Hid (w.grownBy W (some gL))) := hid (by
                rintro W rfl
                refine ⟨j + 1, N + (K + nl - nr), rfl, by go_num, by omega, by omega, by omega, hid ?_, hid ?_, hid (HGC.out.trans HPUT.out.2)⟩
                · rw [HTK.out.2, HM.out, HCL.out, HRL.out, ← HN.out]
                · rw [HTK.out.1, HM.out]; exact HPUT.out.1)
              clear r' hcL HB1 HB2 HB3 HSKIP
              cases b3
              all_goals
                go_wp2_with fail
                go_roundw
                case rel => first | exact HREL.out _ rfl | (rw [hsum]; exact HREL.out _ rfl)
                case measure => simp [intOf]; omega
        · have hlo1 : ¬ (nr : Int) < ((K + nl : Nat) : Int) := by omega
          have hnT : Hid (¬ Takes row K l) := hid (fun hT => by have h1 := (HTY.out.1 hT).2.2; have h2 := HCL.out; have h3 := HRL.out; omega)
          clear HB1 HB2 HB3
          cases b1 <;> cases b2 <;> cases b3
          all_goals
            go_wp2_with fail
            go_roundw
            case rel => exact HSKIP.out hnT.out
            case measure => simp [intOf]; omega
      · obtain rfl : j = mn := by omega
        have hj1 : (j : Int) + 1 ≤ 16 := by omega
        have hj3 : ¬ (j : Int) + 1 ≤ (j : Int) := by omega
        have HE : Hid (mergeS S known more j = mergeS S known more 16 ∧ mergeN S known more j = mergeN S known more 16) := hid ⟨mergeS_stop _ _ _ (by rw [HMN.out]; exact Nat.le_refl _) hj, mergeN_stop16 _ _ _ (by rw [HMN.out]; exact Nat.le_refl _) hj⟩
        go_wp2_with fail
        go_ret
        exact ⟨by rw [← HE.out.2, ← HN.out]; rfl, by rw [← HE.out.1]; exact HS.out, HGR.out⟩
    · obtain rfl : j = 16 := by omega
      go_wp2_with fail
      go_ret
      exact ⟨by rw [← HN.out]; rfl, HS.out, HGR.out⟩
end Go.Proofs.Ytifoppnpgljphaa.Sh
