/-
  The program's own set: Merge, by contract.
-/
import Derived.Test.YtifoppnpgljphaaRePgF
namespace Go.Proofs.Ytifoppnpgljphaa.Sh
open Go Go.RowKit

set_option linter.unusedSimpArgs false
set_option linter.unusedVariables false
theorem LongerAt.of {w w' W : World} {x y : Hd} {row l : List Int} (a : LongerAt W w' ⟨x.A, x.n, x.c⟩ y row l) (h : w.heap.size ≤ W.heap.size) : LongerAt w w' x y row l :=
  ⟨a.len, a.is.imp id (fun o => o.lower h)⟩
/-- A row is put that is the old one, or new. -/
theorem RowsP.turn {w w' : World} {P : Nat → Prop} {g : Nat} {hs : Nat → Hd} {cs : Array Value} {S : Nat → List Int} (h : RowsP w P g hs cs S) (ng : ¬ P g) (hP : ∀ b, w.heap.size ≤ b → P b) (hb : Below w.heap.size w w') {i : Nat} (hi : i < 16) {y : Hd} {l : List Int} (a : LongerAt w w' (hs i) y (S i) l) :
    RowsP (w'.setCell ⟨g, i, none⟩ y.val) P g (fun j => if j = i then y else hs j) (cs.setIfInBounds i y.val) (up S i l) ∧ w'.grownBy (w'.setCell ⟨g, i, none⟩ y.val) (some g) := by
  have q := h.below hb
  rcases a.is with ⟨e1, e2⟩ | o
  · refine (q.but i).put ng hi a.len ?_ (fun b e => ?_) (fun j b hj hne e e2' => ?_)
    · rw [e1, e2]; exact q.own i hi
    · rw [e1] at e; exact q.blk i b hi e
    · rw [e1] at e2'; exact q.apart j i b hj hi hne e e2'
  · refine (q.but i).put ng hi a.len (o.lower (Nat.zero_le _)) (fun b e => hP b (o.lt b e).1) (fun j b hj hne e e2' => ?_)
    have h1 := (o.lt b e2').1
    have h2 := ((h.own j hj).lt b e).2
    omega
set_option maxHeartbeats 16000000 in
set_option maxRecDepth 100000 in
theorem merge11_any {w : World} {P Q : Nat → Prop} {g : Nat} {S : Nat → List Int} (h : SetP w P g S) (hP : ∀ b, w.heap.size ≤ b → P b) (hQ : ¬ Q g) (A : Option Addr) (known : List Int) (n c : Nat) (hn : known.length = n) (hm : n ≤ 9223372036854775807) (hk : ElsQ encN w Q A known)
    (AM : Option Addr) (more : List (List Int)) (mn mc : Nat) (hmn : more.length = mn) (hmm : mn ≤ 1099511627776) (hml : ∀ l ∈ more, l.length ≤ 1099511627776) (h64 : ∀ l ∈ more, ∀ z ∈ l, In64 z) (hmo : LlsQ w Q AM more) :
    Calls Try.prog 20 #[.pointer (some ⟨g, 0, none⟩), .slice A n c, .slice AM mn mc] w fun e w' => e = .returned (.int .i64 (mergeN S known more 16 : Nat)) ∧ SetP w' P g (mergeS S known more 16) ∧ w.grownBy w' (some g) := by
  have HNG := hid h.ng
  have hQ2 := hid hQ
  have HOK := hid h.ok
  have HK := hid (fun W (hW : w.grownBy W (some g)) => hk.kept (kept_gro hW hQ) hW.size)
  have HMO := hid (fun W (hW : w.grownBy W (some g)) => hmo.kept (kept_gro hW hQ) hW.size)
  have HG := hid (fun (j : Nat) (hj : j < 16) W (hW : w.grownBy W (some g)) => getJ_any A known n c hn hm j hj W (HK.out W hW).els)
  have HPP := hid hP
  have HMN := hid hmn
  have HML := hid hml
  have H64 := hid h64
  obtain ⟨hs0, cs0, r0⟩ := h.rows
  have HR0 : Hid (RowsP w P g hs0 cs0 (mergeS S known more 0)) := hid (by rw [mergeS_zero]; exact r0)
  clear h hk hn hQ hmo hmn hP HK hml h64 r0
  have HB : Hid ((mn : Int) ≤ 16 ∨ (16 : Int) < (mn : Int)) := hid (by omega)
  rcases HB.out with hb | hb
  all_goals
    clear HB
    go_enter Try.func20, Try.ntmps20
    go_wp2_with fail
    go_loopw [7, 13] (fun z i wr => ∃ (j N : Nat) (hs : Nat → Hd) (cs : Array Value), z = .int .i64 (N : Int) ∧ i = .int .i64 (j : Int) ∧ j ≤ 16 ∧ j ≤ mn ∧ N ≤ 32 * j ∧ Hid (N = mergeN S known more j) ∧ Hid (RowsP wr P g hs cs (mergeS S known more j)) ∧ Hid (w.grownBy wr (some g))) (fun _ i _ => 16 - (intOf i).toNat)
    case atStart => exact ⟨0, 0, hs0, cs0, rfl, rfl, Nat.zero_le _, Nat.zero_le _, by omega, hid rfl, HR0, hid (gro_bl (Below.refl _ _))⟩
    case round =>
      clear HR0
      obtain ⟨wj, hwj⟩ : ∃ x, x = wr := ⟨_, rfl⟩
      subst hwj
      obtain ⟨j, N, hs, cs, rfl, rfl, hj, hjm, hN, HN, HR, HGR⟩ := hrel
      have hj0 : (0 : Int) ≤ (j : Int) := Int.natCast_nonneg _
      have hN0 : (0 : Int) ≤ (N : Int) := Int.natCast_nonneg _
      have hN1 : (N : Int) ≤ 512 := by omega
      by_cases hlt : j < 16 ∧ j < mn
      · obtain ⟨hlt, hlm⟩ := hlt
        have hj1 : (j : Int) < 16 := by omega
        have hj2 : (j : Int) < (mn : Int) := by omega
        obtain ⟨row, hrow⟩ : ∃ row, S j = row := ⟨_, rfl⟩
        obtain ⟨l, hl⟩ : ∃ l, more[j]? = some l := ⟨_, List.getElem?_eq_getElem (by rw [HMN.out]; exact hlm)⟩
        have hgd : more.getD j [] = l := by rw [List.getD_eq_getElem?_getD, hl]; rfl
        obtain ⟨K, hK⟩ : ∃ K : Nat, vat known j = (K : Int) := ⟨(vat known j).toNat, by have := (vat_b known j).1; omega⟩
        have hKb : (K : Int) ≤ 1099511627776 := by have := (vat_b known j).2; omega
        have hkt : (vat known j).toNat = K := by rw [hK, Int.toNat_natCast]
        have HTK : Hid (mergeS S known more (j + 1) = up (mergeS S known more j) j (mrow row K l) ∧ mergeN S known more (j + 1) = mergeN S known more j + ((mrow row K l).length - row.length)) := hid ⟨by rw [mergeS_succ, hrow, hgd, hkt], by show mergeN S known more j + _ = _; rw [hrow, hgd, hkt]⟩
        have HRO : Hid (OkR row) := hid (hrow ▸ HOK.out j)
        have HMR : Hid (row.length ≤ (mrow row K l).length ∧ (mrow row K l).length ≤ 32) := hid ⟨(mrow_pre row K l).length_le, (mrow_ok HRO.out K l).len⟩
        have HGJ := hid (fun W (hW : w.grownBy W (some g)) => HG.out j hlt W hW)
        rw [hK] at HGJ
        have HROW := hid hrow
        have hSj : mergeS S known more j j = row := by rw [mergeS_at, hrow]
        have HLEN : Hid (row.length = (hs j).n) := hid (by rw [← hSj]; exact HR.out.len j hlt)
        have HOW : Hid (Own (E := encN) wj 0 3 (.slice (hs j).A (hs j).n (hs j).c) row) := hid (by have := HR.out.own j hlt; rw [hSj] at this; exact this)
        have hcell := HR.out.cells j hlt
        have HFR := hid (frozen_of_row wj g j _ _ HR.out.heap)
        obtain ⟨ad, Al, nl, cl, rfl, hq, hbk, hla, hll, hlc, hlcm, hel⟩ := (HMO.out wj HGR.out).row hl
        have HLW : Hid (∀ W, Below wj.heap.size wj W → W.cell? (ad.add j) = some (.slice Al nl cl)) := hid (fun W hW => by rw [hW.cell (by rw [block_add]; exact hbk)]; exact hla)
        have hadg : ad.block ≠ g := fun e => hQ2.out (e ▸ hq)
        have HLW2 : Hid (∀ W v, Below wj.heap.size wj W → (W.setCell ⟨g, j, none⟩ v).cell? (ad.add j) = some (.slice Al nl cl)) := hid (fun W v hW => by
          have h1 := HLW.out W hW
          rw [← h1]
          unfold World.cell?
          rw [block_add, heap_setCell_other W ⟨g, j, none⟩ ad.block v (fun e => hadg (by simp [e]))])
        have hl1 := HML.out l (List.mem_of_getElem? hl)
        have h641 := H64.out l (List.mem_of_getElem? hl)
        obtain ⟨x, hx⟩ : ∃ x, hs j = x := ⟨_, rfl⟩
        have HX := hid hx
        rw [hx] at HLEN HOW hcell
        have HLO : Hid (∀ W, Below wj.heap.size wj W → Calls Try.prog 37 #[.slice x.A x.n x.c, .int .i64 (K : Int), .slice Al nl cl] W fun e w' => ∃ (A' : Option Addr) (n' c' : Nat), e = .returned (.slice A' n' c') ∧ LongerAt W w' ⟨x.A, x.n, x.c⟩ ⟨A', n', c'⟩ row (mrow row K l) ∧ Below W.heap.size W w') := hid (fun W hW => by
          obtain ⟨q1, q2, _⟩ := HOW.out.asFrs HLEN.out
          exact longer_any x.A row x.n x.c HLEN.out HRO.out q1 q2 K (by omega) Al l nl cl hll (by rw [← hll]; exact hl1) hlc hlcm h641 W (own_els (HOW.out.below hW)) ((hel.els.below hW).more hW.size))
        have hxn : x.n ≤ 32 := by have := HRO.out.len; have := HLEN.out; omega
        have hxn0 : (0 : Int) ≤ (x.n : Int) := Int.natCast_nonneg _
        have HCF : Hid (∀ W, Below wj.heap.size wj W → W.cell? ⟨g, j, none⟩ = some (.slice x.A x.n x.c) ∧ W.frozen? ⟨g, j, none⟩ = false) := hid (fun W hW => ⟨by have q := (HR.out.below hW).cells j hlt; rw [HX.out] at q; exact q, frozen_of_row W g j _ _ (HR.out.below hW).heap⟩)
        clear hrow hl hgd hK hkt hSj hq hbk hll hel hl1 h641 hx HOW hadg
        have hwr : IntKind.i64.wrap ((j : Int) + 1) = (j : Int) + 1 := wrap_in _ (by omega)
        go_wp2_with fail
        go_region_held3 (fun W => W.cell? (ad.add j) = some (.slice Al nl cl))
          (first | exact HLW.out _ (Below.refl wj.heap.size wj).drew | exact HLW.out _ BQ9.out | exact HLW2.out _ _ BQ9.out)
          ((first
            | (go_at_call 35; ((refine (HGJ.out _ (gro_then HGR.out (Below.refl wj.heap.size wj).drew)).mono ?_); rintro er w8 ⟨rfl, k8⟩; subst k8))
            | (go_at_call 37; ((refine (HLO.out _ (Below.refl wj.heap.size wj).drew).mono ?_); rintro er w9 ⟨A9, n9, c9, rfl, a9, b9⟩; have HA9 := hid a9; have BQ9 : Hid (Below wj.heap.size wj w9) := hid ((Below.refl wj.heap.size wj).drew.trans b9); obtain ⟨cg9, fg9⟩ := HCF.out w9 BQ9.out; clear a9 b9))))
        all_goals
          have HT := hid (HR.out.turn HNG.out (fun b hb => HPP.out b (by have := HGR.out.size; omega)) BQ9.out hlt (y := ⟨A9, n9, c9⟩) (l := mrow row K l) (by rw [HX.out, mergeS_at, HROW.out]; exact HA9.out.of (Nat.le_refl _)))
          have hcs : (w9.setCell ⟨g, j, none⟩ (.slice A9 n9 c9)).cell? ⟨g, j, none⟩ = some (.slice A9 n9 c9) := by
            have q := HT.out.1.cells j hlt
            simp only [if_pos] at q
            exact q
          have HL9 : Hid ((mrow row K l).length = n9) := hid HA9.out.len
          have hn9 : x.n ≤ n9 ∧ n9 ≤ 32 := by have h1 := HMR.out; have h2 := HL9.out; have h3 := HLEN.out; omega
          have hn91 : (n9 : Int) ≤ 32 := by omega
          have hn92 : (0 : Int) ≤ (n9 : Int) := Int.natCast_nonneg _
          have hn93 : (x.n : Int) ≤ (n9 : Int) := by omega
          have hn94 : (x.n : Int) ≤ 32 := by omega
          have e9 : (N : Int) + ((n9 : Int) - (x.n : Int)) = ((N + (n9 - x.n) : Nat) : Int) := by omega
          have HTK2 : Hid (mergeS S known more (j + 1) = up (mergeS S known more j) j (mrow row K l) ∧ mergeN S known more (j + 1) = mergeN S known more j + (n9 - x.n)) := hid ⟨HTK.out.1, by rw [HTK.out.2, HL9.out, HLEN.out]⟩
          have HGR2 : Hid (w.grownBy (w9.setCell ⟨g, j, none⟩ (.slice A9 n9 c9)) (some g)) := hid ((gro_then HGR.out BQ9.out).trans HT.out.2)
          clear HGJ HLW HLW2 HLO HCF HMR
          go_wp2_with fail
          go_roundw
          case rel => exact ⟨j + 1, N + (n9 - x.n), _, _, by go_num, by go_num, by omega, by omega, by omega, hid (by rw [HTK2.out.2, ← HN.out]), hid (by rw [HTK2.out.1]; exact HT.out.1), HGR2⟩
          case measure => simp [intOf]; omega
      · have HST : Hid (mergeN S known more j = mergeN S known more 16 ∧ mergeS S known more j = mergeS S known more 16) := hid (by
          by_cases h16 : j = 16
          · subst h16; exact ⟨rfl, rfl⟩
          · exact ⟨mergeN_stop16 S known more (by rw [HMN.out]; omega) hj, mergeS_stop S known more (by rw [HMN.out]; omega) hj⟩)
        try have hx1 : ¬ (j : Int) < (mn : Int) := by omega
        try have hx2 : ¬ (j : Int) < 16 := by omega
        clear hlt
        go_wp2_with fail
        go_ret
        exact ⟨ret_int (by rw [← HST.out.1, ← HN.out]), ⟨⟨_, _, by rw [← HST.out.2]; exact HR.out⟩, HNG.out, HOK.out.merge _ _ _⟩, HGR.out⟩
end Go.Proofs.Ytifoppnpgljphaa.Sh
