/-
  The document's set: New, Vector, Add, by contract.
-/
import Derived.Test.YtifoppnpgljphaaReRef2
namespace Go.Proofs.Ytifoppnpgljphaa.Sh
open Go Go.RowKit

set_option linter.unusedSimpArgs false
set_option linter.unusedVariables false
theorem gro_bl {w w' : World} {row : Option Nat} (hb : Below w.heap.size w w') : w.grownBy w' row := ⟨hb.os, hb.tape, hb.output, hb.size, fun i hi _ => hb.block i hi⟩
theorem gro_then {a w w' : World} {row : Option Nat} (h : a.grownBy w row) (hb : Below w.heap.size w w') : a.grownBy w' row :=
  ⟨hb.os.trans h.os, hb.tape.trans h.tape, hb.output.trans h.output, Nat.le_trans h.size hb.size, fun i hi hne => (hb.block i (Nat.lt_of_lt_of_le hi h.size)).trans (h.block i hi hne)⟩
theorem gro_next {a w w' : World} {row : Option Nat} (hb : Below a.heap.size a w) (h : w.grownBy w' row) : a.grownBy w' row :=
  ⟨h.os.trans hb.os, h.tape.trans hb.tape, h.output.trans hb.output, Nat.le_trans hb.size h.size, fun i hi hne => (h.block i (Nat.lt_of_lt_of_le hi hb.size) hne).trans (hb.block i hi)⟩
set_option maxHeartbeats 2000000 in
theorem refNew11_any (w : World) :
    Calls Try.prog 9 #[] w fun e w' => ∃ g gL : Nat, e = .returned (.pointer (some ⟨g, 0, none⟩)) ∧ w.heap.size ≤ g ∧ w.heap.size ≤ gL ∧ g < w'.heap.size ∧ gL < w'.heap.size ∧ Below w.heap.size w w' ∧ ∀ P : Nat → Prop, ¬ P g → ¬ P gL → SetR w' P g gL S0 := by
  go_enter Try.func9, Try.ntmps9
  go_wp2_with fail
  obtain ⟨w1, hw1⟩ : ∃ x, x = w.alloc (.cells #[.slice none 0 0] 57) := ⟨_, rfl⟩
  have HB1 : Hid (Below w.heap.size w w1) := hid (by rw [hw1]; exact (Below.refl _ _).alloc (Nat.le_refl _) _)
  have HR1 : Hid (w1.heap[w.heap.size]? = some (.cells #[.slice none 0 0] 57 (0, 0))) := hid (by rw [hw1]; exact heap_alloc_new w _)
  rw [← hw1]
  clear hw1
  obtain ⟨g, hg⟩ : ∃ g, w.heap.size = g := ⟨_, rfl⟩
  rw [hg] at HR1 ⊢
  have HG := hid hg
  clear hg
  go_loopw [2] (fun i wr => ∃ (j : Nat) (A : Option Addr) (c : Nat), i = .int .i64 (j : Int) ∧ j ≤ 16 ∧ Hid (wr.heap[g]? = some (.cells #[.slice A j c] 57 (0, 0))) ∧ Hid (Own (E := encH) wr (g + 1) 30 (.slice A j c) (List.replicate j ⟨none, 0, 0⟩)) ∧ Hid (Below w.heap.size w wr)) (fun i _ => 16 - (intOf i).toNat)
  case atStart => exact ⟨0, none, 0, rfl, Nat.zero_le _, HR1, hid (Own.nil _ _ _), HB1⟩
  case round =>
    clear HR1 HB1
    obtain ⟨wj, hwj⟩ : ∃ x, x = wr := ⟨_, rfl⟩
    subst hwj
    obtain ⟨j, A, c, rfl, hj, HR, HO, HB⟩ := hrel
    have hj0 : (0 : Int) ≤ (j : Int) := Int.natCast_nonneg _
    by_cases hlt : j < 16
    · have hj1 : (j : Int) < 16 := by omega
      have c0 : wj.cell? ⟨g, 0, none⟩ = some (.slice A j c) := by rw [cell_of_row _ _ 0 _ _ (0, 0) HR.out]; rfl
      have hgl := (Array.getElem?_eq_some_iff.1 HR.out).1
      have HOA := hid (HO.out.alloc (.cells #[.slice none 0 0] 30))
      have HRD := hid (reads_new wj #[.slice none 0 0] 30 (0, 0))
      have hbs : g + 1 ≤ (wj.alloc (.cells #[.slice none 0 0] 30)).heap.size := by simp; omega
      have hfl : (List.replicate j (⟨none, 0, 0⟩ : Hd)).length ≤ 1000000000000 := by simp; omega
      have HUL : Hid ((List.replicate j (⟨none, 0, 0⟩ : Hd)).length = j) := hid (by simp)
      have HFR : Hid (∀ (A9 : Option Addr) (c9 : Nat) (w9 : World), Own (E := encH) w9 (g + 1) 30 (.slice A9 (j + 1) c9) (List.replicate j ⟨none, 0, 0⟩ ++ [⟨none, 0, 0⟩]) → (wj.alloc (.cells #[.slice none 0 0] 30)).grownBy w9 (Value.slice A j c).ownBlock →
          w9.heap[g]? = some (.cells #[.slice A j c] 57 (0, 0)) ∧ Below w.heap.size w w9 ∧ Own (E := encH) (w9.setCell ⟨g, 0, none⟩ (.slice A9 (j + 1) c9)) (g + 1) 30 (.slice A9 (j + 1) c9) (List.replicate (j + 1) ⟨none, 0, 0⟩) ∧
          (w9.setCell ⟨g, 0, none⟩ (.slice A9 (j + 1) c9)).heap[g]? = some (.cells #[.slice A9 (j + 1) c9] 57 (0, 0)) ∧ Below w.heap.size w (w9.setCell ⟨g, 0, none⟩ (.slice A9 (j + 1) c9))) := hid (by
        intro A9 c9 w9 o9 g9
        have hne : some g ≠ (Value.slice A j c).ownBlock := fun e => by have := (HO.out.lt g e.symm).1; omega
        have h1 : w9.heap[g]? = some (.cells #[.slice A j c] 57 (0, 0)) := by
          rw [g9.block g (by simp; omega) hne]
          exact (((Below.refl wj.heap.size wj).alloc (Nat.le_refl _) _).block g hgl).trans HR.out
        have h2 : Below w.heap.size w w9 := (HB.out.alloc HB.out.size _).grown g9 (by have := HB.out.size; simp; omega) (fun b e => by have := (HO.out.lt b e).1; have := HG.out; omega)
        refine ⟨h1, h2, ?_, ?_, h2.setCell (p := ⟨g, 0, none⟩) (by simp only; have := HG.out; omega) _⟩
        · rw [List.replicate_succ']
          exact o9.kept fun b e => heap_setCell_other w9 ⟨g, 0, none⟩ b _ (fun e2 => by have := (o9.lt b e).1; have e3 : b = g := (by simpa using e2); omega)
        · exact heap_setCell_same w9 g 0 _ _ _ h1)
      clear hgl
      go_wp2_with (first | (at_builtin; refine wpList_app1 (E := encH) rfl slH (.tmp 13) (.tmp 14) rfl (B := g + 1) (v := .slice A j c) (l := List.replicate j ⟨none, 0, 0⟩) HOA.out rfl (ad := ⟨wj.heap.size, 0, none⟩) (c := 1) ⟨none, 0, 0⟩ rfl HRD.out hfl (by omega) hbs ?_; intro A9 c9 w9 ho9 hg9 he9; rw [HUL.out] at ho9; obtain ⟨k1, k2, k3, k4, k5⟩ := HFR.out A9 c9 w9 ho9 hg9; have K1 := hid k1; have K3 := hid k3; have K4 := hid k4; have K5 := hid k5; have f9 := frozen_of_row w9 g 0 _ _ k1; have c9' : w9.cell? ⟨g, 0, none⟩ = some (.slice A j c) := (by rw [cell_of_row _ _ 0 _ _ (0, 0) k1]; rfl); clear ho9 hg9 he9 k1 k2 k3 k4 k5 HFR; rw [HUL.out]) | go_in)
      go_roundw
      case rel => exact ⟨j + 1, A9, c9, by go_num, by omega, K4, K3, K5⟩
      case measure => simp [intOf]; omega
    · obtain rfl : j = 16 := by omega
      have HE : Hid (∃ gL, w.heap.size ≤ g ∧ w.heap.size ≤ gL ∧ g < wj.heap.size ∧ gL < wj.heap.size ∧ ∀ P : Nat → Prop, ¬ P g → ¬ P gL → SetR wj P g gL S0) := hid (by
        obtain ⟨h1, h2⟩ := HO.out
        rcases h2 with ⟨_, h0⟩ | ⟨gL, cap, cur, e, hb, hh, hle, hmx, hsz, hx⟩
        · simp at h0
        · simp only [List.length_replicate, Value.slice.injEq] at e hle
          obtain ⟨rfl, _, rfl⟩ := e
          refine ⟨gL, by have := HG.out; omega, by have := HG.out; omega, (Array.getElem?_eq_some_iff.1 HR.out).1, (Array.getElem?_eq_some_iff.1 hh).1, fun P n1 n2 => ⟨⟨c, hle, hmx, HR.out⟩, ⟨cur, hh, fun i hi => ⟨⟨none, 0, 0⟩, ?_, RowAt.nil _ _⟩⟩, n1, n2, by omega, OkS.nil⟩⟩
          have hi2 : (ev encH (List.replicate 16 (⟨none, 0, 0⟩ : Hd)))[i]? = some (Hd.val ⟨none, 0, 0⟩) := by
            rw [ev_hd, List.getElem?_map, List.getElem?_replicate, if_pos hi]; rfl
          rw [← hx, List.getElem?_take] at hi2
          split at hi2
          · simpa using hi2
          · cases hi2)
      go_wp2_with fail
      go_ret
      obtain ⟨gL, h1, h2, h3, h4, h5⟩ := HE.out
      exact ⟨g, gL, rfl, h1, h2, h3, h4, HB.out, h5⟩
theorem vecOf_congr {f h : Nat → Int} (e : ∀ i, i < 16 → f i = h i) : vecOf f = vecOf h := by
  unfold vecOf
  rw [List.map_congr_left fun i hi => e i (List.mem_range.1 hi)]
theorem vat_upto {f : Nat → Int} (hf : ∀ i, 0 ≤ f i ∧ f i ≤ 1099511627776) {i n : Nat} (hi : i < n) : vat (upto f n) i = f i := by
  unfold vat upto
  rw [List.getElem?_map, List.getElem?_range hi]
  exact clv_id (hf i).1 (hf i).2
set_option maxHeartbeats 2000000 in
theorem refVector11_any {w : World} {P : Nat → Prop} {g gL : Nat} {S : Nat → List Int} (h : SetR w P g gL S) :
    Calls Try.prog 31 #[.pointer (some ⟨g, 0, none⟩)] w fun e w' => ∃ (A' : Option Addr) (c' : Nat), e = .returned (.slice A' (vecS S).length c') ∧ Own (E := encN) w' w.heap.size 3 (.slice A' (vecS S).length c') (vecS S) ∧ Below w.heap.size w w' := by
  obtain ⟨f, hf⟩ : ∃ f : Nat → Int, f = fun i => ((S i).length : Int) := ⟨_, rfl⟩
  have HF : Hid (∀ i, f i = ((S i).length : Int)) := hid (fun i => by rw [hf])
  have HV : Hid (bareV (upto f 16) = vecS S) := hid (by
    unfold bareV vecS
    rw [hf]
    exact vecOf_congr fun i hi => vat_upto (vecS_b h.ok) hi)
  have HS := hid (fun W (hW : Below w.heap.size w W) => h.below hW)
  clear h hf
  go_enter Try.func31, Try.ntmps31
  go_wp2_with fail
  go_loopw [3, 4] (fun v i wr => ∃ (A1 : Option Addr) (c1 j : Nat), v = .slice A1 j c1 ∧ i = .int .i64 ((j : Int) + 1) ∧ j ≤ 16 ∧ Hid (Own (E := encN) wr w.heap.size 3 (.slice A1 j c1) (upto f j)) ∧ Hid (Below w.heap.size w wr)) (fun _ i _ => 17 - (intOf i).toNat)
  case atStart => exact ⟨none, 0, 0, rfl, rfl, Nat.zero_le _, hid (Own.nil _ _ _), hid (Below.refl _ _)⟩
  case round =>
    obtain ⟨wj, hwj⟩ : ∃ x, x = wr := ⟨_, rfl⟩
    subst hwj
    obtain ⟨A1, c1, j, rfl, rfl, hj, HO, HB⟩ := hrel
    have hj0 : (0 : Int) ≤ (j : Int) := Int.natCast_nonneg _
    by_cases hlt : j < 16
    · have hj1 : (j : Int) + 1 ≤ 16 := by omega
      have hj2 : (j : Int) < 16 := by omega
      have e1 : (j : Int) + 1 - 1 = (j : Int) := by omega
      obtain ⟨c, n, kc, A, hc1, hc2, ha, hb, r⟩ := (HS.out wj HB.out).at hlt
      have hnl : f j = (n : Int) := by rw [HF.out, r.len]
      have HNX : Hid (upto f (j + 1) = upto f j ++ [(n : Int)]) := hid (by rw [upto_succ, hnl])
      have hfl : (upto f j).length ≤ 1000000000000 := by rw [upto_len]; omega
      have HUL : Hid ((upto f j).length = j) := hid (upto_len _ _)
      clear hnl r
      have HOA7 := hid ((HO.out).alloc (.cells #[.int .i64 (n : Int)] 3))
      have HRD7 := hid (reads_new wj #[.int .i64 (n : Int)] 3 (0, 0))
      have HBA7 := hid ((HB.out).alloc (HB.out).size (.cells #[.int .i64 (n : Int)] 3))
      have hbs7 : w.heap.size ≤ (wj.alloc (.cells #[.int .i64 (n : Int)] 3)).heap.size := HBA7.out.size
      go_wp2_with (first | (at_builtin; refine wpList_app1 (E := encN) rfl slN (.tmp 9) (.tmp 19) rfl (B := w.heap.size) (v := .slice A1 j c1) (l := upto f j) HOA7.out rfl (ad := ⟨wj.heap.size, 0, none⟩) (c := 1) (n : Int) rfl HRD7.out hfl (by omega) hbs7 ?_; intro A9 c9 w9 ho9 hg9 he9; have HO9 := hid ho9; have HB9 := hid (HBA7.out.grown hg9 hbs7 (fun g e => (World.ownsRow.lt HOA7.out g e).1)); clear ho9 hg9 he9) | go_in)
      rw [HUL.out] at HO9 ⊢
      go_roundw
      case rel => exact ⟨A9, c9, j + 1, rfl, by go_num, by omega, hid (by rw [HNX.out]; exact HO9.out), HB9⟩
      case measure => simp [intOf]; omega
    · obtain rfl : j = 16 := by omega
      have HBR := hid (refBare_any A1 (upto f 16) 16 c1 (upto_len _ _) (by omega) wj (own_els HO.out))
      rw [HV.out] at HBR
      go_wp2_with fail
      refine HBR.out.mono ?_
      rintro er w1 ⟨A2, c2, rfl, ho, hb⟩
      have HO2 : Hid (Own (E := encN) w1 w.heap.size 3 (.slice A2 (vecS S).length c2) (vecS S)) := hid ⟨ho.1, ho.2.imp id (fun ⟨g, cap, cur, e, h1, h2⟩ => ⟨g, cap, cur, e, Nat.le_trans HB.out.size h1, h2⟩)⟩
      have HB2 := hid (HB.out.trans (hb.mono HB.out.size))
      clear ho hb
      go_wp2_with fail
      go_ret
      exact ⟨A2, c2, rfl, HO2.out, HB2.out⟩
end Go.Proofs.Ytifoppnpgljphaa.Sh
