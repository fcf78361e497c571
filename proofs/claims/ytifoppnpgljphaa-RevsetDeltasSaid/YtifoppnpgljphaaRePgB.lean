/-
  The program's own set: New, Vector, Copy, by contract.
-/
import Derived.Test.YtifoppnpgljphaaRePgA
import Derived.Test.YtifoppnpgljphaaVePgC
namespace Go.Proofs.Ytifoppnpgljphaa.Sh
open Go Go.RowKit

set_option linter.unusedSimpArgs false
set_option linter.unusedVariables false
def nil16 : Array Value := #[.slice none 0 0, .slice none 0 0, .slice none 0 0, .slice none 0 0, .slice none 0 0, .slice none 0 0, .slice none 0 0, .slice none 0 0, .slice none 0 0, .slice none 0 0, .slice none 0 0, .slice none 0 0, .slice none 0 0, .slice none 0 0, .slice none 0 0, .slice none 0 0]
theorem nil16_at : ∀ i, i < 16 → nil16[i]? = some (.slice none 0 0)
  | 0, _ => rfl | 1, _ => rfl | 2, _ => rfl | 3, _ => rfl | 4, _ => rfl | 5, _ => rfl | 6, _ => rfl | 7, _ => rfl | 8, _ => rfl | 9, _ => rfl | 10, _ => rfl | 11, _ => rfl | 12, _ => rfl | 13, _ => rfl | 14, _ => rfl | 15, _ => rfl
  | n + 16, h => by omega
theorem rows_new (w : World) (P : Nat → Prop) : RowsP (w.alloc (.cells nil16 55)) P w.heap.size (fun _ => ⟨none, 0, 0⟩) nil16 S0 :=
  ⟨heap_alloc_new w _, rfl, fun i hi => nil16_at i hi, fun _ _ => rfl, fun _ _ => Own.nil _ _ _, fun _ _ _ e => by simp [Hd.val, Value.ownBlock] at e, fun _ _ _ _ _ _ e => by simp [Hd.val, Value.ownBlock] at e⟩
theorem new11_any (w : World) :
    Calls Try.prog 8 #[] w fun e w' => ∃ g : Nat, e = .returned (.pointer (some ⟨g, 0, none⟩)) ∧ w.heap.size ≤ g ∧ g < w'.heap.size ∧ Below w.heap.size w w' ∧ ∀ P : Nat → Prop, ¬ P g → SetP w' P g S0 := by
  go_enter Try.func8, Try.ntmps8
  go_wp2_with fail
  go_ret
  exact ⟨w.heap.size, rfl, Nat.le_refl _, by simp, (Below.refl w.heap.size w).alloc (Nat.le_refl _) _, fun P hP => ⟨⟨_, _, rows_new w P⟩, hP, OkS.nil⟩⟩
theorem RowsP.cells {w : World} {P : Nat → Prop} {g : Nat} {hs : Nat → Hd} {cs : Array Value} {S : Nat → List Int} (h : RowsP w P g hs cs S) (i : Nat) (hi : i < 16) : w.cell? ⟨g, i, none⟩ = some (.slice (hs i).A (hs i).n (hs i).c) := by
  rw [cell_of_row _ _ i _ _ (0, 0) h.heap]; exact h.cell i hi
theorem RowsP.below {w w' : World} {P : Nat → Prop} {g : Nat} {hs : Nat → Hd} {cs : Array Value} {S : Nat → List Int} (h : RowsP w P g hs cs S) (hb : Below w.heap.size w w') : RowsP w' P g hs cs S := h.kept (fun b _ hl => hb.block b hl) (fun _ hp _ => hp)
/-- The same, but for the row x. -/
structure RowsX (w : World) (P : Nat → Prop) (g : Nat) (hs : Nat → Hd) (cs : Array Value) (S : Nat → List Int) (x : Nat) : Prop where
  heap : w.heap[g]? = some (.cells cs 55 (0, 0))
  size : cs.size = 16
  cell : ∀ i, i < 16 → cs[i]? = some (hs i).val
  len : ∀ i, i < 16 → i ≠ x → (S i).length = (hs i).n
  own : ∀ i, i < 16 → i ≠ x → Own (E := encN) w 0 3 (hs i).val (S i)
  blk : ∀ i b, i < 16 → i ≠ x → (hs i).val.ownBlock = some b → P b
  apart : ∀ i j b, i < 16 → j < 16 → i ≠ x → j ≠ x → i ≠ j → (hs i).val.ownBlock = some b → (hs j).val.ownBlock ≠ some b
theorem RowsP.but {w : World} {P : Nat → Prop} {g : Nat} {hs : Nat → Hd} {cs : Array Value} {S : Nat → List Int} (h : RowsP w P g hs cs S) (x : Nat) : RowsX w P g hs cs S x :=
  ⟨h.heap, h.size, h.cell, fun i hi _ => h.len i hi, fun i hi _ => h.own i hi, fun i b hi _ => h.blk i b hi, fun i j b hi hj _ _ => h.apart i j b hi hj⟩
theorem RowsX.kept {w w' : World} {P : Nat → Prop} {g : Nat} {hs : Nat → Hd} {cs : Array Value} {S : Nat → List Int} {x : Nat} (h : RowsX w P g hs cs S x) (hg : w'.heap[g]? = w.heap[g]?) (hk : ∀ i b, i < 16 → i ≠ x → (hs i).val.ownBlock = some b → b < w.heap.size → w'.heap[b]? = w.heap[b]?) : RowsX w' P g hs cs S x :=
  ⟨hg.trans h.heap, h.size, h.cell, h.len, fun i hi hx => (h.own i hi hx).kept fun b e => hk i b hi hx e ((h.own i hi hx).lt b e).2, h.blk, h.apart⟩
theorem RowsX.drewN {w : World} {P : Nat → Prop} {g : Nat} {hs : Nat → Hd} {cs : Array Value} {S : Nat → List Int} {x : Nat} (h : RowsX w P g hs cs S x) (k : Nat) : RowsX (w.drewN k) P g hs cs S x := h.kept rfl (fun _ _ _ _ _ _ => rfl)
/-- The row x is put. -/
theorem RowsX.put {w : World} {P : Nat → Prop} {g : Nat} {hs : Nat → Hd} {cs : Array Value} {S : Nat → List Int} {x : Nat} (h : RowsX w P g hs cs S x) (ng : ¬ P g) (hx : x < 16) {y : Hd} {l : List Int} (hl : l.length = y.n) (o : Own (E := encN) w 0 3 y.val l)
    (hp : ∀ b, y.val.ownBlock = some b → P b) (ha : ∀ i b, i < 16 → i ≠ x → (hs i).val.ownBlock = some b → y.val.ownBlock ≠ some b) :
    RowsP (w.setCell ⟨g, x, none⟩ y.val) P g (fun i => if i = x then y else hs i) (cs.setIfInBounds x y.val) (up S x l) ∧ w.grownBy (w.setCell ⟨g, x, none⟩ y.val) (some g) := by
  have hother : ∀ b, b ≠ g → (w.setCell ⟨g, x, none⟩ y.val).heap[b]? = w.heap[b]? := fun b hb => heap_setCell_other w ⟨g, x, none⟩ b _ (fun e => hb (by simp [e]))
  have hkept : ∀ {z : Hd} {m : List Int}, Own (E := encN) w 0 3 z.val m → (∀ b, z.val.ownBlock = some b → P b) → Own (E := encN) (w.setCell ⟨g, x, none⟩ y.val) 0 3 z.val m := fun q hq => q.kept fun b e => hother b (fun e2 => ng (e2 ▸ hq b e))
  refine ⟨⟨heap_setCell_same w g x cs _ _ h.heap, by simpa using h.size, fun i hi => ?_, fun i hi => ?_, fun i hi => ?_, fun i b hi e => ?_, fun i j b hi hj hij e => ?_⟩, ⟨rfl, rfl, rfl, by simp, fun k _ hk => hother k (fun e => hk (by simp [e]))⟩⟩
  · by_cases e : i = x
    · subst e
      rw [if_pos rfl, Array.getElem?_setIfInBounds_self_of_lt (by rw [h.size]; exact hi)]
    · rw [if_neg e, Array.getElem?_setIfInBounds_ne (fun e2 => e e2.symm)]
      exact h.cell i hi
  · by_cases e : i = x
    · subst e; rw [if_pos rfl, up_at]; exact hl
    · rw [if_neg e, up_ne _ _ e]; exact h.len i hi e
  · by_cases e : i = x
    · subst e; rw [if_pos rfl, up_at]; exact hkept o hp
    · rw [if_neg e, up_ne _ _ e]; exact hkept (h.own i hi e) (fun b => h.blk i b hi e)
  · by_cases e2 : i = x
    · subst e2; rw [if_pos rfl] at e; exact hp b e
    · rw [if_neg e2] at e; exact h.blk i b hi e2 e
  · by_cases ei : i = x
    · subst ei
      rw [if_pos rfl] at e
      rw [if_neg (fun e2 => hij e2.symm)]
      intro e2
      exact ha j b hj (fun e3 => hij e3.symm) e2 e
    · rw [if_neg ei] at e
      by_cases ej : j = x
      · subst ej; rw [if_pos rfl]; exact ha i b hi ei e
      · rw [if_neg ej]; exact h.apart i j b hi hj ei ej hij e
theorem idx16 (hs : Nat → Hd) : ∀ (k : Nat) (hk : k < 16) (w : World), (Instr.index 53 (.agg #[.slice (hs 0).A (hs 0).n (hs 0).c, .slice (hs 1).A (hs 1).n (hs 1).c, .slice (hs 2).A (hs 2).n (hs 2).c, .slice (hs 3).A (hs 3).n (hs 3).c, .slice (hs 4).A (hs 4).n (hs 4).c, .slice (hs 5).A (hs 5).n (hs 5).c, .slice (hs 6).A (hs 6).n (hs 6).c, .slice (hs 7).A (hs 7).n (hs 7).c,
    .slice (hs 8).A (hs 8).n (hs 8).c, .slice (hs 9).A (hs 9).n (hs 9).c, .slice (hs 10).A (hs 10).n (hs 10).c, .slice (hs 11).A (hs 11).n (hs 11).c, .slice (hs 12).A (hs 12).n (hs 12).c, .slice (hs 13).A (hs 13).n (hs 13).c, .slice (hs 14).A (hs 14).n (hs 14).c, .slice (hs 15).A (hs 15).n (hs 15).c]) (.int .i64 (k : Int))).run Try.prog w = .ok (.slice (hs k).A (hs k).n (hs k).c) w
  | 0, _, _ => by kernel_rfl | 1, _, _ => by kernel_rfl | 2, _, _ => by kernel_rfl | 3, _, _ => by kernel_rfl | 4, _, _ => by kernel_rfl | 5, _, _ => by kernel_rfl | 6, _, _ => by kernel_rfl | 7, _, _ => by kernel_rfl
  | 8, _, _ => by kernel_rfl | 9, _, _ => by kernel_rfl | 10, _, _ => by kernel_rfl | 11, _, _ => by kernel_rfl | 12, _, _ => by kernel_rfl | 13, _, _ => by kernel_rfl | 14, _, _ => by kernel_rfl | 15, _, _ => by kernel_rfl
  | n + 16, h, _ => by omega
set_option maxHeartbeats 4000000 in
theorem vector11_any {w : World} {P : Nat → Prop} {g : Nat} {S : Nat → List Int} (h : SetP w P g S) :
    Calls Try.prog 25 #[.pointer (some ⟨g, 0, none⟩)] w fun e w' => ∃ (A : Option Addr) (c : Nat), e = .returned (.slice A (vecS S).length c) ∧ Frs w' w.heap.size A (vecS S).length (vecS S) ∧ Below w.heap.size w w' := by
  obtain ⟨hs, cs, r⟩ := h.rows
  obtain ⟨f, hf⟩ : ∃ f : Nat → Int, f = fun i => ((S i).length : Int) := ⟨_, rfl⟩
  have HF : Hid (∀ i, i < 16 → f i = ((hs i).n : Int)) := hid (fun i hi => by rw [hf, ← r.len i hi])
  have HV : Hid (bareV (upto f 16) = vecS S) := hid (by
    unfold bareV vecS
    rw [hf]
    exact vecOf_congr fun i hi => vat_upto (vecS_b h.ok) hi)
  have HCC : Hid (∀ W, Below w.heap.size w W → ∀ i, i < 16 → W.cell? ⟨g, i, none⟩ = some (.slice (hs i).A (hs i).n (hs i).c)) := hid (fun W hW i hi => (r.below hW).cells i hi)
  have HI := hid (idx16 hs)
  have m1 := make16
  have HZ : Hid ((w.alloc (.cells zN 3)).heap[w.heap.size]? = some (.cells (half16 f 0).toArray 3 (0, 0))) := hid (by rw [half16_zero]; exact heap_alloc_new w _)
  have HB0 := hid ((Below.refl w.heap.size w).alloc (Nat.le_refl _) (.cells zN 3))
  have k0 := HCC.out _ HB0.out 0 (by omega)
  have k1 := HCC.out _ HB0.out 1 (by omega)
  have k2 := HCC.out _ HB0.out 2 (by omega)
  have k3 := HCC.out _ HB0.out 3 (by omega)
  have k4 := HCC.out _ HB0.out 4 (by omega)
  have k5 := HCC.out _ HB0.out 5 (by omega)
  have k6 := HCC.out _ HB0.out 6 (by omega)
  have k7 := HCC.out _ HB0.out 7 (by omega)
  have k8 := HCC.out _ HB0.out 8 (by omega)
  have k9 := HCC.out _ HB0.out 9 (by omega)
  have k10 := HCC.out _ HB0.out 10 (by omega)
  have k11 := HCC.out _ HB0.out 11 (by omega)
  have k12 := HCC.out _ HB0.out 12 (by omega)
  have k13 := HCC.out _ HB0.out 13 (by omega)
  have k14 := HCC.out _ HB0.out 14 (by omega)
  have k15 := HCC.out _ HB0.out 15 (by omega)
  clear h r hf
  go_enter Try.func25, Try.ntmps25
  go_wp2_with fail
  clear k0 k1 k2 k3 k4 k5 k6 k7 k8 k9 k10 k11 k12 k13 k14 k15
  go_loopw [11] (fun i wr => ∃ j : Nat, i = .int .i64 (j : Int) ∧ j ≤ 16 ∧ Hid (wr.heap[w.heap.size]? = some (.cells (half16 f j).toArray 3 (0, 0))) ∧ Hid (Below w.heap.size w wr)) (fun i _ => 16 - (intOf i).toNat)
  case atStart => exact ⟨0, rfl, Nat.zero_le _, HZ, HB0⟩
  case round =>
    clear HZ HB0
    obtain ⟨j, rfl, hj, HR, HB⟩ := hrel
    have hk0 : (0 : Int) ≤ (j : Int) := Int.natCast_nonneg _
    by_cases hlt : j < 16
    · have hk1 : (j : Int) < 16 := by omega
      have hix := HI.out j hlt
      obtain ⟨y, hy⟩ : ∃ y, hs j = y := ⟨_, rfl⟩
      rw [hy] at hix
      have HX : Hid (f j = (y.n : Int)) := hid (by rw [HF.out j hlt, hy])
      have fz := frozen_of_row wr w.heap.size j _ _ HR.out
      obtain ⟨cv, hcv⟩ := row_cell (j := j) HR.out (by rw [half16_len]; exact hlt)
      have HR2 : Hid ((wr.setCell ⟨w.heap.size, j, none⟩ (.int .i64 (y.n : Int))).heap[w.heap.size]? = some (.cells (half16 f (j + 1)).toArray 3 (0, 0))) := hid (by
        have := heap_setCell_same wr w.heap.size j _ _ (.int .i64 (y.n : Int)) HR.out
        rw [List.setIfInBounds_toArray, ← HX.out, half16_set f hlt] at this
        rw [← HX.out]
        exact this)
      have HB2 : Hid (Below w.heap.size w (wr.setCell ⟨w.heap.size, j, none⟩ (.int .i64 (y.n : Int)))) := hid (HB.out.setCell (p := ⟨w.heap.size, j, none⟩) (Nat.le_refl _) _)
      clear hy HR HB
      go_wp2_with fail
      go_roundw
      case rel => exact ⟨j + 1, by go_num, by omega, HR2, HB2⟩
      case measure => simp [intOf]; omega
    · obtain rfl : j = 16 := by omega
      have HE : Hid (Els encN wr wr.heap.size (some ⟨w.heap.size, 0, none⟩) (upto f 16)) := hid (fun _ => ⟨_, rfl, (Array.getElem?_eq_some_iff.1 HR.out).1, fun i u hu => by
        have hi : i < 16 := by
          have := (List.getElem?_eq_some_iff.1 hu).1
          rw [ev_length, upto_len] at this
          simpa [encN] using this
        rw [addr_rowN, cell_of_row _ _ i _ _ (0, 0) HR.out]
        have h3 : (half16 f 16)[i]? = some (.int .i64 (f i)) := by rw [half16_at f (by omega), if_pos (by omega)]
        have h4 : (upto f 16)[i]? = some (f i) := by unfold upto; rw [List.getElem?_map, List.getElem?_range hi]; rfl
        have h2 := ev_get encN h4 (i := 0) (by simp [encN])
        rw [show i * encN.k + 0 = i by simp [encN]] at h2
        rw [h2] at hu
        have h5 : u = .int .i64 (f i) := by simpa [encN] using hu.symm
        rw [h5]
        simpa using h3⟩)
      have HBR := hid (bare_any (some ⟨w.heap.size, 0, none⟩) (upto f 16) 16 16 (upto_len _ _) (by omega) wr HE.out)
      rw [HV.out] at HBR
      go_wp2_with fail
      refine HBR.out.mono ?_
      rintro er w1 ⟨A2, c2, rfl, ho, hb⟩
      have HO2 : Hid (Frs w1 w.heap.size A2 (vecS S).length (vecS S)) := hid ⟨ho.len, ho.row, fun ad e => ⟨Nat.le_trans HB.out.size (ho.lies ad e).1, (ho.lies ad e).2⟩⟩
      have HB2 := hid (HB.out.trans (hb.mono HB.out.size))
      clear ho hb
      go_wp2_with fail
      go_ret
      exact ⟨A2, c2, rfl, HO2.out, HB2.out⟩
/-- The first k rows. -/
def firstS (S : Nat → List Int) (k : Nat) : Nat → List Int := fun i => if i < k then S i else []
theorem firstS_succ (S : Nat → List Int) (k : Nat) : up (firstS S k) k (S k) = firstS S (k + 1) := funext fun i => by
  unfold up firstS
  by_cases h : i = k
  · subst h; simp
  · rw [if_neg h]
    by_cases h2 : i < k
    · rw [if_pos h2, if_pos (by omega)]
    · rw [if_neg h2, if_neg (by omega)]
theorem RowsP.congr {w : World} {P : Nat → Prop} {g : Nat} {hs : Nat → Hd} {cs : Array Value} {S T : Nat → List Int} (h : RowsP w P g hs cs S) (e : ∀ i, i < 16 → S i = T i) : RowsP w P g hs cs T :=
  ⟨h.heap, h.size, h.cell, fun i hi => by rw [← e i hi]; exact h.len i hi, fun i hi => by rw [← e i hi]; exact h.own i hi, h.blk, h.apart⟩
set_option maxHeartbeats 4000000 in
theorem copy11_any {w : World} {P : Nat → Prop} {g : Nat} {S : Nat → List Int} (h : SetP w P g S) :
    Calls Try.prog 26 #[.pointer (some ⟨g, 0, none⟩)] w fun e w' => ∃ g' : Nat, e = .returned (.pointer (some ⟨g', 0, none⟩)) ∧ w.heap.size ≤ g' ∧ g' < w'.heap.size ∧ Below w.heap.size w w' ∧ ∀ P : Nat → Prop, ¬ P g' → (∀ b, w.heap.size ≤ b → b ≠ g' → P b) → SetP w' P g' S := by
  obtain ⟨hs, cs, r⟩ := h.rows
  have HOK := hid h.ok
  have HR := hid (fun W (hW : Below w.heap.size w W) => r.below hW)
  have HCC : Hid (∀ W, Below w.heap.size w W → ∀ i, i < 16 → W.cell? ⟨g, i, none⟩ = some (.slice (hs i).A (hs i).n (hs i).c)) := hid (fun W hW i hi => (r.below hW).cells i hi)
  have HI := hid (idx16 hs)
  clear h r
  go_enter Try.func26, Try.ntmps26
  go_wp2_with fail
  refine (new11_any w).mono ?_
  rintro er w1 ⟨gs, rfl, s1, s2, b1, p1⟩
  have k0 := HCC.out w1 b1 0 (by omega)
  have k1 := HCC.out w1 b1 1 (by omega)
  have k2 := HCC.out w1 b1 2 (by omega)
  have k3 := HCC.out w1 b1 3 (by omega)
  have k4 := HCC.out w1 b1 4 (by omega)
  have k5 := HCC.out w1 b1 5 (by omega)
  have k6 := HCC.out w1 b1 6 (by omega)
  have k7 := HCC.out w1 b1 7 (by omega)
  have k8 := HCC.out w1 b1 8 (by omega)
  have k9 := HCC.out w1 b1 9 (by omega)
  have k10 := HCC.out w1 b1 10 (by omega)
  have k11 := HCC.out w1 b1 11 (by omega)
  have k12 := HCC.out w1 b1 12 (by omega)
  have k13 := HCC.out w1 b1 13 (by omega)
  have k14 := HCC.out w1 b1 14 (by omega)
  have k15 := HCC.out w1 b1 15 (by omega)
  go_wp2_with fail
  have HB1 := hid b1
  obtain ⟨hd1, cs1, r1⟩ := (p1 (fun b => w.heap.size ≤ b ∧ b ≠ gs) (fun h => h.2 rfl)).rows
  have HR1 := hid r1
  clear b1 p1 r1 k0 k1 k2 k3 k4 k5 k6 k7 k8 k9 k10 k11 k12 k13 k14 k15
  go_loopw [11] (fun i wr => ∃ (k : Nat) (hd : Nat → Hd) (cs2 : Array Value), i = .int .i64 (k : Int) ∧ k ≤ 16 ∧ Hid (RowsP wr (fun b => w.heap.size ≤ b ∧ b ≠ gs) gs hd cs2 (firstS S k)) ∧ Hid (Below w.heap.size w wr)) (fun i _ => 16 - (intOf i).toNat)
  case atStart => exact ⟨0, hd1, cs1, rfl, Nat.zero_le _, hid (HR1.out.congr fun i _ => by simp [firstS, S0]), HB1⟩
  case round =>
    clear HR1 HB1
    obtain ⟨wj, hwj⟩ : ∃ x, x = wr := ⟨_, rfl⟩
    subst hwj
    obtain ⟨k, hd, cs2, rfl, hk, HRJ, HB⟩ := hrel
    have hk0 : (0 : Int) ≤ (k : Int) := Int.natCast_nonneg _
    by_cases hlt : k < 16
    · have hk1 : (k : Int) < 16 := by omega
      have hix := HI.out k hlt
      have HCL := hid (fun W (hW : Below wj.heap.size wj W) => clone_any (w := W) (hs k).A (S k) (hs k).n (hs k).c ((HR.out wj HB.out).len k hlt) (by rw [← (HR.out wj HB.out).len k hlt]; have := (HOK.out k).len; omega) (((HR.out wj HB.out).own k hlt).below hW))
      have HLN := hid ((HR.out wj HB.out).len k hlt)
      obtain ⟨y, hy⟩ : ∃ y, hs k = y := ⟨_, rfl⟩
      rw [hy] at hix HCL HLN
      clear hy
      go_wp2_with fail
      go_region_held3 (fun _ => True) (trivial) ((first | (go_at_call 36; (refine (HCL.out _ (Below.refl _ _).drew).mono ?_); rintro er w8 ⟨A8, k8, rfl, o8, b8⟩; have B8 : Hid (Below wj.heap.size wj w8) := hid ((Below.refl _ _).drew.trans b8); have O8 := hid o8; have R8 := hid (HRJ.out.below B8.out); have c8 : w8.cell? ⟨gs, k, none⟩ = some (.slice (hd k).A (hd k).n (hd k).c) := R8.out.cells k hlt; have f8 : w8.frozen? ⟨gs, k, none⟩ = false := frozen_of_row w8 _ k _ _ R8.out.heap; clear b8 o8)))
      all_goals
        clear HCC HI HR HCL HOK
        go_wp2_with fail
        go_roundw
        case rel => exact ⟨k + 1, _, _, by go_num, by omega, hid (by
          have q := ((R8.out.but k).put (y := ⟨A8, y.n, k8⟩) (fun h => h.2 rfl) hlt HLN.out (O8.out.lower (Nat.zero_le _)) (fun b e => by
              have h1 := (O8.out.lt b e).1
              have h2 := HB.out.size
              have h3 := HRJ.out.lt
              have h4 : wj.drew.heap.size = wj.heap.size := rfl
              exact ⟨by omega, by omega⟩) (fun i b hi hx e e2 => by
              have h1 := (O8.out.lt b e2).1
              have h2 := ((HRJ.out.own i hi).lt b e).2
              have h4 : wj.drew.heap.size = wj.heap.size := rfl
              omega)).1
          rw [firstS_succ] at q
          exact q), hid ((HB.out.trans (B8.out.mono HB.out.size)).setCell (p := ⟨gs, k, none⟩) s1 _)⟩
        case measure => simp [intOf]; omega
    · obtain rfl : k = 16 := by omega
      have HS : Hid (RowsP wj (fun b => w.heap.size ≤ b ∧ b ≠ gs) gs hd cs2 S) := hid (HRJ.out.congr fun i hi => if_pos hi)
      clear HCC HI HR HRJ
      go_wp2_with fail
      go_ret
      exact ⟨gs, rfl, s1, HS.out.lt, HB.out, fun P hn hp => ⟨⟨_, _, HS.out.kept (fun _ _ _ => rfl) (fun b hb _ => hp b hb.1 hb.2)⟩, hn, HOK.out⟩⟩
end Go.Proofs.Ytifoppnpgljphaa.Sh
