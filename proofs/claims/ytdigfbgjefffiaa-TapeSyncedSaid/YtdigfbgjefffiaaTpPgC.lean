/-
  The program's tape: apply. Written by mk_tppgc.py.
-/
import Derived.Test.YtdigfbgjefffiaaTpPgB
import Derived.Deep.RegionLaw
import Derived.BigQuiet
namespace Go.Proofs.Ytdigfbgjefffiaa.Sh
open Go Go.RowKit

set_option linter.unusedSimpArgs false
set_option linter.unusedVariables false
/-- What was made since is for k. -/
def kapQ (κ : Nat → Nat) (n k : Nat) : Nat → Nat := fun x => if x < n then κ x else k
theorem kapQ_old {κ : Nat → Nat} {n k x : Nat} (h : x < n) : kapQ κ n k x = κ x := by unfold kapQ; rw [if_pos h]
theorem kapQ_new {κ : Nat → Nat} {n k x : Nat} (h : n ≤ x) : kapQ κ n k x = k := by unfold kapQ; rw [if_neg (by omega)]
section
variable {w : World} {P : Nat → Prop} {κ : Nat → Nat} {q un uc : Nat} {V0 V1 U0 U1 : Hd} {UA : Option Addr} {a0 a1 b0 b1 : List UInt8} {L : List Ru} {ct lf : Int} {bn : Bool}
/-- Behind the append: the cell is written. -/
theorem TapF.put0 {w1 w4 : World} {n' c' : Nat} {A A' : Option Addr} {c n : Nat} {l k : List UInt8} (e : TapF w P κ q V0 V1 U0 U1 UA un uc a0 a1 b0 b1 L ct bn lf) (hb : Below w.heap.size w w1)
    (h : AppS w1 w4 (fun g => P g ∧ κ g = 0) A n c l k A' n' c') (hf : Fre A n c U0.A U0.n) :
    TapF (w4.setCell ⟨q, 0, none⟩ (.slice A' n' c')) (plusQ P w.heap.size w4.heap.size) (kapQ κ w.heap.size 0) q ⟨A', n', c'⟩ V1 U0 U1 UA un uc (l ++ k) a1 b0 b1 L ct bn lf ∧ Grew w (w4.setCell ⟨q, 0, none⟩ (.slice A' n' c')) (fun g => P g ∧ κ g ≠ 2 ∧ κ g ≠ 3) := by
  have e1 := e.below hb
  have hs := hb.size
  have hg := h.g
  have hgs := hg.size
  have hq4 : ∀ x r, (P x ∧ κ x = r) → r ≠ 0 → w4.heap[x]? = w.heap[x]? := fun x r hx hr => (hg.block x (by have := e.dom x hx.1; omega) (fun h2 => hr (hx.2.symm.trans h2.2))).trans (hb.block x (e.dom x hx.1))
  have hq5 : ∀ x, x ≠ q → (w4.setCell ⟨q, 0, none⟩ (.slice A' n' c')).heap[x]? = w4.heap[x]? := fun x hx => heap_setCell_other w4 ⟨q, 0, none⟩ x _ hx
  have hkeep : ∀ x r, (P x ∧ κ x = r) → r ≠ 0 → r ≠ 4 → (w4.setCell ⟨q, 0, none⟩ (.slice A' n' c')).heap[x]? = w.heap[x]? := fun x r hx hr h4 => (hq5 x (fun h3 => by have h9 := hx.2; rw [h3, e.pq.2] at h9; exact h4 h9.symm)).trans (hq4 x r hx hr)
  have hK : ∀ r x, (P x ∧ κ x = r) → plusQ P w.heap.size w4.heap.size x ∧ kapQ κ w.heap.size 0 x = r := fun r x hx => ⟨.inl hx.1, (kapQ_old (e.dom x hx.1)).trans hx.2⟩
  have ho := h.oth e1.s0.u hf
  have hrow : w4.heap[q]? = some (rowT V0 V1 U0 U1 UA un uc ct bn lf) := (hq4 q 4 e.pq (by omega)).trans e.row
  have hw : w4.grownBy (w4.setCell ⟨q, 0, none⟩ (.slice A' n' c')) (some q) := gro_set1 w4 q 0 _
  have hsz : (w4.setCell ⟨q, 0, none⟩ (.slice A' n' c')).heap.size = w4.heap.size := size_setQ _ _ _
  refine ⟨⟨hK 4 q e.pq, by rw [heap_setCell_same w4 q 0 _ _ _ hrow]; rfl, ⟨(h.sd.kept (fun x hx hl => hq5 x (hx.elim (fun h2 h3 => by have h4 := h2.2; rw [h3, e.pq.2] at h4; cases h4) (fun h2 => by have := e.dom q e.pq.1; omega)))).imp (fun x hx hl => hx.elim (hK 0 x) (fun h2 => ⟨.inr ⟨by omega, by omega⟩, kapQ_new (by omega)⟩)), (ho.1.kept (fun x hx hl => hq5 x (fun h3 => by have h4 := hx.2; rw [h3, e.pq.2] at h4; cases h4))).imp (fun x hx _ => hK 0 x hx), ho.2⟩, (e.s1.kept (fun x hx _ => hkeep x 1 hx (by omega) (by omega))).imp (fun x hx _ => hK 1 x hx), e.own.kept (fun g hx => hkeep g 3 (e.ob g hx) (by omega) (by omega)), e.ul, fun g hx => hK 3 g (e.ob g hx), fun x hx => ⟨(e.dat x hx).1, (e.dat x hx).2.1, ((e.dat x hx).2.2.kept (fun g h2 _ => hkeep g 2 h2 (by omega) (by omega)) (by omega)).imp (fun g h2 _ => hK 2 g h2)⟩, fun x hx => by rw [hsz]; exact hx.elim (fun h2 => by have := e.dom x h2; omega) (·.2)⟩,
    ((Grew.of_below hb).trans (hg.mono fun b _ hx => ⟨hx.1, by rw [hx.2]; omega, by rw [hx.2]; omega⟩)).trans (Grew.of_gro hw ⟨e.pq.1, by rw [e.pq.2]; omega, by rw [e.pq.2]; omega⟩)⟩
end
section
variable {w : World} {P : Nat → Prop} {κ : Nat → Nat} {q un uc : Nat} {V0 V1 U0 U1 : Hd} {UA : Option Addr} {a0 a1 b0 b1 : List UInt8} {L : List Ru} {ct lf : Int} {bn : Bool}
/-- Behind the append: the cell is written. -/
theorem TapF.put1 {w1 w4 : World} {n' c' : Nat} {A A' : Option Addr} {c n : Nat} {l k : List UInt8} (e : TapF w P κ q V0 V1 U0 U1 UA un uc a0 a1 b0 b1 L ct bn lf) (hb : Below w.heap.size w w1)
    (h : AppS w1 w4 (fun g => P g ∧ κ g = 1) A n c l k A' n' c') (hf : Fre A n c U1.A U1.n) :
    TapF (w4.setCell ⟨q, 1, none⟩ (.slice A' n' c')) (plusQ P w.heap.size w4.heap.size) (kapQ κ w.heap.size 1) q V0 ⟨A', n', c'⟩ U0 U1 UA un uc a0 (l ++ k) b0 b1 L ct bn lf ∧ Grew w (w4.setCell ⟨q, 1, none⟩ (.slice A' n' c')) (fun g => P g ∧ κ g ≠ 2 ∧ κ g ≠ 3) := by
  have e1 := e.below hb
  have hs := hb.size
  have hg := h.g
  have hgs := hg.size
  have hq4 : ∀ x r, (P x ∧ κ x = r) → r ≠ 1 → w4.heap[x]? = w.heap[x]? := fun x r hx hr => (hg.block x (by have := e.dom x hx.1; omega) (fun h2 => hr (hx.2.symm.trans h2.2))).trans (hb.block x (e.dom x hx.1))
  have hq5 : ∀ x, x ≠ q → (w4.setCell ⟨q, 1, none⟩ (.slice A' n' c')).heap[x]? = w4.heap[x]? := fun x hx => heap_setCell_other w4 ⟨q, 1, none⟩ x _ hx
  have hkeep : ∀ x r, (P x ∧ κ x = r) → r ≠ 1 → r ≠ 4 → (w4.setCell ⟨q, 1, none⟩ (.slice A' n' c')).heap[x]? = w.heap[x]? := fun x r hx hr h4 => (hq5 x (fun h3 => by have h9 := hx.2; rw [h3, e.pq.2] at h9; exact h4 h9.symm)).trans (hq4 x r hx hr)
  have hK : ∀ r x, (P x ∧ κ x = r) → plusQ P w.heap.size w4.heap.size x ∧ kapQ κ w.heap.size 1 x = r := fun r x hx => ⟨.inl hx.1, (kapQ_old (e.dom x hx.1)).trans hx.2⟩
  have ho := h.oth e1.s1.u hf
  have hrow : w4.heap[q]? = some (rowT V0 V1 U0 U1 UA un uc ct bn lf) := (hq4 q 4 e.pq (by omega)).trans e.row
  have hw : w4.grownBy (w4.setCell ⟨q, 1, none⟩ (.slice A' n' c')) (some q) := gro_set1 w4 q 1 _
  have hsz : (w4.setCell ⟨q, 1, none⟩ (.slice A' n' c')).heap.size = w4.heap.size := size_setQ _ _ _
  refine ⟨⟨hK 4 q e.pq, by rw [heap_setCell_same w4 q 1 _ _ _ hrow]; rfl, (e.s0.kept (fun x hx _ => hkeep x 0 hx (by omega) (by omega))).imp (fun x hx _ => hK 0 x hx), ⟨(h.sd.kept (fun x hx hl => hq5 x (hx.elim (fun h2 h3 => by have h4 := h2.2; rw [h3, e.pq.2] at h4; cases h4) (fun h2 => by have := e.dom q e.pq.1; omega)))).imp (fun x hx hl => hx.elim (hK 1 x) (fun h2 => ⟨.inr ⟨by omega, by omega⟩, kapQ_new (by omega)⟩)), (ho.1.kept (fun x hx hl => hq5 x (fun h3 => by have h4 := hx.2; rw [h3, e.pq.2] at h4; cases h4))).imp (fun x hx _ => hK 1 x hx), ho.2⟩, e.own.kept (fun g hx => hkeep g 3 (e.ob g hx) (by omega) (by omega)), e.ul, fun g hx => hK 3 g (e.ob g hx), fun x hx => ⟨(e.dat x hx).1, (e.dat x hx).2.1, ((e.dat x hx).2.2.kept (fun g h2 _ => hkeep g 2 h2 (by omega) (by omega)) (by omega)).imp (fun g h2 _ => hK 2 g h2)⟩, fun x hx => by rw [hsz]; exact hx.elim (fun h2 => by have := e.dom x h2; omega) (·.2)⟩,
    ((Grew.of_below hb).trans (hg.mono fun b _ hx => ⟨hx.1, by rw [hx.2]; omega, by rw [hx.2]; omega⟩)).trans (Grew.of_gro hw ⟨e.pq.1, by rw [e.pq.2]; omega, by rw [e.pq.2]; omega⟩)⟩
end
set_option maxHeartbeats 4000000 in
theorem apply0_any {w : World} {P : Nat → Prop} {κ : Nat → Nat} {q un uc : Nat} {V0 V1 U0 U1 : Hd} {UA : Option Addr} {a0 a1 b0 b1 : List UInt8} {L : List Ru} {ct lf : Int} {bn : Bool} (e : TapF w P κ q V0 V1 U0 U1 UA un uc a0 a1 b0 b1 L ct bn lf)
    (kp : Nat) (X : Option Addr) (m d : Nat) (k : List UInt8) (hl : k.length = m) (hX : Byt w w.heap.size X k) (hkm : kp ≤ 1000000) (hvm : a0.length ≤ 1000000) (hmm : m ≤ 1000000) :
    Calls Try.prog 39 #[.pointer (some ⟨q, 0, none⟩), .agg #[.int .i64 0, .int .i64 (kp : Int), .slice X m d]] w fun er w' => er = .returned (.tuple #[]) ∧ ∃ V', TapF w' (plusQ P w.heap.size w'.heap.size) (kapQ κ w.heap.size 0) q V' V1 U0 U1 UA un uc (a0.take kp ++ k) a1 b0 b1 L ct bn lf ∧ Grew w w' (fun g => P g ∧ κ g ≠ 2 ∧ κ g ≠ 3) := by
  have hsd := e.s0
  obtain ⟨w1, hw1⟩ : ∃ x, x = w.alloc (.cells #[.int .i64 0, .int .i64 (kp : Int), .slice X m d] 61) := ⟨_, rfl⟩
  have hb1 : Below w.heap.size w w1 := by rw [hw1]; exact (Below.refl _ _).alloc (Nat.le_refl _) _
  have hrow1 : w1.heap[w.heap.size]? = some (.cells #[.int .i64 0, .int .i64 (kp : Int), .slice X m d] 61 (0, 0)) := by rw [hw1]; exact heap_alloc_new w _
  have hs1 : w1.heap.size = w.heap.size + 1 := by rw [hw1]; simp
  have HX := hid ((hX.below hb1).reads)
  have HK := hid hl
  have e1 := e.below hb1
  obtain ⟨⟨k0, k1, k2, k3⟩, -, hf⟩ := e1.cells _ (Below.refl _ _)
  have c0 : w1.cell? ⟨w.heap.size, 0, none⟩ = some (.int .i64 0) := by rw [cell_of_row w1 _ 0 _ _ (0, 0) hrow1]; rfl
  have c1 : w1.cell? ⟨w.heap.size, 1, none⟩ = some (.int .i64 (kp : Int)) := by rw [cell_of_row w1 _ 1 _ _ (0, 0) hrow1]; rfl
  have c2 : w1.cell? ⟨w.heap.size, 2, none⟩ = some (.slice X m d) := by rw [cell_of_row w1 _ 2 _ _ (0, 0) hrow1]; rfl
  have hvl := hsd.v.len
  have hvc := hsd.v.le
  have hvx := hsd.v.cm
  have HP := hid (fun (A A' : Option Addr) (n c n' c' : Nat) (l : List UInt8) (w4 : World) h hf => e.put0 (w1 := w1.drew.drew) (w4 := w4) (n' := n') (c' := c') (A := A) (A' := A') (c := c) (n := n) (l := l) (k := k) hb1.drew.drew h hf)
  have HQ4 := hid (fun (A A' : Option Addr) (n c n' c' : Nat) (l : List UInt8) (w4 : World) (h : AppS w1.drew.drew w4 (fun g => P g ∧ κ g = 0) A n c l k A' n' c') => (show (w4.cell? ⟨q, 0, none⟩ = some (.slice V0.A V0.n V0.c) ∧ w4.frozen? ⟨q, 0, none⟩ = false) ∧ w4.cell? ⟨w.heap.size, 0, none⟩ = some (.int .i64 0) ∧ w4.cell? ⟨w.heap.size, 2, none⟩ = some (.slice X m d) from by
    have hq : w4.heap[q]? = some (rowT V0 V1 U0 U1 UA un uc ct bn lf) := (h.g.block q (by have := e1.dom q e1.pq.1; exact this) (fun h2 => by have := h2.2; rw [e.pq.2] at this; cases this)).trans e1.row
    have hr : w4.heap[w.heap.size]? = some (.cells #[.int .i64 0, .int .i64 (kp : Int), .slice X m d] 61 (0, 0)) := (h.g.block _ (by show _ < w1.heap.size; omega) (fun h2 => by have := e.dom _ h2.1; omega)).trans hrow1
    exact ⟨⟨by rw [cell_of_row w4 q 0 _ _ (0, 0) hq]; rfl, frozen_of_row w4 q 0 _ _ hq⟩, by rw [cell_of_row w4 _ 0 _ _ (0, 0) hr]; rfl, by rw [cell_of_row w4 _ 2 _ _ (0, 0) hr]; rfl⟩))
  have f0 := hf 0
  by_cases hcut : kp < a0.length
  · have HS : Hid (SdE w1.drew.drew (fun g => P g ∧ κ g = 0) V0.A kp kp (a0.take kp)) := hid ((e1.s0.v.cut (j := kp) (by omega)).kept (fun _ _ _ => rfl))
    have HFR : Hid (Fre V0.A kp kp U0.A U0.n) := hid Fre.full
    have hlt : (kp : Int) < (V0.n : Int) := by omega
    obtain ⟨A, n, c⟩ := V0
    simp only at *
    clear hf e e1 hsd hX hl hcut hrow1
    go_enter Try.func39, Try.ntmps39
    go_upto_region 1 with fail
    rw [← hw1]
    clear hw1
    go_region
    go_wp2_with fail
    go_region_law ((first | (refine step_appS rfl (.tmp 26) (.tmp 28) rfl (Q := fun g => P g ∧ κ g = 0) (A := A) (n := kp) (c := kp) (l := a0.take kp) HS.out rfl X m d k rfl HK.out HX.out (by omega) (kp + m) rfl ?_; intro A' c' w4 h4; have HF := hid (HP.out A A' kp kp (kp + m) c' _ w4 h4 HFR.out); obtain ⟨⟨k04, f04⟩, c04, c24⟩ := HQ4.out A A' kp kp (kp + m) c' _ w4 h4; clear h4)))
    all_goals
      go_end0
      exact ⟨rfl, ⟨A', kp + m, c'⟩, by rw [size_setQ]; exact HF.out.1, HF.out.2⟩
  · have hta : a0.take kp = a0 := List.take_of_length_le (by omega)
    have HS : Hid (SdE w1.drew.drew (fun g => P g ∧ κ g = 0) V0.A V0.n V0.c a0) := hid (e1.s0.v.kept (fun _ _ _ => rfl))
    have HFR : Hid (Fre V0.A V0.n V0.c U0.A U0.n) := hid e.s0.f
    have hlt : ¬ (kp : Int) < (V0.n : Int) := by omega
    rw [hta]
    obtain ⟨A, n, c⟩ := V0
    simp only at *
    have hnb : n ≤ 1000000 := by omega
    clear hf e e1 hsd hX hl hcut hta hrow1
    go_enter Try.func39, Try.ntmps39
    go_upto_region 1 with fail
    rw [← hw1]
    clear hw1
    go_region
    go_wp2_with fail
    go_region_law ((first | (refine step_appS rfl (.tmp 26) (.tmp 28) rfl (Q := fun g => P g ∧ κ g = 0) (A := A) (n := n) (c := c) (l := a0) HS.out rfl X m d k rfl HK.out HX.out (by omega) (n + m) rfl ?_; intro A' c' w4 h4; have HF := hid (HP.out A A' n c (n + m) c' _ w4 h4 HFR.out); obtain ⟨⟨k04, f04⟩, c04, c24⟩ := HQ4.out A A' n c (n + m) c' _ w4 h4; clear h4)))
    all_goals
      go_end0
      exact ⟨rfl, ⟨A', n + m, c'⟩, by rw [size_setQ]; exact HF.out.1, HF.out.2⟩
set_option maxHeartbeats 4000000 in
theorem apply1_any {w : World} {P : Nat → Prop} {κ : Nat → Nat} {q un uc : Nat} {V0 V1 U0 U1 : Hd} {UA : Option Addr} {a0 a1 b0 b1 : List UInt8} {L : List Ru} {ct lf : Int} {bn : Bool} (e : TapF w P κ q V0 V1 U0 U1 UA un uc a0 a1 b0 b1 L ct bn lf)
    (kp : Nat) (X : Option Addr) (m d : Nat) (k : List UInt8) (hl : k.length = m) (hX : Byt w w.heap.size X k) (hkm : kp ≤ 1000000) (hvm : a1.length ≤ 1000000) (hmm : m ≤ 1000000) :
    Calls Try.prog 39 #[.pointer (some ⟨q, 0, none⟩), .agg #[.int .i64 1, .int .i64 (kp : Int), .slice X m d]] w fun er w' => er = .returned (.tuple #[]) ∧ ∃ V', TapF w' (plusQ P w.heap.size w'.heap.size) (kapQ κ w.heap.size 1) q V0 V' U0 U1 UA un uc a0 (a1.take kp ++ k) b0 b1 L ct bn lf ∧ Grew w w' (fun g => P g ∧ κ g ≠ 2 ∧ κ g ≠ 3) := by
  have hsd := e.s1
  obtain ⟨w1, hw1⟩ : ∃ x, x = w.alloc (.cells #[.int .i64 1, .int .i64 (kp : Int), .slice X m d] 61) := ⟨_, rfl⟩
  have hb1 : Below w.heap.size w w1 := by rw [hw1]; exact (Below.refl _ _).alloc (Nat.le_refl _) _
  have hrow1 : w1.heap[w.heap.size]? = some (.cells #[.int .i64 1, .int .i64 (kp : Int), .slice X m d] 61 (0, 0)) := by rw [hw1]; exact heap_alloc_new w _
  have hs1 : w1.heap.size = w.heap.size + 1 := by rw [hw1]; simp
  have HX := hid ((hX.below hb1).reads)
  have HK := hid hl
  have e1 := e.below hb1
  obtain ⟨⟨k0, k1, k2, k3⟩, -, hf⟩ := e1.cells _ (Below.refl _ _)
  have c0 : w1.cell? ⟨w.heap.size, 0, none⟩ = some (.int .i64 1) := by rw [cell_of_row w1 _ 0 _ _ (0, 0) hrow1]; rfl
  have c1 : w1.cell? ⟨w.heap.size, 1, none⟩ = some (.int .i64 (kp : Int)) := by rw [cell_of_row w1 _ 1 _ _ (0, 0) hrow1]; rfl
  have c2 : w1.cell? ⟨w.heap.size, 2, none⟩ = some (.slice X m d) := by rw [cell_of_row w1 _ 2 _ _ (0, 0) hrow1]; rfl
  have hvl := hsd.v.len
  have hvc := hsd.v.le
  have hvx := hsd.v.cm
  have HP := hid (fun (A A' : Option Addr) (n c n' c' : Nat) (l : List UInt8) (w4 : World) h hf => e.put1 (w1 := w1.drew.drew) (w4 := w4) (n' := n') (c' := c') (A := A) (A' := A') (c := c) (n := n) (l := l) (k := k) hb1.drew.drew h hf)
  have HQ4 := hid (fun (A A' : Option Addr) (n c n' c' : Nat) (l : List UInt8) (w4 : World) (h : AppS w1.drew.drew w4 (fun g => P g ∧ κ g = 1) A n c l k A' n' c') => (show (w4.cell? ⟨q, 1, none⟩ = some (.slice V1.A V1.n V1.c) ∧ w4.frozen? ⟨q, 1, none⟩ = false) ∧ w4.cell? ⟨w.heap.size, 0, none⟩ = some (.int .i64 1) ∧ w4.cell? ⟨w.heap.size, 2, none⟩ = some (.slice X m d) from by
    have hq : w4.heap[q]? = some (rowT V0 V1 U0 U1 UA un uc ct bn lf) := (h.g.block q (by have := e1.dom q e1.pq.1; exact this) (fun h2 => by have := h2.2; rw [e.pq.2] at this; cases this)).trans e1.row
    have hr : w4.heap[w.heap.size]? = some (.cells #[.int .i64 1, .int .i64 (kp : Int), .slice X m d] 61 (0, 0)) := (h.g.block _ (by show _ < w1.heap.size; omega) (fun h2 => by have := e.dom _ h2.1; omega)).trans hrow1
    exact ⟨⟨by rw [cell_of_row w4 q 1 _ _ (0, 0) hq]; rfl, frozen_of_row w4 q 1 _ _ hq⟩, by rw [cell_of_row w4 _ 0 _ _ (0, 0) hr]; rfl, by rw [cell_of_row w4 _ 2 _ _ (0, 0) hr]; rfl⟩))
  have f0 := hf 1
  by_cases hcut : kp < a1.length
  · have HS : Hid (SdE w1.drew.drew (fun g => P g ∧ κ g = 1) V1.A kp kp (a1.take kp)) := hid ((e1.s1.v.cut (j := kp) (by omega)).kept (fun _ _ _ => rfl))
    have HFR : Hid (Fre V1.A kp kp U1.A U1.n) := hid Fre.full
    have hlt : (kp : Int) < (V1.n : Int) := by omega
    obtain ⟨A, n, c⟩ := V1
    simp only at *
    clear hf e e1 hsd hX hl hcut hrow1
    go_enter Try.func39, Try.ntmps39
    go_upto_region 1 with fail
    rw [← hw1]
    clear hw1
    go_region
    go_wp2_with fail
    go_region_law ((first | (refine step_appS rfl (.tmp 26) (.tmp 28) rfl (Q := fun g => P g ∧ κ g = 1) (A := A) (n := kp) (c := kp) (l := a1.take kp) HS.out rfl X m d k rfl HK.out HX.out (by omega) (kp + m) rfl ?_; intro A' c' w4 h4; have HF := hid (HP.out A A' kp kp (kp + m) c' _ w4 h4 HFR.out); obtain ⟨⟨k04, f04⟩, c04, c24⟩ := HQ4.out A A' kp kp (kp + m) c' _ w4 h4; clear h4)))
    all_goals
      go_end0
      exact ⟨rfl, ⟨A', kp + m, c'⟩, by rw [size_setQ]; exact HF.out.1, HF.out.2⟩
  · have hta : a1.take kp = a1 := List.take_of_length_le (by omega)
    have HS : Hid (SdE w1.drew.drew (fun g => P g ∧ κ g = 1) V1.A V1.n V1.c a1) := hid (e1.s1.v.kept (fun _ _ _ => rfl))
    have HFR : Hid (Fre V1.A V1.n V1.c U1.A U1.n) := hid e.s1.f
    have hlt : ¬ (kp : Int) < (V1.n : Int) := by omega
    rw [hta]
    obtain ⟨A, n, c⟩ := V1
    simp only at *
    have hnb : n ≤ 1000000 := by omega
    clear hf e e1 hsd hX hl hcut hta hrow1
    go_enter Try.func39, Try.ntmps39
    go_upto_region 1 with fail
    rw [← hw1]
    clear hw1
    go_region
    go_wp2_with fail
    go_region_law ((first | (refine step_appS rfl (.tmp 26) (.tmp 28) rfl (Q := fun g => P g ∧ κ g = 1) (A := A) (n := n) (c := c) (l := a1) HS.out rfl X m d k rfl HK.out HX.out (by omega) (n + m) rfl ?_; intro A' c' w4 h4; have HF := hid (HP.out A A' n c (n + m) c' _ w4 h4 HFR.out); obtain ⟨⟨k04, f04⟩, c04, c24⟩ := HQ4.out A A' n c (n + m) c' _ w4 h4; clear h4)))
    all_goals
      go_end0
      exact ⟨rfl, ⟨A', n + m, c'⟩, by rw [size_setQ]; exact HF.out.1, HF.out.2⟩
end Go.Proofs.Ytdigfbgjefffiaa.Sh
