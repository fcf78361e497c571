/-
  The program's tape: settle; the library's Clone at bytes.
-/
import Derived.Test.YtdigfbgjefffiaaTpPgA
import Derived.Test.YtdigfbgjefffiaaBaRow
import Derived.Deep.DeepCutAuto
namespace Go.Proofs.Ytdigfbgjefffiaa.Sh
open Go Go.RowKit

set_option linter.unusedSimpArgs false
set_option linter.unusedVariables false
theorem TapF.pair {w : World} {P : Nat → Prop} {κ : Nat → Nat} {q un uc : Nat} {V0 V1 U0 U1 : Hd} {UA : Option Addr} {a0 a1 b0 b1 : List UInt8} {L : List Ru} {ct lf : Int} {bn : Bool}
    (e : TapF w P κ q V0 V1 U0 U1 UA un uc a0 a1 b0 b1 L ct bn lf) : w.rangeAt q 0 [.slice V0.A V0.n V0.c, .slice V1.A V1.n V1.c] ∧ w.rangeAt q 2 [.slice U0.A U0.n U0.c, .slice U1.A U1.n U1.c] ∧ w.there q 0 2 ∧ w.there q 2 2 := by
  have h := e.row
  unfold rowT at h
  refine ⟨fun j v hv => ?_, fun j v hv => ?_, fun j hj => ?_, fun j hj => ?_⟩
  · have hj : j < 2 := (List.getElem?_eq_some_iff.1 hv).1
    rw [cell_of_row w q _ _ _ (0, 0) h]
    rcases j with _ | _ | j
    · simpa using hv
    · simpa using hv
    · omega
  · have hj : j < 2 := (List.getElem?_eq_some_iff.1 hv).1
    rw [cell_of_row w q _ _ _ (0, 0) h]
    rcases j with _ | _ | j
    · simpa using hv
    · simpa using hv
    · omega
  · rw [cell_of_row w q _ _ _ (0, 0) h, frozen_of_row w q _ _ _ h]
    rcases j with _ | _ | j
    · simp
    · simp
    · omega
  · rw [cell_of_row w q _ _ _ (0, 0) h, frozen_of_row w q _ _ _ h]
    rcases j with _ | _ | j
    · simp
    · simp
    · omega
section
variable {w : World} {P : Nat → Prop} {κ : Nat → Nat} {q un uc : Nat} {V0 V1 U0 U1 : Hd} {UA : Option Addr} {a0 a1 b0 b1 : List UInt8} {L : List Ru} {ct lf : Int} {bn : Bool}
theorem TapF.setSync (e : TapF w P κ q V0 V1 U0 U1 UA un uc a0 a1 b0 b1 L ct bn lf) (w' : World) (h : w' = w.setCells q 2 [.slice V0.A V0.n V0.c, .slice V1.A V1.n V1.c]) : TapF w' P κ q V0 V1 V0 V1 UA un uc a0 a1 a0 a1 L ct bn lf ∧ Grew w w' P := by
  have h1 : w' = (w.setCell ⟨q, 2, none⟩ (.slice V0.A V0.n V0.c)).setCell ⟨q, 3, none⟩ (.slice V1.A V1.n V1.c) := h
  have g1 := gro_set1 w q 2 (.slice V0.A V0.n V0.c)
  have r1 := heap_setCell_same w q 2 _ _ (.slice V0.A V0.n V0.c) e.row
  have g2 := gro_set1 (w.setCell ⟨q, 2, none⟩ (.slice V0.A V0.n V0.c)) q 3 (.slice V1.A V1.n V1.c)
  have r2 := heap_setCell_same _ q 3 _ _ (.slice V1.A V1.n V1.c) r1
  rw [← h1] at g2 r2
  have g : w.grownBy w' (some q) := g1.trans g2
  exact ⟨e.rerow g (by rw [h1, size_setQ, size_setQ]) (by rw [r2]; rfl) e.s0.sync e.s1.sync e.own e.ul e.ob e.dat, Grew.of_gro g e.pq.1⟩
theorem TapF.setBack (e : TapF w P κ q V0 V1 U0 U1 UA un uc a0 a1 b0 b1 L ct bn lf) (w' : World) (h : w' = w.setCells q 0 [.slice U0.A U0.n U0.c, .slice U1.A U1.n U1.c]) : TapF w' P κ q U0 U1 U0 U1 UA un uc b0 b1 b0 b1 L ct bn lf ∧ Grew w w' P := by
  have h1 : w' = (w.setCell ⟨q, 0, none⟩ (.slice U0.A U0.n U0.c)).setCell ⟨q, 1, none⟩ (.slice U1.A U1.n U1.c) := h
  have g1 := gro_set1 w q 0 (.slice U0.A U0.n U0.c)
  have r1 := heap_setCell_same w q 0 _ _ (.slice U0.A U0.n U0.c) e.row
  have g2 := gro_set1 (w.setCell ⟨q, 0, none⟩ (.slice U0.A U0.n U0.c)) q 1 (.slice U1.A U1.n U1.c)
  have r2 := heap_setCell_same _ q 1 _ _ (.slice U1.A U1.n U1.c) r1
  rw [← h1] at g2 r2
  have g : w.grownBy w' (some q) := g1.trans g2
  exact ⟨e.rerow g (by rw [h1, size_setQ, size_setQ]) (by rw [r2]; rfl) e.s0.back e.s1.back e.own e.ul e.ob e.dat, Grew.of_gro g e.pq.1⟩
set_option maxHeartbeats 2000000 in
theorem settle_any (e : TapF w P κ q V0 V1 U0 U1 UA un uc a0 a1 b0 b1 L ct bn lf) :
    Calls Try.prog 37 #[.pointer (some ⟨q, 0, none⟩)] w fun er w' => er = .returned (.tuple #[]) ∧ TapF w' P κ q V0 V1 V0 V1 none 0 0 a0 a1 a0 a1 [] 0 bn lf ∧ Grew w w' P := by
  have HS := hid (fun w' h => e.setSync w' h)
  obtain ⟨⟨k0, k1, k2, k3⟩, -, hf⟩ := e.cells w (Below.refl _ _)
  have f2 := hf 2
  have f3 : (w.setCell ⟨q, 2, none⟩ (.slice V0.A V0.n V0.c)).frozen? ⟨q, 3, none⟩ = false := frozen_of_row _ q 3 _ _ (heap_setCell_same w q 2 _ _ _ e.row)
  clear hf e
  go_enter Try.func37, Try.ntmps37
  go_upto_region 1 with fail
  obtain ⟨w2, hw2⟩ : ∃ x, x = ((w.setCell ⟨q, 2, none⟩ (.slice V0.A V0.n V0.c)).setCell ⟨q, 3, none⟩ (.slice V1.A V1.n V1.c)) := ⟨_, rfl⟩
  rw [← hw2]
  have h2 := HS.out w2 hw2
  have h3 := h2.1.setNil
  have f4 := (h2.1.cells _ (Below.refl _ _)).2.2 4
  have f5 := (h3.cells _ (Below.refl _ _)).2.2 5
  have k4 := (h2.1.cells _ (Below.refl _ _)).2.1.1
  have k5 := (h3.cells _ (Below.refl _ _)).2.1.2.1
  have HF := hid (h3.setCt 0)
  have HG := hid ((h2.2.trans (h2.1.grew_set 4 (.slice none 0 0))).trans (h3.grew_set 5 (.int .i64 0)))
  clear h2 h3 hw2 k0 k1 k2 k3 f2 f3
  go_wp2_with fail
  go_end0
  exact ⟨rfl, HF.out, HG.out⟩
end
def encY : Enc UInt8 := ⟨1, fun x => [.int .u8 x.toNat], by omega, fun _ => rfl, fun x u hu => by simp at hu; rcases hu with rfl; rfl⟩
theorem ev_bytes (l : List UInt8) : ev encY l = bv l := by
  induction l with
  | nil => rfl
  | cons x t ih =>
    show encY.cells x ++ ev encY t = bv (x :: t)
    rw [ih]; rfl
theorem eql_nilY (n c : Nat) (w : World) : (Go.binOp .eql 28 (.slice none n c) (.slice none 0 0)).run Try.prog w = .ok (.bool true) w := by kernel_rfl
theorem eql_someY (ad : Addr) (n c : Nat) (w : World) : (Go.binOp .eql 28 (.slice (some ad) n c) (.slice none 0 0)).run Try.prog w = .ok (.bool false) w := by kernel_rfl
theorem cloneB_made0 (w : World) (B : Nat) (hB : B ≤ w.heap.size) : OwnB (w.alloc (.cells #[] 5)) B (.slice (some ⟨w.heap.size, 0, none⟩) 0 0) 0 [] :=
  ⟨rfl, .inr ⟨w.heap.size, 0, #[], rfl, hB, heap_alloc_new w _, Nat.le_refl _, by unfold maxLen; omega, by simp, by simp [bv]⟩⟩
set_option maxHeartbeats 2000000 in
theorem cloneB_any (A : Option Addr) (l : List UInt8) (n c : Nat) (hn : l.length = n) (hm : n ≤ 1000000000) (w : World) (h : Byt w w.heap.size A l) :
    Calls Try.prog 34 #[.slice A n c] w fun e w' => ∃ A' c', e = .returned (.slice A' n c') ∧ OwnB w' w.heap.size (.slice A' n c') n l ∧ Below w.heap.size w w' := by
  rcases A with _ | ad
  · have hl : l = [] := by
      rcases Nat.eq_zero_or_pos l.length with h0 | h0
      · exact List.eq_nil_of_length_eq_zero h0
      · obtain ⟨ad, e, _⟩ := h h0; cases e
    subst hl
    obtain rfl : n = 0 := hn.symm
    have hq := eql_nilY
    clear h
    go_enter Try.func34, Try.ntmps34
    go_wp2_with fail
    go_ret
    exact ⟨none, 0, rfl, OwnB.nil _ _, Below.refl _ _⟩
  · have HN := hid hn
    have HB := hid ((Below.refl w.heap.size w).alloc (Nat.le_refl _) (.cells #[] 5))
    have HR := hid ((h.below HB.out).reads)
    have HO := hid (cloneB_made0 w w.heap.size (Nat.le_refl _))
    have hs : w.heap.size ≤ (w.alloc (.cells #[] 5)).heap.size := HB.out.size
    clear hn h
    have hq := eql_someY
    go_enter Try.func34, Try.ntmps34
    go_wp2_with (at_builtin; (refine wpList_appB rfl (.tmp 5) (.tmp 6) rfl w.heap.size (.slice (some ⟨w.heap.size, 0, none⟩) 0 0) 0 [] HO.out rfl (some ad) n c l rfl HN.out HR.out (by omega) hs w HB.out n (by omega) ?_; intro A9 c9 w9 o9 _ b9; have HO9 := hid o9; have HB9 := hid b9; clear o9 b9))
    go_ret
    exact ⟨A9, c9, rfl, HO9.out, HB9.out⟩
end Go.Proofs.Ytdigfbgjefffiaa.Sh
