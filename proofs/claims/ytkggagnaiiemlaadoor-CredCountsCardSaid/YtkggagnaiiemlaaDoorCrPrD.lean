/-
  The program's own Read of a credential, by contract.
-/
import Derived.Test.YtkggagnaiiemlaaDoorCrPrR
namespace Go.Proofs.YtkggagnaiiemlaaDoor.Sh
open Go Go.RowKit

set_option maxHeartbeats 2000000 in
theorem readNil_any (w : World) : Calls Tryd.prog 22 #[.pointer none] w fun er w' => er = .returned (.agg Crd.zero.cells.toArray) ∧ Below w.heap.size w w' := by
  go_enter Tryd.func22, Tryd.ntmps22
  go_wp2
  refine bodyPost_ret (results_mid (h := Tryd.results22) _ _ w.heap.size 0 [.int .i64 0, .int .i64 0, .string E0, .int .i64 0, .string E0, .string E0, .string E0, .string E0, .string E0] _ rfl (range_row (heap_alloc_new w _)) Tryd.underlying27 rfl info_cred) rfl ?_
  exact ⟨rfl, below_cr w .zero⟩

set_option maxHeartbeats 2000000 in
theorem readC_any {w : World} {lo hi g n c p : Nat} {A : Option Addr} {l : List UInt8} {e : Int} (h : Cu 69 w lo hi g A n c l p e) :
    Calls Tryd.prog 22 #[.pointer (some ⟨g, 0, none⟩)] w fun er w' => ReadEnd 69 w w' lo hi g A n c l er (readC l p e) := by
  obtain ⟨X, p1, e1, hx⟩ : ∃ X p1 e1, rawC l p e = (X, p1, e1) := ⟨_, _, _, rfl⟩
  have HE : Hid (readC l p e = fin (X, p1, e1)) := hid (by unfold readC; rw [hx])
  have hgl := h.lt
  have hhi := h.hi
  obtain ⟨w1, hw1⟩ : ∃ w1, w1 = w.alloc (.cells (Crd.cells .zero).toArray 27) := ⟨_, rfl⟩
  have b1 : Below w.heap.size w w1 := by rw [hw1]; exact below_cr w _
  have r1 : CrAt w1 w.heap.size .zero := by rw [hw1]; exact CrAt.new w _
  have X1 := h.below b1 hgl
  have G1 := gro_below (gro_refl w (some g)) b1
  have HP := hid (parts_any X1)
  rw [hx] at HP
  unfold ReadEnd StepC at HP
  simp only at HP
  have R1 := hid r1
  have HG1 := hid G1
  obtain ⟨d, q, nm, kd, wh, ao, an, bo, bn⟩ := X
  unfold Crd.cells at HP
  simp only at HP
  clear b1 h hx r1 X1 G1
  unfold Crd.zero Crd.cells E0 at hw1
  simp only at hw1
  go_enter Tryd.func22, Tryd.ntmps22
  go_wp2_with fail
  rw [← hw1]
  clear hw1
  refine HP.out.mono ?_
  rintro er w2 ⟨rfl, X2, G2⟩
  have R2 : Hid (CrAt w2 w.heap.size .zero) := hid (R1.out.grown G2 (by intro e; injection e with e; omega))
  have HG2 := hid (gro_trans HG1.out G2)
  obtain ⟨w3, hw3⟩ : ∃ w3, w3 = w2.alloc (.cells (Crd.cells ⟨d, q, nm, kd, wh, ao, an, bo, bn⟩).toArray 27) := ⟨_, rfl⟩
  have b3 : Below w2.heap.size w2 w3 := by rw [hw3]; exact below_cr w2 _
  have q3 : CrAt w3 w2.heap.size ⟨d, q, nm, kd, wh, ao, an, bo, bn⟩ := by rw [hw3]; exact CrAt.new w2 _
  have R3 := hid (R2.out.kept b3)
  have X3 := hid (X2.below b3 X2.lt)
  have G3 := hid (gro_below HG2.out b3)
  have hR : w.heap.size ≤ w2.heap.size := HG2.out.size
  clear b3 X2 G2 R2 HG2 HP R1 HG1
  unfold Crd.cells at hw3
  simp only at hw3
  go_wp2_with fail
  rw [← hw3]
  clear hw3
  refine (err_any _ _ _ _ _ _ _ X3.out.row).mono ?_
  rintro er w4 ⟨rfl, rfl⟩
  obtain ⟨x0, x1, x2, x3, x4, x5, x6, x7, x8⟩ := q3.all
  obtain ⟨z0, z1, z2, z3, z4, z5, z6, z7, z8⟩ := CrAt.all R3.out
  have zf0 := CrAt.f R3.out 0
  have zf1 := CrAt.f R3.out 1
  have zf2 := CrAt.f R3.out 2
  have zf3 := CrAt.f R3.out 3
  have zf4 := CrAt.f R3.out 4
  have zf5 := CrAt.f R3.out 5
  have zf6 := CrAt.f R3.out 6
  have zf7 := CrAt.f R3.out 7
  have zf8 := CrAt.f R3.out 8
  unfold E0 at z2 z4 z5 z6 z7 z8
  by_cases he : e1 = 0
  · have HE2 : Hid (readC l p e = (⟨d, q, nm, kd, wh, ao, an, bo, bn⟩, p1, e1)) := hid (by rw [HE.out]; unfold fin; simp only; rw [if_pos he])
    subst he
    go_wp2
    refine bodyPost_ret (results_mid (h := Tryd.results22) _ _ w.heap.size 0 [.int .i64 d, .int .i64 q, .string nm, .int .i64 kd, .string wh, .string ao, .string an, .string bo, .string bn] _ rfl (range_row (nine_set R3.out)) Tryd.underlying27 rfl info_cred) rfl ?_
    unfold ReadEnd
    rw [HE2.out]
    exact ⟨rfl, res_nine X3.out G3.out (Nat.le_refl _) hgl _ _ _ _ _ _ _ _ _⟩
  · have HE2 : Hid (readC l p e = (.zero, p1, e1)) := hid (by rw [HE.out]; unfold fin; simp only; rw [if_neg he])
    go_wp2
    refine bodyPost_ret (results_mid (h := Tryd.results22) _ _ w.heap.size 0 [.int .i64 0, .int .i64 0, .string E0, .int .i64 0, .string E0, .string E0, .string E0, .string E0, .string E0] _ rfl (range_row (nine_set R3.out)) Tryd.underlying27 rfl info_cred) rfl ?_
    unfold ReadEnd
    rw [HE2.out]
    exact ⟨rfl, res_nine X3.out G3.out (Nat.le_refl _) hgl _ _ _ _ _ _ _ _ _⟩
end Go.Proofs.YtkggagnaiiemlaaDoor.Sh
