/-
  The program's own readRole, readID, list of roles, list of IDs, by contract. Written by mk_tkrdc.py.
-/
import Derived.Test.YtaadmgbmaekicaaGreatDoorJn47
set_option linter.unusedVariables false
set_option linter.unusedSimpArgs false
namespace Go.Proofs.YtaadmgbmaekicaaGreatDoor.Sh
open Go Go.RowKit

set_option linter.unusedSimpArgs false
set_option linter.unusedVariables false
theorem info_idT : (Tryz.prog.info? 65).map (·.size) = some 2 := by kernel_rfl
theorem res_pair {T : TypeId} {w0 w : World} {lo hi g n c p : Nat} {A : Option Addr} {l : List UInt8} {e : Int} (h : Cu T w lo hi g A n c l p e) (hG : w0.grownBy w (some g)) (hg : g < w0.heap.size) (u v : Value) :
    Cu T ((w.setCell ⟨w0.heap.size, 0, none⟩ u).setCell ⟨w0.heap.size, 1, none⟩ v) lo hi g A n c l p e ∧ w0.grownBy ((w.setCell ⟨w0.heap.size, 0, none⟩ u).setCell ⟨w0.heap.size, 1, none⟩ v) (some g) :=
  have hh := h.hi
  ⟨(h.other (grown_set _ w0.heap.size 0 _) (by omega) (.inr (by omega))).other (grown_set _ w0.heap.size 1 _) (by omega) (.inr (by omega)), gro_new (gro_new hG (grown_set _ w0.heap.size 0 _) (Nat.le_refl _)) (grown_set _ w0.heap.size 1 _) (Nat.le_refl _)⟩


set_option maxHeartbeats 4000000 in
theorem readRoleT_any {w : World} {lo hi g n c p : Nat} {A : Option Addr} {l : List UInt8} {e : Int} (h : Cu 76 w lo hi g A n c l p e) :
    Calls Tryz.prog 90 #[.pointer (some ⟨g, 0, none⟩)] w fun er w' => StepC 76 w w' lo hi g A n c l er (.agg #[.string (rStep l p e).1.1, .string (rStep l p e).1.2]) (rStep l p e).2.1 (rStep l p e).2.2 := by
  obtain ⟨V, p1, e1, hx⟩ : ∃ V p1 e1, numStep l p e 1 16 = (V, p1, e1) := ⟨_, _, _, rfl⟩
  obtain ⟨S, p2, e2, hy⟩ : ∃ S p2 e2, textStep l p1 e1 8 = (S, p2, e2) := ⟨_, _, _, rfl⟩
  have HR : Hid (rStep l p e = ((⟨(domL V).toArray⟩, ⟨S.toArray⟩), p2, e2)) := hid (by unfold rStep; rw [hx]; simp only; rw [hy]; rfl)
  have HV : Hid (0 ≤ V ∧ V ≤ 16) := hid (by have := numStep_bound l p e 1 16 (by omega); rw [hx] at this; exact this)
  have HGL : Hid (g < w.heap.size) := hid h.lt
  have HX := hid hx
  have HY := hid hy
  obtain ⟨w1, hw1⟩ : ∃ w1, w1 = w.alloc (.cells #[.string ⟨#[]⟩, .string ⟨#[]⟩] 69) := ⟨_, rfl⟩
  have b1 : Below w.heap.size w w1 := by rw [hw1]; exact (Below.refl _ _).alloc (Nat.le_refl _) _
  have HR1 : Hid (w1.heap[w.heap.size]? = some (.cells #[.string ⟨#[]⟩, .string ⟨#[]⟩] 69 (0, 0))) := hid (by rw [hw1]; exact heap_alloc_new w _)
  have HC1 := hid (h.below b1 h.lt)
  have HG1 := hid (gro_below (gro_refl w (some g)) b1)
  have HW := hid hw1
  clear h hx hy hw1 b1
  go_enter Tryz.func90, Tryz.ntmps90
  go_wp2_with fail
  rw [← HW.out]
  clear HW
  refine (cu_number HC1.out 1 16).mono ?_
  rw [HX.out]
  rintro er w2 ⟨rfl, X2, G2⟩
  have HC2 := hid X2
  have HR2 : Hid (w2.heap[w.heap.size]? = some (.cells #[.string ⟨#[]⟩, .string ⟨#[]⟩] 69 (0, 0))) := hid ((G2.block _ (Array.getElem?_eq_some_iff.1 HR1.out).1 (fun e => by injection e with e; have := HGL.out; omega)).trans HR1.out)
  have HG2 := hid (gro_trans HG1.out G2)
  clear X2 G2 HC1 HR1 HG1
  go_wp2_with fail
  refine (domain_any V (by have := HV.out; omega) (by have := HV.out; omega) w2).mono ?_
  rintro er w3 ⟨rfl, bb⟩
  have HC3 := hid (HC2.out.below bb HC2.out.lt)
  have HR3 : Hid (w3.heap[w.heap.size]? = some (.cells #[.string ⟨#[]⟩, .string ⟨#[]⟩] 69 (0, 0))) := hid ((bb.block _ (Array.getElem?_eq_some_iff.1 HR2.out).1).trans HR2.out)
  have HG3 := hid (gro_below HG2.out bb)
  clear bb HC2 HR2 HG2
  go_wp2_with fail
  refine (cu_text HC3.out 8).mono ?_
  rw [HY.out]
  rintro er w4 ⟨rfl, X4, G4⟩
  have HR4 : Hid (w4.heap[w.heap.size]? = some (.cells #[.string ⟨#[]⟩, .string ⟨#[]⟩] 69 (0, 0))) := hid ((G4.block _ (Array.getElem?_eq_some_iff.1 HR3.out).1 (fun e => by injection e with e; have := HGL.out; omega)).trans HR3.out)
  have HE := hid (res_pair X4 (gro_trans HG3.out G4) HGL.out (.string ⟨(domL V).toArray⟩) (.string ⟨S.toArray⟩))
  have y0 : w4.cell? ⟨w.heap.size, 0, none⟩ = some (.string ⟨#[]⟩) := by rw [cell_of_row _ _ 0 _ _ (0, 0) HR4.out]; rfl
  have y1 : w4.cell? ⟨w.heap.size, 1, none⟩ = some (.string ⟨#[]⟩) := by rw [cell_of_row _ _ 1 _ _ (0, 0) HR4.out]; rfl
  have g0 : w4.frozen? ⟨w.heap.size, 0, none⟩ = false := frozen_of_row _ _ 0 _ _ HR4.out
  have g1 : w4.frozen? ⟨w.heap.size, 1, none⟩ = false := frozen_of_row _ _ 1 _ _ HR4.out
  clear X4 G4 HC3 HR3 HG3
  go_wp2
  refine bodyPost_ret (results_mid (h := Tryz.results90) _ _ w.heap.size 0 [.string ⟨(domL V).toArray⟩, .string ⟨S.toArray⟩] _ rfl (range_row (pair_set HR4.out)) Tryz.underlying69 rfl info_role) rfl ?_
  rw [HR.out]
  exact ⟨rfl, HE.out.1, HE.out.2⟩

set_option maxHeartbeats 4000000 in
theorem readIDT_any {w : World} {lo hi g n c p : Nat} {A : Option Addr} {l : List UInt8} {e : Int} (h : Cu 76 w lo hi g A n c l p e) :
    Calls Tryz.prog 92 #[.pointer (some ⟨g, 0, none⟩)] w fun er w' => StepC 76 w w' lo hi g A n c l er (.agg #[.int .i64 (idStep l p e).1.1, .int .i64 (idStep l p e).1.2]) (idStep l p e).2.1 (idStep l p e).2.2 := by
  obtain ⟨V, p1, e1, hx⟩ : ∃ V p1 e1, numStep l p e 1 16 = (V, p1, e1) := ⟨_, _, _, rfl⟩
  obtain ⟨S, p2, e2, hy⟩ : ∃ S p2 e2, numStep l p1 e1 1 4000 = (S, p2, e2) := ⟨_, _, _, rfl⟩
  have HR : Hid (idStep l p e = ((V, S), p2, e2)) := hid (by unfold idStep; rw [hx]; simp only; rw [hy])
  have HV : Hid (0 ≤ V ∧ V ≤ 16) := hid (by have := numStep_bound l p e 1 16 (by omega); rw [hx] at this; exact this)
  have HGL : Hid (g < w.heap.size) := hid h.lt
  have HX := hid hx
  have HY := hid hy
  obtain ⟨w1, hw1⟩ : ∃ w1, w1 = w.alloc (.cells #[.int .i64 0, .int .i64 0] 65) := ⟨_, rfl⟩
  have b1 : Below w.heap.size w w1 := by rw [hw1]; exact (Below.refl _ _).alloc (Nat.le_refl _) _
  have HR1 : Hid (w1.heap[w.heap.size]? = some (.cells #[.int .i64 0, .int .i64 0] 65 (0, 0))) := hid (by rw [hw1]; exact heap_alloc_new w _)
  have HC1 := hid (h.below b1 h.lt)
  have HG1 := hid (gro_below (gro_refl w (some g)) b1)
  have HW := hid hw1
  clear h hx hy hw1 b1
  go_enter Tryz.func92, Tryz.ntmps92
  go_wp2_with fail
  rw [← HW.out]
  clear HW
  refine (cu_number HC1.out 1 16).mono ?_
  rw [HX.out]
  rintro er w2 ⟨rfl, X2, G2⟩
  have HC2 := hid X2
  have HR2 : Hid (w2.heap[w.heap.size]? = some (.cells #[.int .i64 0, .int .i64 0] 65 (0, 0))) := hid ((G2.block _ (Array.getElem?_eq_some_iff.1 HR1.out).1 (fun e => by injection e with e; have := HGL.out; omega)).trans HR1.out)
  have HG2 := hid (gro_trans HG1.out G2)
  clear X2 G2 HC1 HR1 HG1
  go_wp2_with fail
  refine (cu_number HC2.out 1 4000).mono ?_
  rw [HY.out]
  rintro er w4 ⟨rfl, X4, G4⟩
  have HR4 : Hid (w4.heap[w.heap.size]? = some (.cells #[.int .i64 0, .int .i64 0] 65 (0, 0))) := hid ((G4.block _ (Array.getElem?_eq_some_iff.1 HR2.out).1 (fun e => by injection e with e; have := HGL.out; omega)).trans HR2.out)
  have HE := hid (res_pair X4 (gro_trans HG2.out G4) HGL.out (.int .i64 V) (.int .i64 S))
  have y0 : w4.cell? ⟨w.heap.size, 0, none⟩ = some (.int .i64 0) := by rw [cell_of_row _ _ 0 _ _ (0, 0) HR4.out]; rfl
  have y1 : w4.cell? ⟨w.heap.size, 1, none⟩ = some (.int .i64 0) := by rw [cell_of_row _ _ 1 _ _ (0, 0) HR4.out]; rfl
  have g0 : w4.frozen? ⟨w.heap.size, 0, none⟩ = false := frozen_of_row _ _ 0 _ _ HR4.out
  have g1 : w4.frozen? ⟨w.heap.size, 1, none⟩ = false := frozen_of_row _ _ 1 _ _ HR4.out
  clear X4 G4 HC2 HR2 HG2
  go_wp2
  refine bodyPost_ret (results_mid (h := Tryz.results92) _ _ w.heap.size 0 [.int .i64 V, .int .i64 S] _ rfl (range_row (pair_set HR4.out)) Tryz.underlying65 rfl info_idT) rfl ?_
  rw [HR.out]
  exact ⟨rfl, HE.out.1, HE.out.2⟩

set_option maxHeartbeats 4000000 in
theorem listR_any {w : World} {lo hi g n c p : Nat} {A : Option Addr} {l : List UInt8} {e : Int} (h : Cu 76 w lo hi g A n c l p e) :
    Calls Tryz.prog 89 #[.pointer (some ⟨g, 0, none⟩), .int .i64 4, .func (.func 90) #[] #[]] w fun er w' => StepO encR 69 76 w w' lo hi g A n c l er (rollsStep l p e) := by
  obtain ⟨Z, hZ⟩ : ∃ Z, numStep l p e 0 4 = Z := ⟨_, rfl⟩
  have hb := numStep_bound l p e 0 4 (by omega)
  have HN := hid (cu_number h 0 4)
  rw [hZ] at hb HN
  obtain ⟨z, p1, e1⟩ := Z
  obtain ⟨k, hk⟩ : ∃ k : Nat, z = (k : Int) := ⟨z.toNat, by simp only at hb; omega⟩
  subst hk
  simp only at hb HN
  have hkm : k ≤ 4 := by omega
  have HRV : Hid (rollsStep l p e = many (rStep l) k p1 e1) := hid (by unfold rollsStep; simp only [hZ]; rfl)
  have HGL : Hid (g < w.heap.size) := hid h.lt
  clear h hZ hb
  go_enter Tryz.func89, Tryz.ntmps89
  go_wp2_with fail
  refine HN.out.mono ?_
  rintro er w1 ⟨rfl, hc1, hg1⟩
  have HC1 := hid hc1
  have HG1 := hid hg1
  clear hc1 hg1
  go_wp2_with fail
  go_loopw [7, 11] (fun v i wr => ∃ (A1 : Option Addr) (c1 j : Nat), v = .slice A1 j c1 ∧ i = .int .i64 (j : Int) ∧ j ≤ k ∧ Hid (Own (E := encR) wr w.heap.size 69 (.slice A1 j c1) (many (rStep l) j p1 e1).1) ∧ Hid (Cu 76 wr lo hi g A n c l (many (rStep l) j p1 e1).2.1 (many (rStep l) j p1 e1).2.2) ∧ Hid (w.grownBy wr (some g))) (fun _ i _ => k - (intOf i).toNat)
  case atStart => exact ⟨none, 0, 0, rfl, rfl, Nat.zero_le _, hid (Own.nil _ _ _), HC1, HG1⟩
  case round =>
    obtain ⟨wj, hwj⟩ : ∃ x, x = wr := ⟨_, rfl⟩
    subst hwj
    obtain ⟨A1, c1, j, rfl, rfl, hj, HO, HC, HG⟩ := hrel
    have hj0 : (0 : Int) ≤ (j : Int) := Int.natCast_nonneg _
    by_cases hlt : j < k
    · have hj1 : (j : Int) < (k : Int) := by omega
      have hml := many_len (rStep l) j p1 e1
      have hmx : many (rStep l) (j + 1) p1 e1 = ((many (rStep l) j p1 e1).1 ++ [(rStep l (many (rStep l) j p1 e1).2.1 (many (rStep l) j p1 e1).2.2).1], (rStep l (many (rStep l) j p1 e1).2.1 (many (rStep l) j p1 e1).2.2).2) := rfl
      generalize many (rStep l) j p1 e1 = M at HO HC hml hmx
      obtain ⟨L, pj, ej⟩ := M
      simp only at HO HC hml hmx
      have HRD0 := readRoleT_any HC.out
      obtain ⟨⟨V, S⟩, p3, e3, hx⟩ : ∃ (V : _) (p3 : Nat) (e3 : Int), rStep l pj ej = (V, p3, e3) := ⟨_, _, _, rfl⟩
      rw [hx] at HRD0 hmx
      simp only at HRD0 hmx
      have HNX : Hid (many (rStep l) (j + 1) p1 e1 = (L ++ [(V, S)], p3, e3)) := hid hmx
      have hfl : L.length ≤ 1000000000000 := by omega
      have HUL : Hid (L.length = j) := hid hml
      have HRD1 := hid HRD0
      clear hmx hml hx HRD0
      go_wp2_with fail
      refine HRD1.out.mono ?_
      rintro er w4 ⟨rfl, hc4, hg4⟩
      have HO4 := hid (HO.out.cuT hg4 HGL.out)
      have HG4 := hid (gro_trans HG.out hg4)
      have HOA := hid (HO4.out.alloc (.cells #[.string V, .string S] 69))
      have HCA := hid (hc4.allocT (.cells #[.string V, .string S] 69))
      have HRD := hid (reads_new w4 #[.string V, .string S] 69 (0, 0))
      have HGA := hid (gro_alloc HG4.out (.cells #[.string V, .string S] 69))
      have hbs : w.heap.size ≤ (w4.alloc (.cells #[.string V, .string S] 69)).heap.size := HGA.out.size
      clear hc4 hg4 HRD1 HO HC HG HO4 HG4
      go_wp2_with (first | (at_builtin; refine wpList_app1 (E := encR) rfl slkR (.tmp 13) (.tmp 17) rfl (B := w.heap.size) (v := .slice A1 j c1) (l := L) HOA.out rfl (ad := ⟨w4.heap.size, 0, none⟩) (c := 1) (V, S) rfl HRD.out hfl (by omega) hbs ?_; intro A9 c9 w9 ho9 hg9 he9; have HO9 := hid ho9; have HC9 := hid (HCA.out.ownT hg9 (fun b hb => Nat.lt_of_lt_of_le HGL.out (HOA.out.lt b hb).1)); have HG9 := hid (gro_ownT HGA.out hg9 (fun b hb => (HOA.out.lt b hb).1)); clear ho9 hg9 he9) | go_in)
      rw [HUL.out] at HO9 ⊢
      go_roundw
      case rel => exact ⟨A9, c9, j + 1, rfl, by go_num, by omega, hid (by rw [HNX.out]; exact HO9.out), hid (by rw [HNX.out]; exact HC9.out), HG9⟩
      case measure => simp [intOf]; omega
    · obtain rfl : j = k := by omega
      have hk1 : ¬ (j : Int) < (j : Int) := by omega
      go_wp2_with fail
      go_ret
      rw [HRV.out]
      exact ⟨A1, j, c1, rfl, many_len _ _ _ _, HO.out, HC.out, HG.out⟩

set_option maxHeartbeats 4000000 in
theorem listI_any {w : World} {lo hi g n c p : Nat} {A : Option Addr} {l : List UInt8} {e : Int} (h : Cu 76 w lo hi g A n c l p e) :
    Calls Tryz.prog 91 #[.pointer (some ⟨g, 0, none⟩), .int .i64 64, .func (.func 92) #[] #[]] w fun er w' => StepO encI 65 76 w w' lo hi g A n c l er (idsStep l p e) := by
  obtain ⟨Z, hZ⟩ : ∃ Z, numStep l p e 0 64 = Z := ⟨_, rfl⟩
  have hb := numStep_bound l p e 0 64 (by omega)
  have HN := hid (cu_number h 0 64)
  rw [hZ] at hb HN
  obtain ⟨z, p1, e1⟩ := Z
  obtain ⟨k, hk⟩ : ∃ k : Nat, z = (k : Int) := ⟨z.toNat, by simp only at hb; omega⟩
  subst hk
  simp only at hb HN
  have hkm : k ≤ 64 := by omega
  have HRV : Hid (idsStep l p e = many (idStep l) k p1 e1) := hid (by unfold idsStep; simp only [hZ]; rfl)
  have HGL : Hid (g < w.heap.size) := hid h.lt
  clear h hZ hb
  go_enter Tryz.func91, Tryz.ntmps91
  go_wp2_with fail
  refine HN.out.mono ?_
  rintro er w1 ⟨rfl, hc1, hg1⟩
  have HC1 := hid hc1
  have HG1 := hid hg1
  clear hc1 hg1
  go_wp2_with fail
  go_loopw [7, 11] (fun v i wr => ∃ (A1 : Option Addr) (c1 j : Nat), v = .slice A1 j c1 ∧ i = .int .i64 (j : Int) ∧ j ≤ k ∧ Hid (Own (E := encI) wr w.heap.size 65 (.slice A1 j c1) (many (idStep l) j p1 e1).1) ∧ Hid (Cu 76 wr lo hi g A n c l (many (idStep l) j p1 e1).2.1 (many (idStep l) j p1 e1).2.2) ∧ Hid (w.grownBy wr (some g))) (fun _ i _ => k - (intOf i).toNat)
  case atStart => exact ⟨none, 0, 0, rfl, rfl, Nat.zero_le _, hid (Own.nil _ _ _), HC1, HG1⟩
  case round =>
    obtain ⟨wj, hwj⟩ : ∃ x, x = wr := ⟨_, rfl⟩
    subst hwj
    obtain ⟨A1, c1, j, rfl, rfl, hj, HO, HC, HG⟩ := hrel
    have hj0 : (0 : Int) ≤ (j : Int) := Int.natCast_nonneg _
    by_cases hlt : j < k
    · have hj1 : (j : Int) < (k : Int) := by omega
      have hml := many_len (idStep l) j p1 e1
      have hmx : many (idStep l) (j + 1) p1 e1 = ((many (idStep l) j p1 e1).1 ++ [(idStep l (many (idStep l) j p1 e1).2.1 (many (idStep l) j p1 e1).2.2).1], (idStep l (many (idStep l) j p1 e1).2.1 (many (idStep l) j p1 e1).2.2).2) := rfl
      generalize many (idStep l) j p1 e1 = M at HO HC hml hmx
      obtain ⟨L, pj, ej⟩ := M
      simp only at HO HC hml hmx
      have HRD0 := readIDT_any HC.out
      obtain ⟨⟨V, S⟩, p3, e3, hx⟩ : ∃ (V : _) (p3 : Nat) (e3 : Int), idStep l pj ej = (V, p3, e3) := ⟨_, _, _, rfl⟩
      rw [hx] at HRD0 hmx
      simp only at HRD0 hmx
      have HNX : Hid (many (idStep l) (j + 1) p1 e1 = (L ++ [(V, S)], p3, e3)) := hid hmx
      have hfl : L.length ≤ 1000000000000 := by omega
      have HUL : Hid (L.length = j) := hid hml
      have HRD1 := hid HRD0
      clear hmx hml hx HRD0
      go_wp2_with fail
      refine HRD1.out.mono ?_
      rintro er w4 ⟨rfl, hc4, hg4⟩
      have HO4 := hid (HO.out.cuT hg4 HGL.out)
      have HG4 := hid (gro_trans HG.out hg4)
      have HOA := hid (HO4.out.alloc (.cells #[.int .i64 V, .int .i64 S] 65))
      have HCA := hid (hc4.allocT (.cells #[.int .i64 V, .int .i64 S] 65))
      have HRD := hid (reads_new w4 #[.int .i64 V, .int .i64 S] 65 (0, 0))
      have HGA := hid (gro_alloc HG4.out (.cells #[.int .i64 V, .int .i64 S] 65))
      have hbs : w.heap.size ≤ (w4.alloc (.cells #[.int .i64 V, .int .i64 S] 65)).heap.size := HGA.out.size
      clear hc4 hg4 HRD1 HO HC HG HO4 HG4
      go_wp2_with (first | (at_builtin; refine wpList_app1 (E := encI) rfl slkI (.tmp 13) (.tmp 17) rfl (B := w.heap.size) (v := .slice A1 j c1) (l := L) HOA.out rfl (ad := ⟨w4.heap.size, 0, none⟩) (c := 1) (V, S) rfl HRD.out hfl (by omega) hbs ?_; intro A9 c9 w9 ho9 hg9 he9; have HO9 := hid ho9; have HC9 := hid (HCA.out.ownT hg9 (fun b hb => Nat.lt_of_lt_of_le HGL.out (HOA.out.lt b hb).1)); have HG9 := hid (gro_ownT HGA.out hg9 (fun b hb => (HOA.out.lt b hb).1)); clear ho9 hg9 he9) | go_in)
      rw [HUL.out] at HO9 ⊢
      go_roundw
      case rel => exact ⟨A9, c9, j + 1, rfl, by go_num, by omega, hid (by rw [HNX.out]; exact HO9.out), hid (by rw [HNX.out]; exact HC9.out), HG9⟩
      case measure => simp [intOf]; omega
    · obtain rfl : j = k := by omega
      have hk1 : ¬ (j : Int) < (j : Int) := by omega
      go_wp2_with fail
      go_ret
      rw [HRV.out]
      exact ⟨A1, j, c1, rfl, many_len _ _ _ _, HO.out, HC.out, HG.out⟩
end Go.Proofs.YtaadmgbmaekicaaGreatDoor.Sh
