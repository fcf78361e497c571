/-
  Held credentials, and credentials, compared in a walk.
-/
import Derived.Test.YtkimhdcngagmaaaJa9
import Derived.BigQuiet
import Derived.Test.YtkimhdcngagmaaaJa26
import Derived.Test.YtkimhdcngagmaaaJa13
import Derived.Deep.CutRange
import Derived.Test.YtkimhdcngagmaaaJa1
set_option linter.unusedVariables false
set_option linter.unusedSimpArgs false
namespace Go.Proofs.Ytkimhdcngagmaaa.Sh
open Go Go.RowKit
theorem ba_iff (a b : ByteArray) : a.toList = b.toList ↔ a = b := ⟨fun h => by rw [ByteArray.toList_eq, ByteArray.toList_eq] at h; exact ba_eq h, fun h => by rw [h]⟩
open Classical in
theorem eql_cred (a b : Crd) (W : World) : (binOp .eql 53 (.agg a.cells.toArray) (.agg b.cells.toArray)).run Try.prog W = .ok (.bool (decide (a = b))) W := by
  rcases Classical.em (a = b) with he | he
  · rw [decide_eq_true he]
    subst he
    obtain ⟨d, q, nm, kd, wh, ao, an, bo, bn⟩ := a
    unfold Crd.cells
    simp only
    rw [run_eql_struct]
    go_simp
  · rw [decide_eq_false he]
    obtain ⟨d, q, nm, kd, wh, ao, an, bo, bn⟩ := a
    obtain ⟨d', q', nm', kd', wh', ao', an', bo', bn'⟩ := b
    unfold Crd.cells
    simp only
    rw [run_eql_struct]
    go_simp
    simp only [ba_iff]
    intros
    intro _
    apply he
    subst_vars
    rfl
open Classical in
theorem neq_held (a b : Hl) (W : World) : (binOp .neq 55 (.agg a.cells.toArray) (.agg b.cells.toArray)).run Try.prog W = .ok (.bool (!decide (a = b))) W := by
  rcases Classical.em (a = b) with he | he
  · rw [decide_eq_true he]
    subst he
    obtain ⟨⟨d, q, nm, kd, wh, ao, an, bo, bn⟩, u⟩ := a
    unfold Hl.cells
    simp only
    rw [run_neq_struct]
    go_simp
  · rw [decide_eq_false he]
    obtain ⟨⟨d, q, nm, kd, wh, ao, an, bo, bn⟩, u⟩ := a
    obtain ⟨⟨d', q', nm', kd', wh', ao', an', bo', bn'⟩, u'⟩ := b
    unfold Hl.cells
    simp only
    rw [run_neq_struct]
    go_simp
    simp only [ba_iff]
    intros
    intro _
    apply he
    subst_vars
    rfl
theorem guard_held (a b : Hl) (i j : Operand) (W : World) : (eqGuard .neq 55 i j (.agg a.cells.toArray) (.agg b.cells.toArray)).run Try.prog W = .ok () W := by
  obtain ⟨⟨d, q, nm, kd, wh, ao, an, bo, bn⟩, u⟩ := a
  obtain ⟨⟨d', q', nm', kd', wh', ao', an', bo', bn'⟩, u'⟩ := b
  unfold Hl.cells
  simp only
  go_simp
theorem guard_cred2 (a b : Crd) (i j : Operand) (W : World) : (eqGuard .eql 53 i j (.agg a.cells.toArray) (.agg b.cells.toArray)).run Try.prog W = .ok () W := by
  obtain ⟨d, q, nm, kd, wh, ao, an, bo, bn⟩ := a
  obtain ⟨d', q', nm', kd', wh', ao', an', bo', bn'⟩ := b
  unfold Crd.cells
  simp only
  go_simp
end Go.Proofs.Ytkimhdcngagmaaa.Sh
/-
  The laws' few and same of leases, by contract; held credentials as elements.
-/
namespace Go.Proofs.Ytkimhdcngagmaaa.Sh
open Go Go.RowKit

set_option linter.unusedSimpArgs false
set_option linter.unusedVariables false
theorem few13_any (A : Option Addr) (l : List (Int × Int)) (n c : Nat) (hn : l.length = n) (hc : n ≤ c) (hcc : c ≤ 9223372036854775807) (w : World) (h : Els encI w w.heap.size A l) :
    Calls Try.prog 7 #[.slice A n c] w fun e w' => (∃ n', e = .returned (.slice A n' c) ∧ n' ≤ n ∧ n' ≤ 20 ∧ (l.take 20).length = n') ∧ w = w' := by
  by_cases hlt : 20 < n
  · have hlt2 : (20 : Int) < (n : Int) := by omega
    have HL : Hid ((l.take 20).length = 20) := hid (by rw [List.length_take, hn]; omega)
    have h20 : (20 : Nat) ≤ n := by omega
    have h20c : (20 : Nat) ≤ c := by omega
    have h20i : (20 : Int) ≤ (c : Int) := by omega
    clear hn h
    go_enter Try.func7, Try.ntmps7
    go_wp2_with fail
    go_ret
    exact ⟨⟨20, rfl, by omega, by omega, by simpa using HL.out⟩, rfl⟩
  · have hlt2 : ¬ (20 : Int) < (n : Int) := by omega
    have HL : Hid ((l.take 20).length = n) := hid (by rw [List.length_take, hn]; omega)
    clear hn h
    go_enter Try.func7, Try.ntmps7
    go_wp2_with fail
    go_ret
    exact ⟨⟨n, rfl, by omega, by omega, by simpa using HL.out⟩, rfl⟩
set_option maxHeartbeats 4000000 in
theorem same13_eq (A A' : Option Addr) (l : List Hl) (n c c' : Nat) (hn : l.length = n) (hm : n ≤ 1000000) (w : World) (h : Els encL w w.heap.size A l) (h' : Els encL w w.heap.size A' l) :
    Calls Try.prog 11 #[.slice A n c, .slice A' n c'] w fun e w' => e = .returned (.bool true) ∧ Below w.heap.size w w' := by
  have HN := hid hn
  have HY := hid (fun W (hW : Below w.heap.size w W) => h.below hW)
  have HY' := hid (fun W (hW : Below w.heap.size w W) => h'.below hW)
  have HB0 := hid (Below.refl w.heap.size w)
  have h0 : (n != n) = false := by simp
  clear hn h h'
  go_enter Try.func11, Try.ntmps11
  go_wp2_with fail
  go_loopw [5] (fun i wr => ∃ k : Nat, k ≤ n ∧ i = .int .i64 (k : Int) ∧ Hid (Below w.heap.size w wr)) (fun i _ => n - (intOf i).toNat)
  case atStart => exact ⟨0, Nat.zero_le _, rfl, HB0⟩
  case round =>
    obtain ⟨wj, hwj⟩ : ∃ x, x = wr := ⟨_, rfl⟩
    subst hwj
    obtain ⟨k, hk, rfl, HB⟩ := hrel
    have hk0 : (0 : Int) ≤ (k : Int) := Int.natCast_nonneg _
    by_cases hlt : k < n
    · obtain ⟨x, hx⟩ : ∃ x, l[k]? = some x := ⟨_, List.getElem?_eq_getElem (by rw [HN.out]; exact hlt)⟩
      obtain ⟨ad, aj, hA, -, ea, -, f0, fs⟩ := (HY.out wj HB.out).get hx
      obtain ⟨ad', aj', hA', -, ea', -, f0', fs'⟩ := (HY'.out wj HB.out).get hx
      subst hA hA'
      have ea : ad.add (k * 10) = aj := ea
      have ea' : ad'.add (k * 10) = aj' := ea'
      have d0 := f0 _ rfl
      have d1 := fs 1 _ (by omega) rfl
      have d2 := fs 2 _ (by omega) rfl
      have d3 := fs 3 _ (by omega) rfl
      have d4 := fs 4 _ (by omega) rfl
      have d5 := fs 5 _ (by omega) rfl
      have d6 := fs 6 _ (by omega) rfl
      have d7 := fs 7 _ (by omega) rfl
      have d8 := fs 8 _ (by omega) rfl
      have d9 := fs 9 _ (by omega) rfl
      have e0 := f0' _ rfl
      have e1 := fs' 1 _ (by omega) rfl
      have e2 := fs' 2 _ (by omega) rfl
      have e3 := fs' 3 _ (by omega) rfl
      have e4 := fs' 4 _ (by omega) rfl
      have e5 := fs' 5 _ (by omega) rfl
      have e6 := fs' 6 _ (by omega) rfl
      have e7 := fs' 7 _ (by omega) rfl
      have e8 := fs' 8 _ (by omega) rfl
      have e9 := fs' 9 _ (by omega) rfl
      obtain ⟨⟨xd, xq, nm, kd, wh, ao, an, bo, bn⟩, xu⟩ := x
      simp only at d0 d1 d2 d3 d4 d5 d6 d7 d8 d9 e0 e1 e2 e3 e4 e5 e6 e7 e8 e9
      have hk1 : (k : Int) < (n : Int) := by omega
      clear hx f0 fs f0' fs'
      go_wp2_with fail
      go_quiet (fail)
      go_wp2_with fail
      go_roundw
      case rel => exact ⟨k + 1, by omega, by go_num, hid (below_drewN HB.out _)⟩
      case measure => simp [intOf]; omega
    · obtain rfl : k = n := by omega
      go_wp2_with fail
      go_ret
      exact ⟨rfl, HB.out⟩
end Go.Proofs.Ytkimhdcngagmaaa.Sh
/-
  The document's examples of leases, pure.
-/
namespace Go.Proofs.Ytkimhdcngagmaaa.Sh
open Go Go.RowKit

/-- The examples' credential. -/
def exC : Crd := ⟨2, 1, ⟨#[97]⟩, 1, ⟨#[97, 110, 110]⟩, ⟨#[]⟩, ⟨#[]⟩, ⟨#[]⟩, ⟨#[]⟩⟩
def exH : Hl := ⟨exC, 66⟩
theorem counts_one {c : Crd} (h : mayC c = true) : CountsOf [c] [c] := by
  refine ⟨List.pairwise_singleton _ _, fun d q => ?_⟩
  cases hi : idIs d q c <;> simp [hi, h]
theorem counts_nil : CountsOf [] [] := ⟨List.Pairwise.nil, fun d q => rfl⟩
theorem ex_may : mayC exC = true := by kernel_rfl
theorem ex_counts : countsC [exC] = [exC] := countsC_eq (counts_one ex_may)
theorem ex_counts0 : countsC [] = [] := countsC_eq counts_nil
def exB : LB := ⟨1, updF (fun _ => none) 2 (some 10), updF (fun _ => []) 2 [exH]⟩
theorem ex_own : (LB.new 1).own = 1 := rfl
theorem ex_leased : leasedP 2 (addT 10 56) [exC] = [exH] := by
  unfold leasedP
  rw [List.filter_cons_of_pos (by decide)]
  simp only [List.filter_nil, List.map_cons, List.map_nil]
  rfl
theorem ex_learn : (LB.new 1).learn 2 (countsC [exC]) 10 = (0, exB) := by
  rw [ex_counts, LB.learn_yes (by decide) (by decide) (by rw [ex_leased]; decide), ex_leased]
  rfl
theorem ex_late : exB.learn 2 (countsC []) 9 = (1, exB) := LB.learn_late _ (by decide)
theorem ex_all : allD exB.hl 16 = [exH] := by
  show allD (updF (fun _ => []) 2 [exH]) 16 = [exH]
  simp [allD, updF]
theorem ex_held : exB.held 65 = [exH] := by
  unfold LB.held
  rw [ex_all]
  unfold liveL
  rw [List.filter_cons_of_pos (by decide)]
  rfl
theorem ex_held2 : exB.held 66 = [] := by
  unfold LB.held
  rw [ex_all]
  unfold liveL
  rw [List.filter_cons_of_neg (by decide)]
  rfl
theorem ex_until : exB.untilP [(1, 9), (2, 1)] 20 = (66, 0) := by decide
theorem ex_fresh : exB.fresh 2 57 = true := by decide
theorem ex_stale : exB.fresh 2 58 = false := by decide
theorem ex_len : ∀ d, (exB.hl d).length ≤ 24 := fun d => by
  show (updF (fun _ => []) 2 [exH] d).length ≤ 24
  unfold updF
  split <;> simp
end Go.Proofs.Ytkimhdcngagmaaa.Sh
/-
  The program's book: Held, by contract.
-/
namespace Go.Proofs.Ytkimhdcngagmaaa.Sh
open Go Go.RowKit

set_option linter.unusedSimpArgs false
set_option linter.unusedVariables false
theorem liveL_append (now : Int) (a b : List Hl) : liveL now (a ++ b) = liveL now a ++ liveL now b := List.filter_append ..
theorem liveL_snoc (now : Int) (a : List Hl) (h : Hl) : liveL now (a ++ [h]) = if overB now h.u = true then liveL now a else liveL now a ++ [h] := by
  rw [liveL_append]
  unfold liveL
  cases ho : overB now h.u <;> simp [ho]
theorem ElsQ.low {α : Type} {E : Enc α} {w : World} {Q : Nat → Prop} {A : Option Addr} {l : List α} {B : Nat} (h : ElsQ E w Q A l) (hq : ∀ b, Q b → b < B) : Els E w B A l := fun hn => by
  obtain ⟨ad, e, hQ, _, hc⟩ := h hn
  exact ⟨ad, e, hq _ hQ, hc⟩
theorem liveL_len (now : Int) (a : List Hl) : (liveL now a).length ≤ a.length := List.length_filter_le _ _
set_option maxHeartbeats 8000000 in
theorem held_any {w : World} {P : Nat → Prop} {g k : Nat} {b : LB} (h : BookP w P g k b) (hle : ∀ d, (b.hl d).length ≤ 24) (now : Int) :
    Calls Try.prog 12 #[.pointer (some ⟨g, 0, none⟩), .int .i64 now] w fun e w' => ∃ A n c, e = .returned (.slice A n c) ∧ (b.held now).length = n ∧ n ≤ c ∧ c ≤ 9223372036854775807 ∧ n ≤ 384 ∧ Own (E := encL) w' w.heap.size 55 (.slice A n c) (b.held now) ∧ Below w.heap.size w w' := by
  obtain ⟨h1, h2, hb⟩ := h.e
  have HBO := hid hb
  have HLE := hid hle
  have HOV := hid (fun u W => over_any now u W)
  have HB0 := hid (Below.refl w.heap.size w)
  have HHE : Hid (b.held now = liveL now (allD b.hl 16)) := hid rfl
  clear h hb hle
  go_enter Try.func12, Try.ntmps12
  go_wp2_with fail
  go_loopw [5, 9] (fun v i wr => ∃ (A : Option Addr) (m c k : Nat), v = .slice A m c ∧ i = .int .i64 (k : Int) ∧ k ≤ 16 ∧ m ≤ 24 * k ∧ Hid ((liveL now (allD b.hl k)).length = m) ∧ Hid (Own (E := encL) wr w.heap.size 55 (.slice A m c) (liveL now (allD b.hl k))) ∧ Hid (Below w.heap.size w wr)) (fun _ i _ => 16 - (intOf i).toNat)
  case atStart => exact ⟨none, 0, 0, 0, rfl, rfl, by omega, by omega, hid rfl, hid (Own.nil _ _ _), HB0⟩
  case round =>
    obtain ⟨wj, hwj⟩ : ∃ x, x = wr := ⟨_, rfl⟩
    subst hwj
    obtain ⟨A, m, c, i, rfl, rfl, hi, hmi, HL, HO, HB⟩ := hrel
    have hi0 : (0 : Int) ≤ (i : Int) := Int.natCast_nonneg _
    by_cases hlt : i < 16
    · have hi1 : (i : Int) < 16 := by omega
      have hbj := HBO.out.below HB.out
      have c2 := hbj.c2
      have hz : In64 ((i : Int) + 1) := by unfold In64; omega
      obtain ⟨RA, rc, hlk, hr1, hr2, hre⟩ := hbj.hl.look hz
      have hrl := HLE.out ((i : Int) + 1)
      have HSU : Hid (allD b.hl (i + 1) = allD b.hl i ++ b.hl ((i : Int) + 1)) := hid rfl
      obtain ⟨row, hrow⟩ : ∃ r, b.hl ((i : Int) + 1) = r := ⟨_, rfl⟩
      rw [hrow] at hlk hr1 hre hrl HSU
      obtain ⟨rn, hrn⟩ : ∃ n, row.length = n := ⟨_, rfl⟩
      rw [hrn] at hlk hr1 hrl
      obtain ⟨bs, hbs⟩ : ∃ x, liveL now (allD b.hl i) = x := ⟨_, rfl⟩
      have HSV : Hid (liveL now (allD b.hl (i + 1)) = bs ++ liveL now row) := hid (by rw [HSU.out, liveL_append, hbs])
      rw [hbs] at HL HO
      have HRN := hid hrn
      have HRE := hid (fun W (hW : Below w.heap.size wj W) => (hre.low (fun x hx => HBO.out.dom x hx.1)).below hW)
      have HBJ := hid (Below.refl w.heap.size wj)
      have hw1 : IntKind.i64.wrap ((i : Int) + 1) = (i : Int) + 1 := wrap_in _ (by omega)
      clear hbj hre hrow hrn hbs HSU
      go_wp2_with fail
      go_loopw [5, 20] (fun v j wr => ∃ (A : Option Addr) (m' c k : Nat), v = .slice A m' c ∧ j = .int .i64 (k : Int) ∧ k ≤ rn ∧ m' ≤ m + k ∧ Hid ((bs ++ liveL now (row.take k)).length = m') ∧ Hid (Own (E := encL) wr w.heap.size 55 (.slice A m' c) (bs ++ liveL now (row.take k))) ∧ Hid (Below w.heap.size wj wr)) (fun _ j _ => rn - (intOf j).toNat)
      case atStart => exact ⟨A, m, c, 0, rfl, rfl, by omega, by omega, hid (by simpa [liveL] using HL.out), hid (by simpa [liveL] using HO.out), HBJ⟩
      case round =>
        clear HO HL
        obtain ⟨wi, hwi⟩ : ∃ x, x = wr := ⟨_, rfl⟩
        subst hwi
        obtain ⟨A6, m6, c6, j, rfl, rfl, hj, hmj, HL6, HO6, HB6⟩ := hrel
        have hj0 : (0 : Int) ≤ (j : Int) := Int.natCast_nonneg _
        have HBI := hid (HB.out.trans HB6.out)
        have hsi := HBI.out.size
        by_cases hlt2 : j < rn
        · obtain ⟨⟨⟨xd, xq, nm, kd, wh, ao, an, bo, bn⟩, xu⟩, hx⟩ : ∃ x, row[j]? = some x := ⟨_, List.getElem?_eq_getElem (by rw [HRN.out]; exact hlt2)⟩
          obtain ⟨ad, aj, hA, hab, ea, hbj2, f0, fs⟩ := (HRE.out wi HB6.out).get hx
          subst hA
          have ea : ad.add (j * 10) = aj := ea
          have d0 := f0 _ rfl
          have d1 := fs 1 _ (by omega) rfl
          have d2 := fs 2 _ (by omega) rfl
          have d3 := fs 3 _ (by omega) rfl
          have d4 := fs 4 _ (by omega) rfl
          have d5 := fs 5 _ (by omega) rfl
          have d6 := fs 6 _ (by omega) rfl
          have d7 := fs 7 _ (by omega) rfl
          have d8 := fs 8 _ (by omega) rfl
          have d9 := fs 9 _ (by omega) rfl
          simp only at d0 d1 d2 d3 d4 d5 d6 d7 d8 d9
          have HX := hid (take_snoc_of hx)
          have hj1 : (j : Int) < (rn : Int) := by omega
          obtain ⟨w1, hw1⟩ : ∃ y, y = wi.alloc (.cells #[.int .i64 xd, .int .i64 xq, .string nm, .int .i64 kd, .string wh, .string ao, .string an, .string bo, .string bn, .int .i64 xu] 55) := ⟨_, rfl⟩
          have hc1 : w1.heap[wi.heap.size]? = some (.cells #[.int .i64 xd, .int .i64 xq, .string nm, .int .i64 kd, .string wh, .string ao, .string an, .string bo, .string bn, .int .i64 xu] 55 (0, 0)) := by rw [hw1]; exact heap_alloc_new wi _
          have HB1 : Hid (Below w.heap.size wj w1) := hid (by rw [hw1]; exact HB6.out.alloc hsi _)
          have hs1 : w1.heap.size = wi.heap.size + 1 := by rw [hw1]; simp
          have HO1 : Hid (Own (E := encL) w1 w.heap.size 55 (.slice A6 m6 c6) (bs ++ liveL now (row.take j))) := hid (by rw [hw1]; exact HO6.out.alloc _)
          have e0 : w1.cell? ⟨wi.heap.size, 0, none⟩ = some (.int .i64 xd) := by rw [cell_of_row _ _ 0 _ _ (0, 0) hc1]; rfl
          have e1 : w1.cell? ⟨wi.heap.size, 1, none⟩ = some (.int .i64 xq) := by rw [cell_of_row _ _ 1 _ _ (0, 0) hc1]; rfl
          have e2 : w1.cell? ⟨wi.heap.size, 2, none⟩ = some (.string nm) := by rw [cell_of_row _ _ 2 _ _ (0, 0) hc1]; rfl
          have e3 : w1.cell? ⟨wi.heap.size, 3, none⟩ = some (.int .i64 kd) := by rw [cell_of_row _ _ 3 _ _ (0, 0) hc1]; rfl
          have e4 : w1.cell? ⟨wi.heap.size, 4, none⟩ = some (.string wh) := by rw [cell_of_row _ _ 4 _ _ (0, 0) hc1]; rfl
          have e5 : w1.cell? ⟨wi.heap.size, 5, none⟩ = some (.string ao) := by rw [cell_of_row _ _ 5 _ _ (0, 0) hc1]; rfl
          have e6 : w1.cell? ⟨wi.heap.size, 6, none⟩ = some (.string an) := by rw [cell_of_row _ _ 6 _ _ (0, 0) hc1]; rfl
          have e7 : w1.cell? ⟨wi.heap.size, 7, none⟩ = some (.string bo) := by rw [cell_of_row _ _ 7 _ _ (0, 0) hc1]; rfl
          have e8 : w1.cell? ⟨wi.heap.size, 8, none⟩ = some (.string bn) := by rw [cell_of_row _ _ 8 _ _ (0, 0) hc1]; rfl
          have e9 : w1.cell? ⟨wi.heap.size, 9, none⟩ = some (.int .i64 xu) := by rw [cell_of_row _ _ 9 _ _ (0, 0) hc1]; rfl
          have HOC := hid (HOV.out xu w1)
          have HLS : Hid ((bs ++ liveL now (row.take (j + 1))) = if overB now xu = true then bs ++ liveL now (row.take j) else (bs ++ liveL now (row.take j)) ++ [⟨⟨xd, xq, nm, kd, wh, ao, an, bo, bn⟩, xu⟩]) := hid (by
            rw [HX.out, liveL_snoc]
            simp only
            split
            · rfl
            · rw [List.append_assoc])
          have HOB : Hid (decide (tk xu ≤ tk now) = overB now xu) := hid rfl
          rw [HOB.out] at HOC
          have HW1 := hid hw1
          clear hx f0 fs hc1 hab hbj2 hw1
          cases ho : overB now xu
          · rw [ho] at HOC HLS
            simp only [Bool.false_eq_true, if_false] at HLS
            obtain ⟨fl, hfll⟩ : ∃ fl, bs ++ liveL now (row.take j) = fl := ⟨_, rfl⟩
            rw [hfll] at HL6 HO1 HLS
            clear hfll
            have hfl : fl.length ≤ 1000000000000 := by rw [HL6.out]; omega
            have HOA := hid (HO1.out.alloc (.cells #[.int .i64 xd, .int .i64 xq, .string nm, .int .i64 kd, .string wh, .string ao, .string an, .string bo, .string bn, .int .i64 xu] 55))
            have HRD := hid (reads_new w1 #[.int .i64 xd, .int .i64 xq, .string nm, .int .i64 kd, .string wh, .string ao, .string an, .string bo, .string bn, .int .i64 xu] 55 (0, 0))
            have hs1w : w.heap.size ≤ w1.heap.size := by omega
            have HBA := hid (HB1.out.alloc hs1w (.cells #[.int .i64 xd, .int .i64 xq, .string nm, .int .i64 kd, .string wh, .string ao, .string an, .string bo, .string bn, .int .i64 xu] 55))
            have hbs : w.heap.size ≤ (w1.alloc (.cells #[.int .i64 xd, .int .i64 xq, .string nm, .int .i64 kd, .string wh, .string ao, .string an, .string bo, .string bn, .int .i64 xu] 55)).heap.size := by simp; omega
            clear ho HOB HO6 hs1
            go_upto_region 8 with fail
            rw [← HW1.out]
            go_wp2_with fail
            refine HOC.out.mono ?_
            rintro er w2 ⟨rfl, hw⟩
            have hw2 : w1 = w2 := hw
            subst hw2
            go_wp2_with (first | (at_builtin; refine wpList_app1 (E := encL) rfl slL (.tmp 29) (.tmp 31) rfl (B := w.heap.size) (v := .slice A6 m6 c6) (l := fl) HOA.out rfl (ad := ⟨w1.heap.size, 0, none⟩) (c := 1) ⟨⟨xd, xq, nm, kd, wh, ao, an, bo, bn⟩, xu⟩ rfl HRD.out hfl (by omega) hbs ?_; intro A9 c9 w9 ho9 hg9 he9; have HO9 := hid ho9; have HB9 := hid (HBA.out.grown hg9 hbs (fun g e => (World.ownsRow.lt HOA.out g e).1)); clear ho9 hg9 he9) | go_in)
            rw [HL6.out] at HO9 ⊢
            go_roundw
            case rel => exact ⟨A9, m6 + 1, c9, j + 1, rfl, by go_num, by omega, by omega, hid (by rw [HLS.out, List.length_append, HL6.out]; rfl), hid (by rw [HLS.out]; exact HO9.out), HB9⟩
            case measure => simp [intOf]; omega
          · rw [ho] at HOC HLS
            simp only [if_true] at HLS
            clear ho HOB HO6 hs1
            go_upto_region 8 with fail
            rw [← HW1.out]
            go_wp2_with fail
            refine HOC.out.mono ?_
            rintro er w2 ⟨rfl, hw⟩
            have hw2 : w1 = w2 := hw
            subst hw2
            go_wp2_with fail
            go_roundw
            case rel => exact ⟨A6, m6, c6, j + 1, rfl, by go_num, by omega, by omega, hid (by rw [HLS.out]; exact HL6.out), hid (by rw [HLS.out]; exact HO1.out), HB1⟩
            case measure => simp [intOf]; omega
        · obtain rfl : j = rn := by omega
          have HT : Hid (row.take j = row) := hid (List.take_of_length_le (by rw [HRN.out]; exact Nat.le_refl _))
          rw [HT.out, ← HSV.out] at HO6 HL6
          go_wp2_with fail
          go_roundw
          case rel => exact ⟨A6, m6, c6, i + 1, rfl, by go_num, by omega, by omega, HL6, HO6, HBI⟩
          case measure => simp [intOf]; omega
    · obtain rfl : i = 16 := by omega
      rw [← HHE.out] at HO HL
      go_wp2_with fail
      go_ret
      obtain ⟨A', c', e, h1, h2, -⟩ := HO.out.els
      simp only [Value.slice.injEq] at e
      obtain ⟨rfl, h3, rfl⟩ := e
      exact ⟨_, _, _, rfl, HL.out, by omega, h2, by omega, HO.out, HB.out⟩
end Go.Proofs.Ytkimhdcngagmaaa.Sh
/-
  Whether something holds of some number below n; the first one.
-/
namespace Go.Proofs.Ytkimhdcngagmaaa.Sh

def allN (q : Nat → Bool) : Nat → Bool
  | 0 => true
  | n + 1 => allN q n && q n
theorem allN_iff (q : Nat → Bool) (n : Nat) : allN q n = true ↔ ∀ j, j < n → q j = true := by
  induction n with
  | zero => exact ⟨fun _ j h => absurd h (by omega), fun _ => rfl⟩
  | succ n ih =>
    unfold allN
    rw [Bool.and_eq_true, ih]
    constructor
    · rintro ⟨h1, h2⟩ j hj
      rcases Nat.lt_or_ge j n with h | h
      · exact h1 j h
      · rw [show j = n by omega]; exact h2
    · intro h
      exact ⟨fun j hj => h j (by omega), h n (by omega)⟩
theorem allN_false {q : Nat → Bool} {n j : Nat} (hj : j < n) (h : q j = false) : allN q n = false := by
  rw [Bool.eq_false_iff]
  intro h2
  rw [(allN_iff q n).1 h2 j hj] at h
  cases h
theorem allN_congr {p q : Nat → Bool} {n : Nat} (h : ∀ j, j < n → p j = q j) : allN p n = allN q n := by
  rw [Bool.eq_iff_iff, allN_iff, allN_iff]
  exact ⟨fun k j hj => by rw [← h j hj]; exact k j hj, fun k j hj => by rw [h j hj]; exact k j hj⟩
/-- Is it true of some number below n? -/
def anyN (p : Nat → Bool) (n : Nat) : Bool := !allN (fun j => !p j) n
theorem anyN_true {p : Nat → Bool} {n j : Nat} (hj : j < n) (h : p j = true) : anyN p n = true := by
  unfold anyN
  rw [allN_false hj (by rw [h]; rfl)]; rfl
theorem anyN_none {p : Nat → Bool} {n : Nat} (h : ∀ j, j < n → p j = false) : anyN p n = false := by
  unfold anyN
  rw [(allN_iff _ n).2 (fun j hj => by rw [h j hj]; rfl)]; rfl
theorem anyN_iff (p : Nat → Bool) (n : Nat) : anyN p n = true ↔ ∃ j, j < n ∧ p j = true := by
  constructor
  · intro h
    by_cases hx : ∃ j, j < n ∧ p j = true
    · exact hx
    · rw [anyN_none (fun j hj => by
        cases hp : p j
        · rfl
        · exact absurd ⟨j, hj, hp⟩ hx)] at h
      cases h
  · rintro ⟨j, hj, hp⟩
    exact anyN_true hj hp
/-- The first number below n of which it is true, or -1. -/
def FirstN (p : Nat → Bool) (n : Nat) (i : Int) : Prop := (i = -1 ∧ ∀ j, j < n → p j = false) ∨ ∃ j, j < n ∧ i = (j : Int) ∧ p j = true ∧ ∀ k, k < j → p k = false
theorem FirstN.any {p : Nat → Bool} {n : Nat} {i : Int} (h : FirstN p n i) : decide (0 ≤ i) = anyN p n := by
  rcases h with ⟨rfl, h⟩ | ⟨j, hj, rfl, hp, _⟩
  · rw [anyN_none h]; rfl
  · rw [anyN_true hj hp]; exact decide_eq_true (Int.natCast_nonneg _)
end Go.Proofs.Ytkimhdcngagmaaa.Sh
