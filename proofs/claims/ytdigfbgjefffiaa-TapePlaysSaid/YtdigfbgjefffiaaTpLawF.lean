/-
  The walk of TapeRoom. Written by mk_tproom.py.
-/
import Derived.Test.YtdigfbgjefffiaaTpLawA
import Derived.Test.YtdigfbgjefffiaaBaNum
namespace Go.Proofs.Ytdigfbgjefffiaa.Sh
open Go Go.RowKit

set_option linter.unusedSimpArgs false
set_option linter.unusedVariables false
def zeros (k : Nat) : List UInt8 := List.replicate k 0
theorem makeB (k : Nat) (hk : k ≤ 70000) (w : World) : (Instr.makeSlice 28 (.int .i64 (k : Int)) (.int .i64 (k : Int))).run Try.prog w = .ok (.slice (some ⟨w.heap.size, 0, none⟩) k k) (w.alloc (.cells (bv (zeros k)).toArray 5)) := by
  obtain ⟨i0, hi0, hz0, hz1, hz2⟩ := info_parts (P := Try.prog) (e := 5) (z := .int .u8 0) (size := 1) (bytes := 1) (by kernel_rfl)
  have h := run_make (P := Try.prog) w 28 5 i0 (.int .u8 0) Try.underlying28 hi0 hz0 .i64 .i64 (k : Int) (k : Int) (by omega) (Int.le_refl _) (by rw [hz2]; omega) (by omega)
  rw [h]
  have h2 : madeCells (Value.int .u8 0).cells ((k : Int).toNat * i0.size) = (bv (zeros k)).toArray := by
    rw [hz1, Nat.mul_one, Int.toNat_natCast]
    refine Array.ext (by simp [size_madeCells, zeros, bv]) fun i h1 h2 => ?_
    simp [madeCells, zeros, bv, Value.cells, Nat.mod_one]
  rw [h2]
  simp
/-- As many bytes as there are units, all on side 1. -/
def Room (S : TS) (N : Nat) : Prop := S.bn = false ∧ S.us.length = N ∧ (S.now 1).length = N ∧ N ≤ 65536
theorem Room.new : Room TS.new 0 := ⟨rfl, rfl, rfl, by omega⟩
theorem Room.ready {S : TS} {N : Nat} (h : Room S N) : S.ready 1 = 0 := by
  unfold TS.ready
  rw [if_neg (by omega), if_neg (fun h2 => by rw [h.1] at h2; cases h2.1)]
theorem Room.read {S : TS} {N : Nat} (h : Room S N) : S.read 1 = (S.now 1, 0) := by unfold TS.read; rw [if_neg (by simp [h.ready])]
theorem Room.full {S : TS} {N : Nat} (h : Room S N) {k : Nat} (hk : 65536 < N + k) : S.write 1 (zeros k) = (S, 42) := by
  unfold TS.write
  rw [if_neg (by simp [h.ready]), if_pos (by rw [h.2.2.1]; unfold zeros; rw [List.length_replicate]; exact hk)]
theorem Room.more {S : TS} {N : Nat} (h : Room S N) {k : Nat} (hk : ¬ 65536 < N + k) : ∃ S', S.write 1 (zeros k) = (S', 0) ∧ Room S' (N + k) := by
  have hl : (zeros k).length = k := by unfold zeros; rw [List.length_replicate]
  refine ⟨_, by unfold TS.write; rw [if_neg (by simp [h.ready]), if_neg (by rw [h.2.2.1, hl]; exact hk)], ?_, ?_, ?_, by omega⟩
  · simp only [TS.burn_bn]; exact h.1
  · simp only [List.length_append, TS.unitsW_length, h.2.1, hl]
  · have e : (TS.mk S.burn.s0 S.burn.s1 (S.us ++ TS.unitsW 1 (zeros k)) S.burn.bn S.burn.lf).now 1 = S.now 1 ++ zeros k := by
      unfold TS.now TS.safe
      simp only [TS.burn_s0, TS.burn_s1]
      rw [doneU_append, TS.doneU_write]
    show (TS.now _ 1).length = _
    rw [e, List.length_append, h.2.2.1, hl]
set_option maxHeartbeats 8000000 in
theorem tapeRoom_walk (A : Option Addr) (l : List Int) (n c : Nat) (hn : l.length = n) (hc : n ≤ c) (hc2 : c ≤ 9223372036854775807) (hz : ∀ z ∈ l, -9223372036854775808 ≤ z ∧ z < 9223372036854775808) (w : World) (h : Els encN w w.heap.size A l) :
    Calls Try.prog 4 #[.slice A n c] w fun e w' => e = .returned (.bool true) ∧ Below w.heap.size w w' := by
  have HN := hid hn
  have HDD := hid (fun W (hW : Below w.heap.size w W) => h.below hW)
  have H1 := hid (LT.new w w (Below.refl _ _) (fun b => b < w.heap.size) (fun _ h => h))
  have HZ := hid hz
  clear h hn hz
  go_enter Try.func4, Try.ntmps4
  go_wp2_with fail
  refine H1.out.mono ?_
  rintro er w1 ⟨gs, rfl, l1, s1⟩
  have HL1 := hid l1
  clear l1 s1
  go_wp2_with fail
  go_loopw [4, 5] (fun v i wr => ∃ (k N : Nat) (S : TS), k ≤ n ∧ k ≤ 6 ∧ v = .int .i64 (N : Int) ∧ i = .int .i64 (k : Int) ∧ Hid (LT w wr (fun b => b < w.heap.size) gs S) ∧ Hid (Room S N)) (fun _ i _ => n - (intOf i).toNat)
  case atStart => exact ⟨0, 0, TS.new, by omega, by omega, rfl, rfl, HL1, hid Room.new⟩
  case round =>
    obtain ⟨wj, hwj⟩ : ∃ x, x = wr := ⟨_, rfl⟩
    subst hwj
    obtain ⟨k, N, S, hk, hk6, rfl, rfl, HL, HRM⟩ := hrel
    have hk0 : (0 : Int) ≤ (k : Int) := Int.natCast_nonneg _
    have hN0 : (0 : Int) ≤ (N : Int) := Int.natCast_nonneg _
    have hN6 : (N : Int) ≤ 65536 := by have := HRM.out.2.2.2; omega
    by_cases hlt : k < n
    · have hk1 : (k : Int) < (n : Int) := by omega
      by_cases hl6 : k < 6
      · have hk2 : (k : Int) < 6 := by omega
        obtain ⟨z, hx⟩ : ∃ z, l[k]? = some z := ⟨_, List.getElem?_eq_getElem (by rw [HN.out]; exact hlt)⟩
        obtain ⟨ad, rfl, had, hcell⟩ := (HDD.out wj HL.out.bel).num hx
        obtain ⟨z0, z1⟩ := HZ.out z (List.mem_of_getElem? hx)
        have HPK := hid (pick_any z z0 z1 70000 (by omega) (by omega) wj)
        obtain ⟨m, hm, hm7⟩ : ∃ m : Nat, pk z 70000 = (m : Int) ∧ m < 70000 := by
          have h1 := Int.emod_lt_of_pos (if z < 0 then -(z + 1) else z) (show (0 : Int) < 70000 by omega)
          have h2 := Int.emod_nonneg (if z < 0 then -(z + 1) else z) (show (70000 : Int) ≠ 0 by omega)
          exact ⟨(pk z 70000).toNat, by unfold pk; omega, by unfold pk; omega⟩
        rw [hm] at HPK
        have hmk := makeB m (by omega) wj
        have hzl : (zeros m).length = m := by unfold zeros; rw [List.length_replicate]
        obtain ⟨L2, s2, hy⟩ := HL.out.lit (zeros m) 5 (0, 0)
        have hm0 : (0 : Int) ≤ (m : Int) := Int.natCast_nonneg _
        have hm70 : (m : Int) < 70000 := by omega
        have HWR := hid (L2.write (by have := HRM.out.2.1; have := HRM.out.2.2.2; omega) 1 hzl (Nat.le_refl _) (by omega) hy)
        have hus := HRM.out.2.1
        clear L2 s2 hy hx had hm hzl z0 z1
        by_cases hf : 65536 < N + m
        · rw [HRM.out.full hf] at HWR
          have hf1 : decide ((N : Int) + (m : Int) ≤ 65536) = false := decide_eq_false (by omega)
          clear hf
          go_wp2_with fail
          refine HPK.out.mono ?_
          rintro er w2 ⟨rfl, rfl⟩
          go_wp2_with fail
          refine HWR.out.mono ?_
          rintro er w3 ⟨rfl, l3, s3⟩
          have HL3 := hid (l3.less (M := fun b => b < w.heap.size) (fun x hx => .inl hx))
          clear l3 s3 hmk
          go_wp2_with fail
          go_roundw
          case rel => exact ⟨k + 1, N, S, by omega, by omega, rfl, by go_num, HL3, HRM⟩
          case measure => simp [intOf]; omega
        · obtain ⟨S', hS', hrm'⟩ := HRM.out.more hf
          rw [hS'] at HWR
          have hf1 : decide ((N : Int) + (m : Int) ≤ 65536) = true := decide_eq_true (by omega)
          have HRM' := hid hrm'
          clear hf hS' hrm'
          go_wp2_with fail
          refine HPK.out.mono ?_
          rintro er w2 ⟨rfl, rfl⟩
          go_wp2_with fail
          refine HWR.out.mono ?_
          rintro er w3 ⟨rfl, l3, s3⟩
          have HL3 := hid (l3.less (M := fun b => b < w.heap.size) (fun x hx => .inl hx))
          clear l3 s3 hmk
          go_wp2_with fail
          go_roundw
          case rel => exact ⟨k + 1, N + m, S', by omega, by omega, by go_num, by go_num, HL3, HRM'⟩
          case measure => simp [intOf]; omega
      · have hk2 : ¬ (k : Int) < 6 := by omega
        have HRD := hid (HL.out.read (by have := HRM.out.2.1; have := HRM.out.2.2.2; omega) 1)
        rw [HRM.out.read] at HRD
        have HNW := hid HRM.out.2.2.1
        have HUN := hid (fun (W : World) (N' : Nat → Prop) (L : LT w W N' gs S) => L.units (by have := HRM.out.2.1; have := HRM.out.2.2.2; omega))
        have HUE := hid HRM.out.2.1
        rw [HUE.out] at HUN
        go_wp2_with fail
        refine HRD.out.mono ?_
        rintro er w4 ⟨A4, n4, c4, rfl, l4, e4, o4, L4, s4⟩
        obtain rfl : n4 = N := e4.symm.trans HNW.out
        have HL4 := hid L4
        clear l4 e4 o4 L4 s4
        have HU4 := hid (HUN.out w4 _ HL4.out)
        have HBF := hid HL4.out.bel
        go_wp2_with fail
        refine HU4.out.mono ?_
        rintro er w7 ⟨rfl, rfl⟩
        go_wp2_with fail
        refine (lives_any _).mono ?_
        rintro er w9 ⟨rfl, b9⟩
        have HBG := hid (HBF.out.trans (b9.mono HBF.out.size))
        go_wp2
        go_ret
        exact ⟨rfl, HBG.out⟩
    · obtain rfl : k = n := by omega
      have HRD := hid (HL.out.read (by have := HRM.out.2.1; have := HRM.out.2.2.2; omega) 1)
      rw [HRM.out.read] at HRD
      have HNW := hid HRM.out.2.2.1
      have HUN := hid (fun (W : World) (N' : Nat → Prop) (L : LT w W N' gs S) => L.units (by have := HRM.out.2.1; have := HRM.out.2.2.2; omega))
      have HUE := hid HRM.out.2.1
      rw [HUE.out] at HUN
      go_wp2_with fail
      refine HRD.out.mono ?_
      rintro er w4 ⟨A4, n4, c4, rfl, l4, e4, o4, L4, s4⟩
      obtain rfl : n4 = N := e4.symm.trans HNW.out
      have HL4 := hid L4
      clear l4 e4 o4 L4 s4
      have HU4 := hid (HUN.out w4 _ HL4.out)
      have HBF := hid HL4.out.bel
      go_wp2_with fail
      refine HU4.out.mono ?_
      rintro er w7 ⟨rfl, rfl⟩
      go_wp2_with fail
      refine (lives_any _).mono ?_
      rintro er w9 ⟨rfl, b9⟩
      have HBG := hid (HBF.out.trans (b9.mono HBF.out.size))
      go_wp2
      go_ret
      exact ⟨rfl, HBG.out⟩
end Go.Proofs.Ytdigfbgjefffiaa.Sh
