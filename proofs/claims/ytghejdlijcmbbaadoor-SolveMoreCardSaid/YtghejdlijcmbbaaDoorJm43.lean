/-
  The document's own In, by contract.
-/
import Derived.Test.YtghejdlijcmbbaaDoorJm42
set_option linter.unusedVariables false
set_option linter.unusedSimpArgs false
namespace Go.Proofs.YtghejdlijcmbbaaDoor.Sh
open Go Go.RowKit

set_option linter.unusedSimpArgs false
set_option linter.unusedVariables false
theorem inne {a b : ByteArray} (h : a ≠ b) : ¬ a.toList = b.toList ∧ (a.toList == b.toList) = false := by
  have : ¬ a.toList = b.toList := fun e => h (ba_eq (by rw [← Lib.toList_data, ← Lib.toList_data, e]))
  exact ⟨this, beq_eq_false_iff_ne.2 this⟩
set_option maxHeartbeats 4000000 in
theorem in_any (A : Option Addr) (l : List Pr) (n c : Nat) (hn : l.length = n) (hm : n ≤ 1000000000) (o nm who : ByteArray) (w : World) (h : Els encP w w.heap.size A l) :
    Calls Tryd.prog 6 #[.slice A n c, .agg #[.string o, .string nm, .string who]] w fun e w' => e = .returned (.bool (decide (((o, nm), who) ∈ l))) ∧ Below w.heap.size w w' := by
  have HN := hid hn
  have HY := hid h
  obtain ⟨w1, hw1⟩ : ∃ w1, w1 = w.alloc (.cells #[.string o, .string nm, .string who] 31) := ⟨_, rfl⟩
  obtain ⟨bd, hbd⟩ : ∃ bd, bd = (⟨w.heap.size, 0, none⟩ : Addr) := ⟨_, rfl⟩
  have q1 : Below w.heap.size w w1 := by rw [hw1]; exact (Below.refl _ _).alloc (Nat.le_refl _) _
  have hz1 : w1.heap.size = w.heap.size + 1 := by rw [hw1]; simp
  have r1 : ∀ W, Below w1.heap.size w1 W → W.cell? bd = some (.string o) ∧ W.cell? ⟨bd.block, bd.off + 1, none⟩ = some (.string nm) ∧ W.cell? ⟨bd.block, bd.off + 2, none⟩ = some (.string who) := fun W hW => by
    obtain ⟨ad, e, hc⟩ := reads_new w #[.string o, .string nm, .string who] 31 (0, 0) (by simp)
    injection e with e
    subst e
    rw [← hw1] at hc
    subst hbd
    have hb : ∀ k, (⟨w.heap.size, k, none⟩ : Addr).block < w1.heap.size := fun k => by rw [hz1]; exact Nat.lt_succ_self _
    exact ⟨(hW.cell (hb 0)).trans (hc 0 _ rfl), (hW.cell (hb 1)).trans (hc 1 _ rfl), (hW.cell (hb 2)).trans (hc 2 _ rfl)⟩
  have HR := hid r1
  have HQ := hid q1
  clear hn h q1 hz1 r1
  go_enter Tryd.func6, Tryd.ntmps6
  go_wp2_with fail
  rw [← hw1, ← hbd]
  clear hw1 hbd
  go_loopw [5] (fun i wr => ∃ j : Nat, j ≤ n ∧ i = .int .i64 j ∧ Hid (((o, nm), who) ∉ l.take j) ∧ Hid (∃ q, wr = w1.drewN q)) (fun i _ => n - (intOf i).toNat)
  case atStart => exact ⟨0, Nat.zero_le _, rfl, hid (by simp), hid ⟨0, rfl⟩⟩
  case round =>
    obtain ⟨j, hj, rfl, HNI, hw⟩ := hrel
    have hwr : Below w1.heap.size w1 wr := by obtain ⟨q, rfl⟩ := hw.out; exact below_drewN (Below.refl _ _) q
    by_cases hlt : j < n
    · obtain ⟨⟨⟨o2, nm2⟩, who2⟩, hx⟩ : ∃ x, l[j]? = some x := ⟨_, List.getElem?_eq_getElem (by rw [HN.out]; exact hlt)⟩
      obtain ⟨ad, aj, rfl, -, ea, -, a0, ai⟩ := ((HY.out.below HQ.out).below (hwr.mono HQ.out.size)).get hx
      have a0 := a0 _ rfl
      have a1 := ai 1 _ (by omega) rfl
      have a2 := ai 2 _ (by omega) rfl
      have ea : ad.add (j * 3) = aj := ea
      obtain ⟨b0, b1, b2⟩ := HR.out wr hwr
      have hk0 : (0 : Int) ≤ (j : Int) := Int.natCast_nonneg _
      have hk1 : (j : Int) < (n : Int) := by omega
      have HX := hid hx
      have HT : Hid (((o, nm), who) ≠ ((o2, nm2), who2) → ((o, nm), who) ∉ l.take (j + 1)) := hid (fun hne => by
        rw [take_snoc_of HX.out, List.mem_append, List.mem_singleton]
        rintro (h1 | h1)
        · exact HNI.out h1
        · exact hne h1)
      have HM : Hid (((o2, nm2), who2) ∈ l) := hid (List.mem_of_getElem? HX.out)
      clear hx hwr ai
      by_cases ho : o2 = o
      · subst ho
        by_cases hnm : nm2 = nm
        · subst hnm
          by_cases hwh : who2 = who
          · subst hwh
            go_wp2_with fail
            go_quiet (fail)
            go_wp2
            go_ret
            exact ⟨by rw [decide_eq_true HM.out]; rfl, by
              obtain ⟨q, rfl⟩ := hw.out
              exact below_drewN (below_drewN HQ.out q) _⟩
          · have HT2 := hid (HT.out (by intro e; simp only [Prod.mk.injEq] at e; exact hwh (by rw [e.2])))
            obtain ⟨x1, x2⟩ := inne hwh
            clear hwh
            go_wp2_with fail
            go_quiet (fail)
            go_wp2
            go_roundw
            case rel => exact ⟨j + 1, by omega, by go_num, HT2, by
              obtain ⟨q, rfl⟩ := hw.out
              exact hid ⟨q + nq, World.drewN_drewN _ _ _⟩⟩
            case measure => simp [intOf]; omega
        · have HT2 := hid (HT.out (by intro e; simp only [Prod.mk.injEq] at e; exact hnm (by rw [e.1.2])))
          obtain ⟨x1, x2⟩ := inne hnm
          clear hnm
          go_wp2_with fail
          go_quiet (fail)
          go_wp2
          go_roundw
          case rel => exact ⟨j + 1, by omega, by go_num, HT2, by
            obtain ⟨q, rfl⟩ := hw.out
            exact hid ⟨q + nq, World.drewN_drewN _ _ _⟩⟩
          case measure => simp [intOf]; omega
      · have HT2 := hid (HT.out (by intro e; simp only [Prod.mk.injEq] at e; exact ho (by rw [e.1.1])))
        obtain ⟨x1, x2⟩ := inne ho
        clear ho
        go_wp2_with fail
        go_quiet (fail)
        go_wp2
        go_roundw
        case rel => exact ⟨j + 1, by omega, by go_num, HT2, by
          obtain ⟨q, rfl⟩ := hw.out
          exact hid ⟨q + nq, World.drewN_drewN _ _ _⟩⟩
        case measure => simp [intOf]; omega
    · obtain rfl : j = n := by omega
      go_wp2
      go_ret
      exact ⟨by rw [decide_eq_false (by have := HNI.out; rwa [List.take_of_length_le (by rw [HN.out]; exact Nat.le_refl _)] at this)]; rfl, by
        obtain ⟨q, rfl⟩ := hw.out
        exact below_drewN HQ.out q⟩
end Go.Proofs.YtghejdlijcmbbaaDoor.Sh
