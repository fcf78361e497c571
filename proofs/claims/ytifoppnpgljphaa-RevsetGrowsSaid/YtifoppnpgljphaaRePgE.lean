/-
  Whether the numbers of a list are in range and different, by contract: a map of numbers.
-/
import Derived.Test.YtifoppnpgljphaaRePgD
import Derived.Maps.RangeWalk
namespace Go.Proofs.Ytifoppnpgljphaa.Sh
open Go Go.RowKit
open Go.Maps (Keyed)

set_option linter.unusedSimpArgs false
set_option linter.unusedVariables false
theorem lawN : Keyed Try.prog 3 := Go.Maps.int_keyed Try.underlying3
theorem wfN {n : Int} (h : In64 n) : (Lit.int .i64 n).wf = true := by
  obtain ⟨h1, h2⟩ := h
  simp [Lit.wf, IntKind.min, IntKind.max, IntKind.signed, IntKind.bits]
  omega
theorem keyN {z : Int} (h : In64 z) : keyOf Try.prog 3 (.int .i64 z) = some (.int .i64 z) := Go.Maps.keyOf_int_mk Try.underlying3 (wfN h)
theorem zeroU (w : World) : (zeroValue 68).run Try.prog w = .ok (.agg #[]) w := by kernel_rfl
/-- A map of numbers, at block b. -/
def NMap (w : World) (b : Nat) (L : List Int) : Prop := ∃ D : DataW Unit, w.ownsMap Try.prog 3 unitElem b L.length D ∧ ∀ z, In64 z → Maps.has D (.int .i64 z) = decide (z ∈ L)
theorem NMap.new (w : World) : NMap (w.alloc (.map #[] 0)) w.heap.size [] := ⟨_, World.ownsMap_made w _ _ _, fun z _ => by simp [Maps.has]⟩
theorem NMap.at' {w w' : World} {b : Nat} {L : List Int} (h : NMap w b L) (hb : w'.heap[b]? = w.heap[b]?) : NMap w' b L := by
  obtain ⟨D, ⟨es, clock, h1, r⟩, h2⟩ := h
  exact ⟨D, ⟨es, clock, hb.trans h1, r⟩, h2⟩
theorem NMap.lt {w : World} {b : Nat} {L : List Int} (h : NMap w b L) : b < w.heap.size := by obtain ⟨D, h1, _⟩ := h; exact h1.lt
theorem NMap.below {w w' : World} {b : Nat} {L : List Int} (h : NMap w b L) (hb : Below w.heap.size w w') : NMap w' b L := h.at' (hb.block b h.lt)
theorem NMap.look {w : World} {b : Nat} {L : List Int} (h : NMap w b L) {z : Int} (hz : In64 z) : (Instr.lookup 67 (.map (some b)) (.int .i64 z) true).run Try.prog w = .ok (.tuple #[.agg #[], .bool (decide (z ∈ L))]) w := by
  obtain ⟨D, h1, h2⟩ := h
  obtain ⟨v, ps, hrun, hv⟩ := h1.look_ok lawN Try.underlying67 (zeroU w) (unitElem_mk (H := Unit)) (keyN hz)
  obtain ⟨rfl, _⟩ := unitElem_inv hv
  rw [hrun, h2 z hz]
theorem NMap.add {w : World} {b : Nat} {L : List Int} (h : NMap w b L) {z : Int} (hz : In64 z) (hl : L.length < 1000000) :
    ∃ w', (Instr.mapUpdate 67 (.map (some b)) (.int .i64 z) (.agg #[])).run Try.prog w = .ok () w' ∧ NMap w' b (L ++ [z]) ∧ w.grownBy w' (some b) := by
  obtain ⟨D, h1, h2⟩ := h
  obtain ⟨w', hrun, ho, hg⟩ := h1.update lawN Try.underlying67 (by unfold maxLen; omega) (keyN hz) (unitElem_mk (H := Unit))
  refine ⟨w', hrun, ⟨_, by rw [List.length_append, List.length_singleton]; exact ho, fun q hq => ?_⟩, hg⟩
  by_cases e : q = z
  · subst e
    rw [Maps.has_put_same h1.isMap (lawN.key (keyN hz))]
    simp
  · rw [Maps.has_put_other (fun e' => e (by injection e')), h2 q hq]
    simp [e]
def DiffL (l : List Int) : Prop := (∀ z ∈ l, 1 ≤ z ∧ z ≤ 4000) ∧ l.Nodup
theorem DiffL.take {l : List Int} (h : DiffL l) (k : Nat) : DiffL (l.take k) := ⟨fun z hz => h.1 z (List.mem_of_mem_take hz), h.2.sublist (List.take_sublist _ _)⟩
theorem DiffL.snoc {l : List Int} {z : Int} (h : DiffL l) (h1 : 1 ≤ z ∧ z ≤ 4000) (h2 : z ∉ l) : DiffL (l ++ [z]) := by
  refine ⟨fun y hy => ?_, ?_⟩
  · rcases List.mem_append.1 hy with h3 | h3
    · exact h.1 y h3
    · rw [List.mem_singleton.1 h3]; exact h1
  · rw [List.nodup_append]
    refine ⟨h.2, by simp, fun a ha b hb e => ?_⟩
    rw [List.mem_singleton.1 hb] at e
    exact h2 (e ▸ ha)
open Classical in
set_option maxHeartbeats 4000000 in
theorem different_any (A : Option Addr) (l : List Int) (n c : Nat) (hn : l.length = n) (hm : n ≤ 32) (h64 : ∀ z ∈ l, In64 z) (w : World) (h : Els encN w w.heap.size A l) :
    Calls Try.prog 47 #[.slice A n c] w fun e w' => e = .returned (.bool (decide (DiffL l))) ∧ Below w.heap.size w w' := by
  have hmm := @run_makeMap Try.prog
  have HN := hid hn
  have HX := hid (fun W (hW : Below w.heap.size w W) => h.below hW)
  have H64 := hid h64
  have HM0 := hid (NMap.new w)
  have HB0 := hid ((Below.refl w.heap.size w).alloc (Nat.le_refl _) (.map #[] 0))
  clear h hn h64
  go_enter Try.func47, Try.ntmps47
  go_wp2_with fail
  go_loopw [11] (fun i wr => ∃ k : Nat, k ≤ n ∧ i = .int .i64 (k : Int) ∧ Hid (DiffL (l.take k)) ∧ Hid (NMap wr w.heap.size (l.take k)) ∧ Hid (Below w.heap.size w wr)) (fun i _ => n - (intOf i).toNat)
  case atStart => exact ⟨0, Nat.zero_le _, rfl, hid ⟨by simp, by simp⟩, HM0, HB0⟩
  case round =>
    clear HM0 HB0
    obtain ⟨wj, hwj⟩ : ∃ x, x = wr := ⟨_, rfl⟩
    subst hwj
    obtain ⟨k, hk, rfl, HD, HM, HB⟩ := hrel
    have hk0 : (0 : Int) ≤ (k : Int) := Int.natCast_nonneg _
    by_cases hlt : k < n
    · obtain ⟨x, hx⟩ : ∃ x, l[k]? = some x := ⟨_, List.getElem?_eq_getElem (by rw [HN.out]; exact hlt)⟩
      obtain ⟨ad, rfl, hab, ha⟩ := (HX.out wj HB.out).num hx
      have HXX := hid hx
      have hk1 : (k : Int) < (n : Int) := by omega
      have hx64 := H64.out x (List.mem_of_getElem? hx)
      have hlk := HM.out.look hx64
      have HW := hid (fun W => within_any x 4000 W)
      have HBA := hid (HB.out.alloc HB.out.size (.cells #[] 68))
      have HMA := hid (HM.out.below ((Below.refl wj.heap.size wj).alloc (Nat.le_refl _) (.cells #[] 68)))
      have HTK : Hid (l.take (k + 1) = l.take k ++ [x]) := hid (take_snoc_of HXX.out)
      have HLE : Hid ((l.take k).length < 1000000) := hid (by rw [List.length_take]; omega)
      clear hx hab
      by_cases hin : x ∈ l.take k
      · have HE : Hid (decide (DiffL l) = false) := hid (decide_eq_false (fun hd => by
          have h1 := (hd.take (k + 1)).2
          rw [HTK.out, List.nodup_append] at h1
          exact h1.2.2 x hin x (by simp) rfl))
        rw [decide_eq_true hin] at hlk
        clear hin
        go_wp2_with fail
        go_ret
        exact ⟨by rw [HE.out]; rfl, HBA.out⟩
      · rw [decide_eq_false hin] at hlk
        by_cases hr : 1 ≤ x ∧ x ≤ 4000
        · have HW1 : Hid (∀ W : World, Calls Try.prog 38 #[.int .i64 x, .int .i64 4000] W fun e w' => e = .returned (.bool true) ∧ W = w') := hid (fun W => by have h := HW.out W; rw [decide_eq_true hr] at h; exact h)
          have HD2 : Hid (DiffL (l.take (k + 1))) := hid (by rw [HTK.out]; exact HD.out.snoc hr hin)
          obtain ⟨w5, run5, m5, g5⟩ := HMA.out.add hx64 HLE.out
          have M5 : Hid (NMap w5 w.heap.size (l.take (k + 1))) := hid (by rw [HTK.out]; exact m5)
          have B5 := hid (HBA.out.grown g5 HBA.out.size (fun b e => by injection e with e; subst e; exact Nat.le_refl _))
          clear hin hr m5 g5
          go_wp2_with fail
          refine (HW1.out _).mono ?_
          rintro er w2 ⟨rfl, hw⟩
          have hw2 : wj.alloc (.cells #[] 68) = w2 := hw
          subst hw2
          clear hw
          go_wp2_with fail
          go_roundw
          case rel => exact ⟨k + 1, by omega, by go_num, HD2, M5, B5⟩
          case measure => simp [intOf]; omega
        · have HW1 : Hid (∀ W : World, Calls Try.prog 38 #[.int .i64 x, .int .i64 4000] W fun e w' => e = .returned (.bool false) ∧ W = w') := hid (fun W => by have h := HW.out W; rw [decide_eq_false hr] at h; exact h)
          have HE : Hid (decide (DiffL l) = false) := hid (decide_eq_false (fun hd => hr (hd.1 x (List.mem_of_getElem? HXX.out))))
          clear hin hr
          go_wp2_with fail
          refine (HW1.out _).mono ?_
          rintro er w2 ⟨rfl, hw⟩
          have hw2 : wj.alloc (.cells #[] 68) = w2 := hw
          subst hw2
          clear hw
          go_wp2_with fail
          go_ret
          exact ⟨by rw [HE.out]; rfl, HBA.out⟩
    · obtain rfl : k = n := by omega
      have HE : Hid (decide (DiffL l) = true) := hid (decide_eq_true (by have := HD.out; rwa [List.take_of_length_le (by rw [HN.out]; exact Nat.le_refl _)] at this))
      go_wp2_with fail
      go_ret
      exact ⟨by rw [HE.out]; rfl, HB.out⟩
end Go.Proofs.Ytifoppnpgljphaa.Sh
