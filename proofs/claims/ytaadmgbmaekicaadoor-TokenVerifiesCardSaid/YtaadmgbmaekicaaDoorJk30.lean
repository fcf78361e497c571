/-
  The program's own between, local, filled, May and Role of a credential, by contract.
-/
import Derived.Test.YtaadmgbmaekicaaDoorJk8
import Derived.Test.YtaadmgbmaekicaaDoorJk29
set_option linter.unusedVariables false
set_option linter.unusedSimpArgs false
namespace Go.Proofs.YtaadmgbmaekicaaDoor.Sh
open Go Go.RowKit

/-- What filled answers where it looks at a role or a name first. -/
theorem kind_1 {d q : Int} {nm wh ao an bo bn : ByteArray} : kindOk ⟨d, q, nm, 1, wh, ao, an, bo, bn⟩ = (mayB wh && decide (ao = E0 ∧ an = E0) && decide (bo = E0 ∧ bn = E0)) := rfl
theorem kind_2 {d q : Int} {nm wh ao an bo bn : ByteArray} : kindOk ⟨d, q, nm, 2, wh, ao, an, bo, bn⟩ = (decide (wh = E0) && (roleB ao an && decide (bo = E0 ∧ bn = E0))) := rfl
theorem kind_3 {d q : Int} {nm wh ao an bo bn : ByteArray} : kindOk ⟨d, q, nm, 3, wh, ao, an, bo, bn⟩ = (decide (wh = E0) && ((mayB an && decide (ao = E0)) && (mayB bn && decide (bo = E0)))) := rfl
theorem kind_4 {d q : Int} {nm wh ao an bo bn : ByteArray} : kindOk ⟨d, q, nm, 4, wh, ao, an, bo, bn⟩ = (decide (wh = E0) && (roleB ao an && roleB bo bn)) := rfl
theorem kind_5 {d q kd : Int} {nm wh ao an bo bn : ByteArray} (h1 : kd ≠ 1) (h2 : kd ≠ 2) (h3 : kd ≠ 3) (h4 : kd ≠ 4) : kindOk ⟨d, q, nm, kd, wh, ao, an, bo, bn⟩ = false := by
  unfold kindOk
  simp only
  rw [if_neg h1, if_neg h2, if_neg h3, if_neg h4, Bool.and_false]
end Go.Proofs.YtaadmgbmaekicaaDoor.Sh
/-
  The program's own May, Role and Before, by contract.
-/
namespace Go.Proofs.YtaadmgbmaekicaaDoor.Sh
open Go Go.RowKit

theorem mayC_parts (c : Crd) : mayC c = ((decide (1 ≤ c.d ∧ c.d ≤ 16) && decide (1 ≤ c.q ∧ c.q ≤ 4000)) && mayL c.nm.data.toList && kindOk c) := by
  unfold mayC headOk mayB
  have h : decide (1 ≤ c.d ∧ c.d ≤ 16 ∧ 1 ≤ c.q ∧ c.q ≤ 4000) = (decide (1 ≤ c.d ∧ c.d ≤ 16) && decide (1 ≤ c.q ∧ c.q ≤ 4000)) := by
    rw [Bool.eq_iff_iff]; simp only [decide_eq_true_eq, Bool.and_eq_true]; omega
  rw [h]
theorem before_any (d q d' q' : Int) (w : World) : Calls Tryd.prog 79 #[.agg #[.int .i64 d, .int .i64 q], .agg #[.int .i64 d', .int .i64 q']] w fun er w' => er = .returned (.bool (beforeI d q d' q')) ∧ Below w.heap.size w w' := by
  by_cases h : d = d'
  · subst h
    have hb : (d == d) = true := by simp
    by_cases hq : q < q'
    · have HE : Hid (beforeI d q d q' = true) := hid (by unfold beforeI; simp; omega)
      go_enter Tryd.func79, Tryd.ntmps79
      go_wp2
      go_ret
      exact ⟨by rw [HE.out]; rfl, below_id2 _ _ _ _ _⟩
    · have HE : Hid (beforeI d q d q' = false) := hid (by unfold beforeI; simp; omega)
      go_enter Tryd.func79, Tryd.ntmps79
      go_wp2
      go_ret
      exact ⟨by rw [HE.out]; rfl, below_id2 _ _ _ _ _⟩
  · have hb : (d == d') = false := beq_eq_false_iff_ne.2 h
    by_cases hq : d < d'
    · have HE : Hid (beforeI d q d' q' = true) := hid (by unfold beforeI; simp; omega)
      go_enter Tryd.func79, Tryd.ntmps79
      go_wp2
      go_ret
      exact ⟨by rw [HE.out]; rfl, below_id2 _ _ _ _ _⟩
    · have HE : Hid (beforeI d q d' q' = false) := hid (by unfold beforeI; simp; omega)
      go_enter Tryd.func79, Tryd.ntmps79
      go_wp2
      go_ret
      exact ⟨by rw [HE.out]; rfl, below_id2 _ _ _ _ _⟩

end Go.Proofs.YtaadmgbmaekicaaDoor.Sh
