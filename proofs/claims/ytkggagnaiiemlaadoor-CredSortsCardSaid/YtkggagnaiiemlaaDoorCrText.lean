/-
  Credentials: unlike ones have unlike texts, but for their Seq. Plain lemmas.
-/
import Derived.Test.YtkggagnaiiemlaaDoorCrMath2
namespace Go.Proofs.YtkggagnaiiemlaaDoor.Sh
open Go Go.RowKit

theorem role_count {o n : List UInt8} (h : roleL o n = true) (s : UInt8) (hs : letter s = false) (hs2 : digit s = false) : o.count s = 0 ∧ n.count s = 0 := by
  unfold roleL at h
  simp only [Bool.and_eq_true, decide_eq_true_eq] at h
  obtain ⟨g1, g2, g3⟩ := domL_numL _ h.2
  refine ⟨?_, may_count h.1 s hs hs2⟩
  rw [← g1]
  exact dom_count _ (by omega) (by omega) s hs hs2
theorem l46 : letter 46 = false := rfl
theorem d46 : digit 46 = false := rfl
theorem l32 : letter 32 = false := rfl
theorem d32 : digit 32 = false := rfl
theorem textBody_1 {c : Crd} (h : c.kd = 1) : textBody c = c.wh.data.toList := by unfold textBody; rw [if_pos h]
theorem textBody_2 {c : Crd} (h : c.kd = 2) : textBody c = c.ao.data.toList ++ 46 :: c.an.data.toList := by unfold textBody; rw [if_neg (by omega), if_pos h, textB_list]
theorem textBody_3 {c : Crd} (h : c.kd = 3) : textBody c = domL c.d ++ 46 :: (c.an.data.toList ++ 46 :: c.bn.data.toList) := by unfold textBody; rw [if_neg (by omega), if_neg (by omega), if_pos h]
theorem textBody_4 {c : Crd} (h : c.kd = 4) : textBody c = c.ao.data.toList ++ 46 :: (c.an.data.toList ++ 32 :: 38 :: 32 :: (c.bo.data.toList ++ 46 :: c.bn.data.toList)) := by
  unfold textBody; rw [if_neg (by omega), if_neg (by omega), if_neg (by omega), if_pos h, textB_list, textB_list]; simp
theorem body_counts {c : Crd} (h : mayC c = true) : (textBody c).count 46 = (if c.kd = 1 then 0 else if c.kd = 2 then 1 else 2) ∧ (textBody c).count 32 = (if c.kd = 4 then 2 else 0) := by
  obtain ⟨h1, h2, h3, h4, h5⟩ := may_head h
  unfold textBody
  rcases may_kind h with ⟨k, m1, -, -, -, -⟩ | ⟨k, -, m1, -, -⟩ | ⟨k, -, -, m1, -, m2⟩ | ⟨k, -, m1, m2⟩
  · rw [if_pos k, if_pos k, if_neg (by omega)]
    exact ⟨may_count m1 46 l46 d46, may_count m1 32 l32 d32⟩
  · obtain ⟨a1, a2⟩ := role_count m1 46 l46 d46
    obtain ⟨b1, b2⟩ := role_count m1 32 l32 d32
    rw [if_neg (by omega), if_pos k, if_neg (by omega), if_pos k, if_neg (by omega), textB_list]
    simp [List.count_append, a1, a2, b1, b2]
  · have a1 := may_count m1 46 l46 d46
    have a2 := may_count m2 46 l46 d46
    have a3 := dom_count c.d h1 h2 46 l46 d46
    have b1 := may_count m1 32 l32 d32
    have b2 := may_count m2 32 l32 d32
    have b3 := dom_count c.d h1 h2 32 l32 d32
    rw [if_neg (by omega), if_neg (by omega), if_pos k, if_neg (by omega), if_neg (by omega), if_neg (by omega)]
    simp [List.count_append, a1, a2, a3, b1, b2, b3]
  · obtain ⟨a1, a2⟩ := role_count m1 46 l46 d46
    obtain ⟨b1, b2⟩ := role_count m1 32 l32 d32
    obtain ⟨a3, a4⟩ := role_count m2 46 l46 d46
    obtain ⟨b3, b4⟩ := role_count m2 32 l32 d32
    rw [if_neg (by omega), if_neg (by omega), if_neg (by omega), if_pos k, if_neg (by omega), if_neg (by omega), if_pos k, textB_list, textB_list]
    simp [List.count_append, a1, a2, a3, a4, b1, b2, b3, b4]
theorem domL_inj {d d' : Int} (h1 : 1 ≤ d) (h2 : d ≤ 16) (h3 : 1 ≤ d') (h4 : d' ≤ 16) (e : domL d = domL d') : d = d' := by
  have a := numL_domL d h1 h2
  have b := numL_domL d' h3 h4
  rw [e, b] at a
  omega
/-- UNLIKE CREDENTIALS HAVE UNLIKE TEXTS, but for their Seq. -/
theorem textC_inj {c c' : Crd} (h : mayC c = true) (h' : mayC c' = true) (e : textC c = textC c') : { c with q := c'.q } = c' := by
  obtain ⟨h1, h2, h3, h4, h5⟩ := may_head h
  obtain ⟨g1, g2, g3, g4, g5⟩ := may_head h'
  have e1 : textHead c ++ textBody c = textHead c' ++ textBody c' := by
    have := congrArg (fun b : ByteArray => b.data.toList) e
    simpa [textC] using this
  unfold textHead at e1
  simp only [List.append_assoc, List.cons_append] at e1
  obtain ⟨ed, e2⟩ := split_uniq (dom_count c.d h1 h2 46 l46 d46) (dom_count c'.d g1 g2 46 l46 d46) e1
  simp only [List.nil_append] at e2
  obtain ⟨en, e3⟩ := split_uniq (may_count h5 32 l32 d32) (may_count g5 32 l32 d32) e2
  have e4 : textBody c = textBody c' := by simpa using e3
  have hd := domL_inj h1 h2 g1 g2 ed
  have hn := ba_eq en
  obtain ⟨c1, c2⟩ := body_counts h
  obtain ⟨b1, b2⟩ := body_counts h'
  rw [e4, b1] at c1
  rw [e4, b2] at c2
  have hk : c.kd = c'.kd := by
    rcases may_kind h with k | k | k | k <;> rcases may_kind h' with k' | k' | k' | k' <;> (have a := k.1; have b := k'.1; first | omega | (exfalso; simp [a, b] at c1 c2))
  clear c1 c2 b1 b2 e e1 e2 e3 ed en
  have hmk := may_kind h
  have hmk' := may_kind h'
  clear h h' h1 h2 h3 h4 h5 g1 g2 g3 g4 g5
  obtain ⟨d, q, nm, kd, wh, ao, an, bo, bn⟩ := c
  obtain ⟨d', q', nm', kd', wh', ao', an', bo', bn'⟩ := c'
  simp only at hd hn hk hmk hmk' ⊢
  subst hd hn hk
  rcases hmk with ⟨rfl, m1, rfl, rfl, rfl, rfl⟩ | ⟨rfl, rfl, m1, rfl, rfl⟩ | ⟨rfl, rfl, rfl, m1, rfl, m2⟩ | ⟨rfl, rfl, m1, m2⟩
  · obtain ⟨-, n1, rfl, rfl, rfl, rfl⟩ := hmk'.resolve_right (by omega)
    rw [textBody_1 rfl, textBody_1 rfl] at e4
    simp only at e4
    rw [ba_eq e4]
  · obtain ⟨-, rfl, n1, rfl, rfl⟩ := (hmk'.resolve_left (by omega)).resolve_right (by omega)
    rw [textBody_2 rfl, textBody_2 rfl] at e4
    simp only at e4
    obtain ⟨a, b⟩ := split_uniq (role_count m1 46 l46 d46).1 (role_count n1 46 l46 d46).1 e4
    rw [ba_eq a, ba_eq b]
  · obtain ⟨-, rfl, rfl, n1, rfl, n2⟩ := ((hmk'.resolve_left (by omega)).resolve_left (by omega)).resolve_right (by omega)
    rw [textBody_3 rfl, textBody_3 rfl] at e4
    simp only at e4
    have e5 := List.append_cancel_left e4
    simp only [List.cons.injEq, true_and] at e5
    obtain ⟨a, b⟩ := split_uniq (may_count m1 46 l46 d46) (may_count n1 46 l46 d46) e5
    rw [ba_eq a, ba_eq b]
  · obtain ⟨-, rfl, n1, n2⟩ := ((hmk'.resolve_left (by omega)).resolve_left (by omega)).resolve_left (by omega)
    rw [textBody_4 rfl, textBody_4 rfl] at e4
    simp only at e4
    obtain ⟨a, b⟩ := split_uniq (role_count m1 46 l46 d46).1 (role_count n1 46 l46 d46).1 e4
    obtain ⟨a2, b2⟩ := split_uniq (role_count m1 32 l32 d32).2 (role_count n1 32 l32 d32).2 b
    simp only [List.cons.injEq, true_and] at b2
    obtain ⟨a3, b3⟩ := split_uniq (role_count m2 46 l46 d46).1 (role_count n2 46 l46 d46).1 b2
    rw [ba_eq a, ba_eq a2, ba_eq a3, ba_eq b3]
end Go.Proofs.YtkggagnaiiemlaaDoor.Sh
