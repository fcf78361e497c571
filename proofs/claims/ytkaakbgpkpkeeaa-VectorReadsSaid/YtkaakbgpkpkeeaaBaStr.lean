/-
  Strings as bytes: append(b, s...), []byte(s).
-/
import Derived.Test.YtkaakbgpkpkeeaaBaApp
import Derived.Lib.AppendStr
namespace Go.Proofs.Ytkaakbgpkpkeeaa.Sh
open Go Go.RowKit

theorem strCells_bv (s : ByteArray) : Lib.strCells s = bv s.data.toList := rfl
theorem size_list (s : ByteArray) : s.data.toList.length = s.size := by rw [Array.length_toList]; rfl

/-- 'append(b, s...)', s a string. -/
theorem wpList_appS {ops : Array Oper} {rest : List Oper} {o : Oper} {a : Act} {w : World} {Q : Exit → Act → World → Prop} (hgd : o.guard = none) (s x : Operand)
    (ho : o.op = .call { callee := .builtin .append, args := #[s, x], argTypes := #[32, 9] })
    (B : Nat) (v : Value) (n : Nat) (l : List UInt8) (hown : OwnB w B v n l) (hs : a.eval s = v)
    (k : ByteArray) (hx : a.eval x = .string k) (hb : n + k.size ≤ 70368744177664) (hbase : B ≤ w.heap.size) (w0 : World) (hbel : Below B w0 w) (n' : Nat) (hn : n + k.size = n')
    (h : ∀ A' c' w', OwnB w' B (.slice A' n' c') n' (l ++ k.data.toList) → w.grownBy w' v.ownBlock → Below B w0 w' → wpList Try.prog ops Q rest (a.put o.dst (.slice A' n' c')) w') : wpList Try.prog ops Q (o :: rest) a w := by
  subst hn
  obtain ⟨i0, hi0, hz0, hz1, hz2⟩ := info_parts info_u8
  refine wpList_plain hgd fun K hK => ?_
  obtain ⟨v', w', hrun, h2, h3, _⟩ := Lib.run_append_own_string (P := Try.prog) w B 32 9 o.type 5 i0 Try.underlying32 Try.underlying9 hi0 hz0 hz1 hz2 v n (bv l) hown k (by unfold maxLen; omega) (by omega) hbase
  obtain ⟨A', c', rfl, _⟩ := own_slice h2
  unfold Oper.wp execOp
  simp only [ho, resolve, invoke, builtin, Sem.run_bind, Sem.run_pure, Result.andThen_ok, List.map_toArray, List.map_cons, List.map_nil, hs, hx, hrun]
  exact hK _ _ (h A' c' w' (by unfold OwnB; rw [bv_append]; exact h2) h3 (below_app hown hbel hbase h3))

/-- '[]byte(s)'. -/
theorem run_conv (w : World) (s : ByteArray) (hm : s.size ≤ 9223372036854775807) :
    ∃ c w', (convert 9 32 (.string s)).run Try.prog w = .ok (.slice (some ⟨w.heap.size, 0, none⟩) s.size c) w' ∧ s.size ≤ c ∧ c ≤ 9223372036854775807 ∧ w.heap.size < w'.heap.size ∧ Byt w' w'.heap.size (some ⟨w.heap.size, 0, none⟩) s.data.toList ∧ Below w.heap.size w w' := by
  have hr := run_bytes_of_string (P := Try.prog) w 9 32 5 s Try.underlying9 Try.underlying32 Try.underlying5
  refine ⟨_, _, hr, grownCap_ge _ _ _ _, ?_, by simp, fun _ => ⟨_, rfl, by simp, fun j x hx => ?_⟩, ((Below.refl _ _).drew).alloc (w := w.drew) (Nat.le_refl _) _⟩
  · have h := grownCap_le_maxLen w s.size 0 5 (by unfold maxLen; exact hm)
    unfold maxLen at h
    exact h
  · refine World.news_of_block (cs := bytesRow s (grownCap w s.size 0 5)) (t := 5) (heap_alloc_new w.drew _) j _ ?_
    have hj : j < s.data.size := by have := (List.getElem?_eq_some_iff.1 hx).1; simpa using this
    simp only [bytesRow, Array.toList_append, Array.toList_map]
    rw [List.getElem?_append_left (by simpa using hj)]
    simp [hx]
theorem wpList_conv {ops : Array Oper} {rest : List Oper} {o : Oper} {a : Act} {w : World} {Q : Exit → Act → World → Prop} (hgd : o.guard = none) (x : Operand)
    (ho : o.op = .convert 9 32 x) (s : ByteArray) (hx : a.eval x = .string s) (hm : s.size ≤ 9223372036854775807)
    (h : ∀ c w', s.size ≤ c → c ≤ 9223372036854775807 → w.heap.size < w'.heap.size → Byt w' w'.heap.size (some ⟨w.heap.size, 0, none⟩) s.data.toList → Below w.heap.size w w' → wpList Try.prog ops Q rest (a.put o.dst (.slice (some ⟨w.heap.size, 0, none⟩) s.size c)) w') : wpList Try.prog ops Q (o :: rest) a w := by
  refine wpList_plain hgd fun K hK => ?_
  obtain ⟨c, w', hr, h1, h2, h3, h4, h5⟩ := run_conv w s hm
  unfold Oper.wp execOp
  simp only [ho, hx, Sem.run_bind, Sem.run_pure, hr, Result.andThen_ok]
  exact hK _ _ (h c w' h1 h2 h3 h4 h5)
end Go.Proofs.Ytkaakbgpkpkeeaa.Sh
