/-
  append once more, with where the new row lies: for two rows of the call's own side by side.
-/
import Derived.Test.YtdmglanepjhdoaaDoorShApp
import Derived.Maps.AppendAt
namespace Go.Proofs.YtdmglanepjhdoaaDoor.Sh
open Go Go.RowKit

theorem OwnB.below {w w' : World} {B n : Nat} {v : Value} {l : List UInt8} (h : OwnB w B v n l) (hb : Below w.heap.size w w') : OwnB w' B v n l :=
  ⟨h.1, h.2.imp id fun ⟨g, cap, cur, hv, hB, hg, r⟩ => ⟨g, cap, cur, hv, hB, (hb.block g (Array.getElem?_eq_some_iff.1 hg).1).trans hg, r⟩⟩
/-- Two values that own different rows. -/
def Apart (v1 v2 : Value) : Prop := v2.ownBlock = none ∨ v2.ownBlock ≠ v1.ownBlock
theorem Apart.kept {w w' : World} {B n : Nat} {v1 v2 : Value} {l : List UInt8} (h : OwnB w B v2 n l) (hg : w.grownBy w' v1.ownBlock) (ha : Apart v1 v2) : OwnB w' B v2 n l :=
  World.ownsRow.kept h hg ha
theorem Apart.symm {v1 v2 : Value} (h : Apart v1 v2) : Apart v2 v1 := by
  unfold Apart at *
  cases h1 : v1.ownBlock with
  | none => exact .inl rfl
  | some g =>
    right
    rcases h with h | h
    · rw [h]; simp
    · rw [h1] at h; exact fun e => h e.symm
theorem Apart.app {w : World} {B n : Nat} {v1 v2 v1' : Value} {l : List UInt8} (ha : Apart v1 v2) (h : OwnB w B v2 n l) (hat : v1'.ownBlock = v1.ownBlock ∨ v1'.ownBlock = some w.heap.size) : Apart v1' v2 := by
  rcases hat with e | e
  · unfold Apart; rw [e]; exact ha
  · unfold Apart
    rw [e]
    right
    intro e2
    have := h.lt _ e2
    omega
theorem Apart.nil (v : Value) : Apart v (.slice none 0 0) := .inl rfl

theorem run_app2 {P : Program} {w : World} {T E ty : TypeId} {bytes : Nat} (hT : SlT P T E bytes) {base : Nat} {v : Value} {n : Nat} {xs : List Value} (hown : w.ownsRow base E 1 v n xs)
    {A : Option Addr} {m c : Nat} {news : List Value} (hl : news.length = m) (hr : Reads w A news) (h1 : ∀ u ∈ news, u.oneCell' = true)
    (hb : (n + m) * bytes ≤ 140737488355328) (h63 : n + m ≤ maxLen) (hbase : base ≤ w.heap.size) :
    ∃ A' c' w', (Builtin.append_ #[T, T] ty #[v, .slice A m c]).run P w = .ok (.slice A' (n + m) c') w' ∧ w'.ownsRow base E 1 (.slice A' (n + m) c') (n + m) (xs ++ news) ∧ w.grownBy w' v.ownBlock ∧
      ((Value.slice A' (n + m) c').ownBlock = v.ownBlock ∨ (Value.slice A' (n + m) c').ownBlock = some w.heap.size) := by
  obtain ⟨i, z, hi, hz, hs, hby, hzs⟩ := hT.info
  rcases A with _ | ad
  · have hm : m = 0 := by
      rcases Nat.eq_zero_or_pos m with h | h
      · exact h
      · obtain ⟨_, h, _⟩ := hr (by omega)
        cases h
    subst hm
    obtain ⟨A', c', rfl, _⟩ := own_slice hown
    obtain rfl : news = [] := List.eq_nil_of_length_eq_zero hl
    exact ⟨A', c', w, run_app_zero i hT.und hi hown c, by simpa using hown, World.grownBy.refl _ _, .inl (by cases A' <;> rfl)⟩
  · have hc : ∀ j u, news[j]? = some u → w.cell? (ad.add j) = some u := fun j u hu => by
      obtain ⟨_, h, hc⟩ := hr (Nat.lt_of_le_of_lt (Nat.zero_le _) (List.getElem?_eq_some_iff.1 hu).1)
      injection h with h
      subst h
      exact hc j u hu
    obtain ⟨v', w', hrun, h2, h3, _, h5⟩ := run_append_own_at (P := P) w base T ty E i z 1 bytes hT.und hi hz hs hby hzs (by omega) v n xs hown ad m c news (by omega) hc h1 h63 hb hbase
    obtain ⟨A', c', rfl, _⟩ := own_slice h2
    exact ⟨A', c', w', hrun, h2, h3, h5⟩

theorem wpList_appB2 {ops : Array Oper} {rest : List Oper} {o : Oper} {a : Act} {w : World} {Q : Exit → Act → World → Prop} (hgd : o.guard = none) (s x : Operand)
    (ho : o.op = .call { callee := .builtin .append, args := #[s, x], argTypes := #[22, 22] })
    (B : Nat) (v : Value) (n : Nat) (l : List UInt8) (hown : OwnB w B v n l) (hs : a.eval s = v)
    (A : Option Addr) (m c : Nat) (k : List UInt8) (hx : a.eval x = .slice A m c) (hl : k.length = m) (hr : Reads w A (bv k)) (hb : n + m ≤ 70368744177664) (hbase : B ≤ w.heap.size) (w0 : World) (hbel : Below B w0 w) (n' : Nat) (hn : n + m = n')
    (h : ∀ A' c' w', OwnB w' B (.slice A' n' c') n' (l ++ k) → w.grownBy w' v.ownBlock → Below B w0 w' → ((Value.slice A' n' c').ownBlock = v.ownBlock ∨ (Value.slice A' n' c').ownBlock = some w.heap.size) →
      wpList Tryd.prog ops Q rest (a.put o.dst (.slice A' n' c')) w') : wpList Tryd.prog ops Q (o :: rest) a w := by
  subst hn
  refine wpList_plain hgd fun K hK => ?_
  obtain ⟨A', c', w', hrun, h2, h3, h4⟩ := run_app2 (ty := o.type) slB hown (A := A) (m := m) (c := c) (news := bv k) (by rw [bv_length]; exact hl) hr (bv_one k) (by omega) (by unfold maxLen; omega) hbase
  unfold Oper.wp execOp
  simp only [ho, resolve, invoke, builtin, Sem.run_bind, Sem.run_pure, Result.andThen_ok, List.map_toArray, List.map_cons, List.map_nil, hs, hx, hrun]
  exact hK _ _ (h A' c' w' (by unfold OwnB; rw [bv_append]; exact h2) h3 (below_app hown hbel hbase h3) h4)
end Go.Proofs.YtdmglanepjhdoaaDoor.Sh
