/-
  Rows of elements of some cells: a slice that reads as a list of them; rows of the call's own; append in one law. Nothing of the program's own text.
-/
import Derived.Test.YtdigfbgjefffiaaBaApp
namespace Go.Proofs.Ytdigfbgjefffiaa.Sh
open Go Go.RowKit

set_option linter.unusedVariables false
set_option linter.unusedSimpArgs false
/-- The row of a slice type in the program's table: elements of some cells. -/
structure SlN (P : Program) (T E : TypeId) (size bytes : Nat) : Prop where
  und : P.underlying T = some (.slice E)
  info : ∃ (i : TypeInfo) (z : Value), P.info? E = some i ∧ i.zero = some z ∧ i.size = size ∧ i.bytes = bytes ∧ z.cells.size = size
  pos : 0 < size
theorem own_sliceN {w : World} {base size : Nat} {e : TypeId} {v : Value} {n : Nat} {xs : List Value} (h : w.ownsRow base e size v n xs) : ∃ A c, v = .slice A n c ∧ n ≤ c ∧ c ≤ 9223372036854775807 := by
  rcases h.2 with ⟨rfl, rfl⟩ | ⟨g, cap, cur, rfl, _, _, hc, hm, _⟩
  · exact ⟨none, 0, rfl, Nat.le_refl _, by omega⟩
  · exact ⟨_, cap, rfl, hc, by unfold maxLen at hm; exact hm⟩
section
variable {P : Program} {w : World}
theorem run_appN {T E ty : TypeId} {size bytes : Nat} (hT : SlN P T E size bytes) {base : Nat} {v : Value} {n : Nat} {xs : List Value} (hown : w.ownsRow base E size v n xs)
    {A : Option Addr} {m c : Nat} {news : List Value} (hl : news.length = m * size) (hr : Reads w A news) (h1 : ∀ u ∈ news, u.oneCell' = true)
    (hb : (n + m) * bytes ≤ 140737488355328) (h63 : n + m ≤ maxLen) (hbase : base ≤ w.heap.size) :
    ∃ A' c' w', (Builtin.append_ #[T, T] ty #[v, .slice A m c]).run P w = .ok (.slice A' (n + m) c') w' ∧ w'.ownsRow base E size (.slice A' (n + m) c') (n + m) (xs ++ news) ∧ w.grownBy w' v.ownBlock ∧
      ((Value.slice A' (n + m) c').ownBlock = v.ownBlock ∨ (Value.slice A' (n + m) c').ownBlock = some w.heap.size) := by
  obtain ⟨i, z, hi, hz, hs, hby, hzs⟩ := hT.info
  have hpos := hT.pos
  rcases A with _ | ad
  · have hm : m = 0 := by
      rcases Nat.eq_zero_or_pos m with h | h
      · exact h
      · obtain ⟨_, h, _⟩ := hr (by rw [hl]; exact Nat.mul_pos h hpos)
        cases h
    subst hm
    obtain ⟨A', c', rfl, _⟩ := own_sliceN hown
    obtain rfl : news = [] := List.eq_nil_of_length_eq_zero (by rw [hl]; omega)
    exact ⟨A', c', w, run_app_zero i hT.und hi hown c, by simpa using hown, World.grownBy.refl _ _, .inl (by cases A' <;> rfl)⟩
  · have hc : ∀ j u, news[j]? = some u → w.cell? (ad.add j) = some u := fun j u hu => by
      obtain ⟨_, h, hc⟩ := hr (Nat.lt_of_le_of_lt (Nat.zero_le _) (List.getElem?_eq_some_iff.1 hu).1)
      injection h with h
      subst h
      exact hc j u hu
    obtain ⟨v', w', hrun, h2, h3, _, h5⟩ := run_append_own_at (P := P) w base T ty E i z size bytes hT.und hi hz hs hby hzs hpos v n xs hown ad m c news hl hc h1 h63 hb hbase
    obtain ⟨A', c', rfl, _⟩ := own_sliceN h2
    exact ⟨A', c', w', hrun, h2, h3, h5⟩
theorem wpList_appN {ops : Array Oper} {rest : List Oper} {o : Oper} {a : Act} {Q : Exit → Act → World → Prop} {T E : TypeId} {size bytes : Nat} (hgd : o.guard = none) (hT : SlN P T E size bytes) (s x : Operand)
    (ho : o.op = .call { callee := .builtin .append, args := #[s, x], argTypes := #[T, T] })
    {base : Nat} {v : Value} {n : Nat} {xs : List Value} (hown : w.ownsRow base E size v n xs) (hs : a.eval s = v)
    {A : Option Addr} {m c : Nat} {news : List Value} (hx : a.eval x = .slice A m c) (hl : news.length = m * size) (hr : Reads w A news) (h1 : ∀ u ∈ news, u.oneCell' = true)
    (hb : (n + m) * bytes ≤ 140737488355328) (h63 : n + m ≤ maxLen) (hbase : base ≤ w.heap.size) {n' : Nat} (hn : n + m = n')
    (h : ∀ A' c' w', w'.ownsRow base E size (.slice A' n' c') n' (xs ++ news) → w.grownBy w' v.ownBlock → ((Value.slice A' n' c').ownBlock = v.ownBlock ∨ (Value.slice A' n' c').ownBlock = some w.heap.size) → wpList P ops Q rest (a.put o.dst (.slice A' n' c')) w') : wpList P ops Q (o :: rest) a w := by
  subst hn
  refine wpList_plain hgd fun _ hK => ?_
  obtain ⟨A', c', w', hrun, h2, h3, h4⟩ := run_appN (ty := o.type) hT hown (A := A) (c := c) hl hr h1 hb h63 hbase
  unfold Oper.wp execOp
  simp only [ho, resolve, invoke, builtin, Sem.run_bind, Sem.run_pure, Result.andThen_ok, List.map_toArray, List.map_cons, List.map_nil, hs, hx, hrun]
  exact hK _ _ (h A' c' w' h2 h3 h4)
end

/-- A slice that lies in another row than v owns. -/
def FarV (A : Option Addr) (v : Value) : Prop := ∀ ad, A = some ad → some ad.block ≠ v.ownBlock
theorem FarV.app {w : World} {A : Option Addr} {v v' : Value} (hf : FarV A v) (hb : ∀ ad, A = some ad → ad.block < w.heap.size) (hat : v'.ownBlock = v.ownBlock ∨ v'.ownBlock = some w.heap.size) : FarV A v' := fun ad e => by
  rcases hat with h | h
  · rw [h]; exact hf ad e
  · rw [h]
    intro e2
    injection e2 with e2
    have := hb ad e
    omega
theorem FarV.nil (A : Option Addr) : FarV A (.slice none 0 0) := fun _ _ e => by cases e
theorem FarV.own {A : Option Addr} {n c : Nat} {v : Value} (h : (Value.slice A n c).ownBlock = none ∨ (Value.slice A n c).ownBlock ≠ v.ownBlock) : FarV A v := fun ad e => by
  subst e
  rcases h with h | h
  · cases h
  · exact h
/-- How an element lies: in how many cells, in which. -/
structure Enc (α : Type) where
  k : Nat
  cells : α → List Value
  pos : 0 < k
  len : ∀ x, (cells x).length = k
  one : ∀ x, ∀ u ∈ cells x, u.oneCell' = true
section
variable {α : Type} (E : Enc α)
def ev : List α → List Value
  | [] => []
  | x :: t => E.cells x ++ ev t
theorem ev_length (l : List α) : (ev E l).length = l.length * E.k := by
  induction l with
  | nil => simp [ev]
  | cons c t ih => simp only [ev, List.length_append, ih, E.len, List.length_cons, Nat.add_mul, Nat.one_mul]; omega
theorem ev_append (a b : List α) : ev E (a ++ b) = ev E a ++ ev E b := by
  induction a with
  | nil => rfl
  | cons c t ih => simp only [List.cons_append, ev, ih, List.append_assoc]
theorem ev_one (l : List α) : ∀ u ∈ ev E l, u.oneCell' = true := by
  induction l with
  | nil => intro u hu; cases hu
  | cons c t ih =>
    intro u hu
    rcases List.mem_append.1 hu with h | h
    · exact E.one _ _ h
    · exact ih u h
theorem ev_get {l : List α} {j i : Nat} {c : α} (h : l[j]? = some c) (hi : i < E.k) : (ev E l)[j * E.k + i]? = (E.cells c)[i]? := by
  induction l generalizing j with
  | nil => simp at h
  | cons x t ih =>
    cases j with
    | zero =>
      simp at h; subst h
      rw [ev, List.getElem?_append_left (by rw [E.len]; omega)]
      simp
    | succ j =>
      rw [ev, List.getElem?_append_right (by rw [E.len, Nat.add_mul, Nat.one_mul]; omega), E.len, show (j + 1) * E.k + i - E.k = j * E.k + i by rw [Nat.add_mul, Nat.one_mul]; omega]
      exact ih (by simpa using h)
theorem ev_take (l : List α) (n : Nat) : ev E (l.take n) = (ev E l).take (n * E.k) := by
  induction l generalizing n with
  | nil => simp [ev]
  | cons x t ih =>
    cases n with
    | zero => simp [ev]
    | succ n =>
      rw [List.take_succ_cons, ev, ev, ih, List.take_append, E.len, List.take_of_length_le (l := E.cells x) (by rw [E.len, Nat.add_mul]; omega), show (n + 1) * E.k - E.k = n * E.k by rw [Nat.add_mul, Nat.one_mul]; omega]
/-- Elements from A on, below block B. -/
def Els (w : World) (B : Nat) (A : Option Addr) (l : List α) : Prop :=
  0 < l.length → ∃ ad, A = some ad ∧ ad.block < B ∧ ∀ i u, (ev E l)[i]? = some u → w.cell? (ad.add i) = some u
variable {E} {w w' : World} {B B' : Nat} {A : Option Addr} {l : List α}
theorem Els.nil : Els E w B A [] := fun h => absurd h (by simp)
theorem Els.keep (h : Els E w B A l) (hk : ∀ ad, A = some ad → ad.block < B → w'.heap[ad.block]? = w.heap[ad.block]?) : Els E w' B A l := fun hn => by
  obtain ⟨ad, e, hb, hc⟩ := h hn
  refine ⟨ad, e, hb, fun j x hx => ?_⟩
  rw [← hc j x hx]
  unfold World.cell?
  rw [block_add, hk ad e hb]
theorem Els.below (h : Els E w B A l) (hb : Below B w w') : Els E w' B A l := h.keep fun _ _ hp => hb.block _ hp
theorem Els.more (h : Els E w B A l) (hB : B ≤ B') : Els E w B' A l := fun hn => by
  obtain ⟨ad, e, hb, hc⟩ := h hn
  exact ⟨ad, e, by omega, hc⟩
theorem Els.get {j : Nat} {c : α} (h : Els E w B A l) (hj : l[j]? = some c) : ∃ ad aj, A = some ad ∧ ad.block < B ∧ ad.add (j * E.k) = aj ∧ aj.block = ad.block ∧
    (∀ v, (E.cells c)[0]? = some v → w.cell? aj = some v) ∧ ∀ i v, 0 < i → (E.cells c)[i]? = some v → w.cell? ⟨aj.block, aj.off + i, none⟩ = some v := by
  obtain ⟨ad, e, hb, hc⟩ := h (Nat.lt_of_le_of_lt (Nat.zero_le _) (List.getElem?_eq_some_iff.1 hj).1)
  have key : ∀ i v, (E.cells c)[i]? = some v → w.cell? ((ad.add (j * E.k)).add i) = some v := fun i v hv => by
    rw [add_add]
    exact hc _ v ((ev_get E hj (by have := (List.getElem?_eq_some_iff.1 hv).1; rwa [E.len] at this)).trans hv)
  refine ⟨ad, ad.add (j * E.k), e, hb, rfl, block_add _ _, fun v hv => ?_, fun i v h0 hv => ?_⟩
  · have := key 0 v hv
    rwa [add_zero] at this
  · rw [← add_pos _ i h0]
    exact key i v hv
/-- A row of the call's own. -/
def Own (w : World) (B : Nat) (T : TypeId) (v : Value) (l : List α) : Prop := w.ownsRow B T E.k v l.length (ev E l)
variable {v : Value} {T : TypeId}
theorem Own.els (h : Own (E := E) w B T v l) : ∃ A c, v = .slice A l.length c ∧ l.length ≤ c ∧ c ≤ 9223372036854775807 ∧ Els E w w.heap.size A l := by
  obtain ⟨A, c, e, h1, h2⟩ := own_sliceN h
  refine ⟨A, c, e, h1, h2, fun hn => ?_⟩
  rcases h.2 with ⟨hv, h0⟩ | ⟨g, cap, cur, hv, _, hg, _⟩
  · omega
  · rw [e] at hv
    simp only [Value.slice.injEq] at hv
    obtain ⟨rfl, _, _⟩ := hv
    exact ⟨_, rfl, (Array.getElem?_eq_some_iff.1 hg).1, fun i u hu => World.ownsRow.cells h (g := g) (by rw [e]; rfl) i u hu⟩
theorem Own.kept (h : Own (E := E) w B T v l) (hk : ∀ g, v.ownBlock = some g → w'.heap[g]? = w.heap[g]?) : Own (E := E) w' B T v l := by
  refine ⟨h.1, ?_⟩
  rcases h.2 with hn | ⟨g, cap, cur, rfl, hb, hgg, rest⟩
  · exact .inl hn
  · refine .inr ⟨g, cap, cur, rfl, hb, ?_, rest⟩
    rw [hk g rfl]
    exact hgg
theorem Own.alloc (h : Own (E := E) w B T v l) (o : Obj) : Own (E := E) (w.alloc o) B T v l := World.ownsRow.alloc h o
theorem Own.drew (h : Own (E := E) w B T v l) : Own (E := E) w.drew B T v l := World.ownsRow.drew h
theorem Own.nil (w : World) (B : Nat) (T : TypeId) : Own (E := E) w B T (.slice none 0 0) [] := World.ownsRow_nil _ _ _ _
theorem Own.lt (h : Own (E := E) w B T v l) : ∀ g, v.ownBlock = some g → B ≤ g ∧ g < w.heap.size := World.ownsRow.lt h
/-- 's[:n]'. -/
theorem Own.short {A : Option Addr} {c n : Nat} (h : Own (E := E) w B T (.slice A l.length c) l) (hn : n ≤ l.length) : Own (E := E) w B T (.slice A n c) (l.take n) := by
  have e : (l.take n).length = n := by rw [List.length_take]; omega
  refine ⟨ev_length E _, ?_⟩
  rw [e]
  rcases h.2 with ⟨hv, h0⟩ | ⟨g, cap, cur, hv, hb, hg, h1, h2, h3, h4⟩
  · simp only [Value.slice.injEq] at hv
    obtain ⟨rfl, _, rfl⟩ := hv
    exact .inl ⟨by rw [show n = 0 by omega], by omega⟩
  · simp only [Value.slice.injEq] at hv
    obtain ⟨rfl, _, rfl⟩ := hv
    refine .inr ⟨g, c, cur, rfl, hb, hg, by omega, h2, h3, ?_⟩
    have hk : n * E.k ≤ l.length * E.k := Nat.mul_le_mul_right _ hn
    rw [ev_take, ← h4, List.take_take, Nat.min_eq_left hk]
end

section
variable {α : Type} {E : Enc α} {P : Program} {w : World}
theorem wp_app1 {o : Oper} {a : Act} {K : Act → World → Prop} {Q : Exit → Act → World → Prop} {T S : TypeId} {bytes : Nat} (hT : SlN P T S E.k bytes) (s x : Operand)
    (ho : o.op = .call { callee := .builtin .append, args := #[s, x], argTypes := #[T, T] })
    {B : Nat} {v : Value} {l : List α} (hown : Own (E := E) w B S v l) (hs : a.eval s = v)
    {ad : Addr} {c : Nat} (y : α) (hx : a.eval x = .slice (some ad) 1 c) (hr : Reads w (some ad) (E.cells y))
    (hl : l.length ≤ 1000000000000) (hby : bytes ≤ 128) (hbase : B ≤ w.heap.size)
    (h : ∀ A' c' w', Own (E := E) w' B S (.slice A' (l.length + 1) c') (l ++ [y]) → w.grownBy w' v.ownBlock → ((Value.slice A' (l.length + 1) c').ownBlock = v.ownBlock ∨ (Value.slice A' (l.length + 1) c').ownBlock = some w.heap.size) → K (a.put o.dst (.slice A' (l.length + 1) c')) w') : o.wp P a w K Q := by
  have hm : (l.length + 1) * bytes ≤ (l.length + 1) * 128 := Nat.mul_le_mul_left _ hby
  obtain ⟨A', c', w', hrun, h2, h3, h4⟩ := run_appN (ty := o.type) hT hown (A := some ad) (m := 1) (c := c) (news := E.cells y) (by rw [E.len]; omega) hr (E.one y) (by omega) (by unfold maxLen; omega) hbase
  have h5 : Own (E := E) w' B S (.slice A' (l.length + 1) c') (l ++ [y]) := by
    unfold Own
    rw [ev_append, List.length_append, List.length_singleton]
    simpa [ev] using h2
  unfold Oper.wp execOp
  simp only [ho, resolve, invoke, builtin, Sem.run_bind, Sem.run_pure, Result.andThen_ok, List.map_toArray, List.map_cons, List.map_nil, hs, hx, hrun]
  exact h A' c' w' h5 h3 h4
theorem wpList_app1 {ops : Array Oper} {rest : List Oper} {o : Oper} {a : Act} {Q : Exit → Act → World → Prop} (hgd : o.guard = none) {T S : TypeId} {bytes : Nat} (hT : SlN P T S E.k bytes) (s x : Operand)
    (ho : o.op = .call { callee := .builtin .append, args := #[s, x], argTypes := #[T, T] })
    {B : Nat} {v : Value} {l : List α} (hown : Own (E := E) w B S v l) (hs : a.eval s = v)
    {ad : Addr} {c : Nat} (y : α) (hx : a.eval x = .slice (some ad) 1 c) (hr : Reads w (some ad) (E.cells y))
    (hl : l.length ≤ 1000000000000) (hby : bytes ≤ 128) (hbase : B ≤ w.heap.size)
    (h : ∀ A' c' w', Own (E := E) w' B S (.slice A' (l.length + 1) c') (l ++ [y]) → w.grownBy w' v.ownBlock → ((Value.slice A' (l.length + 1) c').ownBlock = v.ownBlock ∨ (Value.slice A' (l.length + 1) c').ownBlock = some w.heap.size) → wpList P ops Q rest (a.put o.dst (.slice A' (l.length + 1) c')) w') : wpList P ops Q (o :: rest) a w :=
  wpList_plain hgd fun _ hK => wp_app1 hT s x ho hown hs y hx hr hl hby hbase fun A' c' w' h2 h3 h4 => hK _ _ (h A' c' w' h2 h3 h4)
theorem step_app1 {ops : Array Oper} {o : Oper} {a : Act} {K : Act → World → Prop} {Q : Exit → Act → World → Prop} {F : Prop} (hgd : o.guard = none) {T S : TypeId} {bytes : Nat} (hT : SlN P T S E.k bytes) (s x : Operand)
    (ho : o.op = .call { callee := .builtin .append, args := #[s, x], argTypes := #[T, T] })
    {B : Nat} {v : Value} {l : List α} (hown : Own (E := E) w B S v l) (hs : a.eval s = v)
    {ad : Addr} {c : Nat} (y : α) (hx : a.eval x = .slice (some ad) 1 c) (hr : Reads w (some ad) (E.cells y))
    (hl : l.length ≤ 1000000000000) (hby : bytes ≤ 128) (hbase : B ≤ w.heap.size)
    (h : ∀ A' c' w', Own (E := E) w' B S (.slice A' (l.length + 1) c') (l ++ [y]) → w.grownBy w' v.ownBlock → ((Value.slice A' (l.length + 1) c').ownBlock = v.ownBlock ∨ (Value.slice A' (l.length + 1) c').ownBlock = some w.heap.size) → K (a.put o.dst (.slice A' (l.length + 1) c')) w') :
    if Region.wanted o (yielded ops a.tmps) = true then Oper.wp P o a w K Q else F := by
  have hw : Region.wanted o (yielded ops a.tmps) = true := by simp [Region.wanted, hgd]
  rw [if_pos hw]
  exact wp_app1 hT s x ho hown hs y hx hr hl hby hbase h
end
theorem Own.below {α : Type} {E : Enc α} {w w' : World} {B : Nat} {T : TypeId} {v : Value} {l : List α} (h : Own (E := E) w B T v l) (hb : Below w.heap.size w w') : Own (E := E) w' B T v l :=
  h.kept fun g e => hb.block g (h.lt g e).2
theorem own_els {α : Type} {E : Enc α} {w : World} {B n c : Nat} {T : TypeId} {A : Option Addr} {l : List α} (h : Own (E := E) w B T (.slice A n c) l) : Els E w w.heap.size A l := by
  obtain ⟨A', c', e, -, -, h'⟩ := h.els
  simp only [Value.slice.injEq] at e
  rw [e.1]
  exact h'
section
variable {α : Type} {E : Enc α} {w : World} {B : Nat} {A : Option Addr} {l : List α}
theorem Els.reads (h : Els E w B A l) : Reads w A (ev E l) := fun hn => by
  have hk := E.pos
  have : 0 < l.length := by
    rcases Nat.eq_zero_or_pos l.length with h0 | h0
    · rw [ev_length, h0, Nat.zero_mul] at hn; omega
    · exact h0
  obtain ⟨ad, e, _, hc⟩ := h this
  exact ⟨ad, e, hc⟩
theorem Els.head {hi : Nat} (h : Els E w B A l) : Els E w B A (l.take hi) := by
  intro hn
  simp only [List.length_take] at hn
  obtain ⟨ad, e, hb, hc⟩ := h (by omega)
  refine ⟨ad, e, hb, fun j x hx => hc j x ?_⟩
  rw [ev_take, List.getElem?_take] at hx
  split at hx
  · exact hx
  · cases hx
theorem ev_drop (l : List α) (n : Nat) : ev E (l.drop n) = (ev E l).drop (n * E.k) := by
  induction l generalizing n with
  | nil => simp [ev]
  | cons x t ih =>
    cases n with
    | zero => simp
    | succ n =>
      rw [List.drop_succ_cons, ev, ih, List.drop_append, E.len, List.drop_of_length_le (l := E.cells x) (by rw [E.len, Nat.add_mul]; omega), List.nil_append, show (n + 1) * E.k - E.k = n * E.k by rw [Nat.add_mul, Nat.one_mul]; omega]
/-- 's[lo:]'. -/
theorem Els.tail {lo cap : Nat} (h : Els E w B A l) (h3 : l.length ≤ cap) : Els E w B (if cap = lo then A else A.map (·.add (lo * E.k))) (l.drop lo) := by
  intro hn
  simp only [List.length_drop] at hn
  obtain ⟨ad, rfl, hb, hc⟩ := h (by omega)
  rw [if_neg (by omega)]
  refine ⟨ad.add (lo * E.k), rfl, by rw [block_add]; exact hb, fun j x hx => ?_⟩
  rw [add_add]
  refine hc _ x ?_
  rwa [ev_drop, List.getElem?_drop] at hx
/-- append of a whole list to a row of the call's own. -/
theorem wpList_appL {P : Program} {ops : Array Oper} {rest : List Oper} {o : Oper} {a : Act} {Q : Exit → Act → World → Prop} (hgd : o.guard = none) {T S : TypeId} {bytes : Nat} (hT : SlN P T S E.k bytes) (s x : Operand)
    (ho : o.op = .call { callee := .builtin .append, args := #[s, x], argTypes := #[T, T] })
    {v : Value} (hown : Own (E := E) w B S v l) (hs : a.eval s = v)
    {m c : Nat} (k : List α) (hx : a.eval x = .slice A m c) (hl : k.length = m) (hr : Reads w A (ev E k)) (hb : l.length + m ≤ 1000000000000) (hby : bytes ≤ 128) (hbase : B ≤ w.heap.size)
    (h : ∀ A' c' w', Own (E := E) w' B S (.slice A' (l.length + m) c') (l ++ k) → w.grownBy w' v.ownBlock → ((Value.slice A' (l.length + m) c').ownBlock = v.ownBlock ∨ (Value.slice A' (l.length + m) c').ownBlock = some w.heap.size) → wpList P ops Q rest (a.put o.dst (.slice A' (l.length + m) c')) w') : wpList P ops Q (o :: rest) a w := by
  have hm : (l.length + m) * bytes ≤ (l.length + m) * 128 := Nat.mul_le_mul_left _ hby
  refine wpList_appN hgd hT s x ho hown hs hx (by rw [ev_length, hl]) hr (ev_one E k) (by omega) (by unfold maxLen; omega) hbase rfl fun A' c' w' h2 h3 h4 => h A' c' w' ?_ h3 h4
  unfold Own
  rw [ev_append, List.length_append, hl]
  exact h2
end
section
variable {α : Type} {E : Enc α} {w w' : World} {B : Nat} {A : Option Addr} {l : List α} {v : Value} {T : TypeId}
theorem Els.far (h : Els E w B A l) (hB : B ≤ w.heap.size) (hg : w.grownBy w' v.ownBlock) (hf : FarV A v) : Els E w' B A l :=
  h.keep fun ad e hb => hg.block _ (by omega) (hf ad e)
theorem Own.keptBy {row : Option Nat} (h : Own (E := E) w B T v l) (hg : w.grownBy w' row) (ha : ∀ g, v.ownBlock = some g → row ≠ some g) : Own (E := E) w' B T v l :=
  h.kept fun g e => hg.block g (h.lt g e).2 (fun e2 => ha g e e2.symm)
end
end Go.Proofs.Ytdigfbgjefffiaa.Sh
