/-
  append to a row of the call's own, in one law for every source that reads (nothing of it let in): what it owns behind it, that nothing below has turned; where the new row lies.
-/
import Derived.Test.YtdigfbgjefffiaaBaMem
import Derived.Maps.AppendAt
namespace Go.Proofs.Ytdigfbgjefffiaa.Sh
open Go Go.RowKit

theorem own_mono' {w : World} {b b' : Nat} {e : TypeId} {size n : Nat} {v : Value} {xs : List Value} (h : w.ownsRow b e size v n xs) (hb : b' ≤ b) : w.ownsRow b' e size v n xs :=
  ⟨h.1, h.2.imp id fun ⟨g, cap, cur, hv, hg, r⟩ => ⟨g, cap, cur, hv, Nat.le_trans hb hg, r⟩⟩

/-- The row of a slice type in the program's table: elements of one cell. -/
structure SlT (P : Program) (T E : TypeId) (bytes : Nat) : Prop where
  und : P.underlying T = some (.slice E)
  info : ∃ (i : TypeInfo) (z : Value), P.info? E = some i ∧ i.zero = some z ∧ i.size = 1 ∧ i.bytes = bytes ∧ z.cells.size = 1

/-- A source that reads: cells from A on. -/
def Reads (w : World) (A : Option Addr) (us : List Value) : Prop := 0 < us.length → ∃ ad, A = some ad ∧ ∀ j u, us[j]? = some u → w.cell? (ad.add j) = some u
theorem Byt.reads {w : World} {B : Nat} {A : Option Addr} {l : List UInt8} (h : Byt w B A l) : Reads w A (bv l) := fun hn => by
  obtain ⟨ad, hA, _⟩ := h (by rwa [bv_length] at hn)
  exact ⟨ad, hA, h.cells hA⟩
theorem reads_new (w : World) (cs : Array Value) (t : TypeId) (fr : Nat × Nat) : Reads (w.alloc (.cells cs t fr)) (some ⟨w.heap.size, 0, none⟩) cs.toList := fun _ =>
  ⟨_, rfl, World.news_of_block (cs := cs) (t := t) (fr := fr) (heap_alloc_new w _)⟩
theorem reads_newd (w : World) (cs : Array Value) (t : TypeId) (fr : Nat × Nat) : Reads (w.alloc (.cells cs t fr)).drew (some ⟨w.heap.size, 0, none⟩) cs.toList := reads_new w cs t fr
theorem Reads.drew {w : World} {A : Option Addr} {us : List Value} (h : Reads w A us) : Reads w.drew A us := h
theorem Reads.drewN {w : World} {A : Option Addr} {us : List Value} (h : Reads w A us) (n : Nat) : Reads (w.drewN n) A us := h

section
variable {P : Program} {w : World}
theorem run_app_zero {t ty e : TypeId} (i : TypeInfo) (ht : P.underlying t = some (.slice e)) (hi : P.info? e = some i) {base : Nat} {v : Value} {n : Nat} {xs : List Value} {size : Nat} (hown : w.ownsRow base e size v n xs) (c : Nat) :
    (Builtin.append_ #[t, t] ty #[v, .slice none 0 c]).run P w = .ok v w := by
  rcases hown.2 with ⟨rfl, rfl⟩ | ⟨g, cap, cur, rfl, _, _, hnc, _⟩
  · simp [Builtin.append_, run_underlying ht, sizeOf, typeInfo, hi, Builtin.lenOf, Builtin.firstCells]
  · simp [Builtin.append_, run_underlying ht, sizeOf, typeInfo, hi, Builtin.lenOf, Builtin.firstCells, hnc, storeCells]

/-- THE LAW. -/
theorem run_app {T E ty : TypeId} {bytes : Nat} (hT : SlT P T E bytes) {base : Nat} {v : Value} {n : Nat} {xs : List Value} (hown : w.ownsRow base E 1 v n xs)
    {A : Option Addr} {m c : Nat} {news : List Value} (hl : news.length = m) (hr : Reads w A news) (h1 : ∀ u ∈ news, u.oneCell' = true)
    (hb : (n + m) * bytes ≤ 140737488355328) (h63 : n + m ≤ maxLen) (hbase : base ≤ w.heap.size) :
    ∃ A' c' w', (Builtin.append_ #[T, T] ty #[v, .slice A m c]).run P w = .ok (.slice A' (n + m) c') w' ∧ w'.ownsRow base E 1 (.slice A' (n + m) c') (n + m) (xs ++ news) ∧ w.grownBy w' v.ownBlock := by
  obtain ⟨i, z, hi, hz, hs, hby, hzs⟩ := hT.info
  rcases A with _ | ad
  · have hm : m = 0 := by
      rcases Nat.eq_zero_or_pos m with h | h
      · exact h
      · obtain ⟨_, h, _⟩ := hr (by omega)
        cases h
    subst hm
    obtain ⟨A', c', rfl, _⟩ := own_slice hown
    obtain rfl : news = [] := List.eq_nil_of_length_eq_zero hl
    exact ⟨A', c', w, run_app_zero i hT.und hi hown c, by simpa using hown, World.grownBy.refl _ _⟩
  · have hc : ∀ j u, news[j]? = some u → w.cell? (ad.add j) = some u := fun j u hu => by
      obtain ⟨_, h, hc⟩ := hr (Nat.lt_of_le_of_lt (Nat.zero_le _) (List.getElem?_eq_some_iff.1 hu).1)
      injection h with h
      subst h
      exact hc j u hu
    obtain ⟨v', w', hrun, h2, h3, _⟩ := run_append_own (P := P) w base T ty E i z 1 bytes hT.und hi hz hs hby hzs (by omega) v n xs hown ad m c news (by omega) hc h1 h63 hb hbase
    obtain ⟨A', c', rfl, _⟩ := own_slice h2
    exact ⟨A', c', w', hrun, h2, h3⟩

theorem wp_app {o : Oper} {a : Act} {K : Act → World → Prop} {Q : Exit → Act → World → Prop} {T E : TypeId} {bytes : Nat} (hT : SlT P T E bytes) (s x : Operand)
    (ho : o.op = .call { callee := .builtin .append, args := #[s, x], argTypes := #[T, T] })
    {base : Nat} {v : Value} {n : Nat} {xs : List Value} (hown : w.ownsRow base E 1 v n xs) (hs : a.eval s = v)
    {A : Option Addr} {m c : Nat} {news : List Value} (hx : a.eval x = .slice A m c) (hl : news.length = m) (hr : Reads w A news) (h1 : ∀ u ∈ news, u.oneCell' = true)
    (hb : (n + m) * bytes ≤ 140737488355328) (h63 : n + m ≤ maxLen) (hbase : base ≤ w.heap.size) {n' : Nat} (hn : n + m = n')
    (h : ∀ A' c' w', w'.ownsRow base E 1 (.slice A' n' c') n' (xs ++ news) → w.grownBy w' v.ownBlock → K (a.put o.dst (.slice A' n' c')) w') : o.wp P a w K Q := by
  subst hn
  obtain ⟨A', c', w', hrun, h2, h3⟩ := run_app (ty := o.type) hT hown (A := A) (c := c) hl hr h1 hb h63 hbase
  unfold Oper.wp execOp
  simp only [ho, resolve, invoke, builtin, Sem.run_bind, Sem.run_pure, Result.andThen_ok, List.map_toArray, List.map_cons, List.map_nil, hs, hx, hrun]
  exact h A' c' w' h2 h3

/-- At a plain region's list. -/
theorem wpList_app {ops : Array Oper} {rest : List Oper} {o : Oper} {a : Act} {Q : Exit → Act → World → Prop} {T E : TypeId} {bytes : Nat} (hgd : o.guard = none) (hT : SlT P T E bytes) (s x : Operand)
    (ho : o.op = .call { callee := .builtin .append, args := #[s, x], argTypes := #[T, T] })
    {base : Nat} {v : Value} {n : Nat} {xs : List Value} (hown : w.ownsRow base E 1 v n xs) (hs : a.eval s = v)
    {A : Option Addr} {m c : Nat} {news : List Value} (hx : a.eval x = .slice A m c) (hl : news.length = m) (hr : Reads w A news) (h1 : ∀ u ∈ news, u.oneCell' = true)
    (hb : (n + m) * bytes ≤ 140737488355328) (h63 : n + m ≤ maxLen) (hbase : base ≤ w.heap.size) {n' : Nat} (hn : n + m = n')
    (h : ∀ A' c' w', w'.ownsRow base E 1 (.slice A' n' c') n' (xs ++ news) → w.grownBy w' v.ownBlock → wpList P ops Q rest (a.put o.dst (.slice A' n' c')) w') : wpList P ops Q (o :: rest) a w :=
  wpList_plain hgd fun _ hK => wp_app hT s x ho hown hs hx hl hr h1 hb h63 hbase hn fun A' c' w' h2 h3 => hK _ _ (h A' c' w' h2 h3)

/-- At a step of a region that draws its order. -/
theorem step_app {ops : Array Oper} {o : Oper} {a : Act} {K : Act → World → Prop} {Q : Exit → Act → World → Prop} {F : Prop} {T E : TypeId} {bytes : Nat} (hgd : o.guard = none) (hT : SlT P T E bytes) (s x : Operand)
    (ho : o.op = .call { callee := .builtin .append, args := #[s, x], argTypes := #[T, T] })
    {base : Nat} {v : Value} {n : Nat} {xs : List Value} (hown : w.ownsRow base E 1 v n xs) (hs : a.eval s = v)
    {A : Option Addr} {m c : Nat} {news : List Value} (hx : a.eval x = .slice A m c) (hl : news.length = m) (hr : Reads w A news) (h1 : ∀ u ∈ news, u.oneCell' = true)
    (hb : (n + m) * bytes ≤ 140737488355328) (h63 : n + m ≤ maxLen) (hbase : base ≤ w.heap.size) {n' : Nat} (hn : n + m = n')
    (h : ∀ A' c' w', w'.ownsRow base E 1 (.slice A' n' c') n' (xs ++ news) → w.grownBy w' v.ownBlock → K (a.put o.dst (.slice A' n' c')) w') :
    if Region.wanted o (yielded ops a.tmps) = true then Oper.wp P o a w K Q else F := by
  have hw : Region.wanted o (yielded ops a.tmps) = true := by simp [Region.wanted, hgd]
  rw [if_pos hw]
  exact wp_app hT s x ho hown hs hx hl hr h1 hb h63 hbase hn h
end

theorem slB : SlT Try.prog 28 5 1 := by
  obtain ⟨i0, hi0, hz0, hz1, hz2⟩ := info_parts info_u8
  exact ⟨Try.underlying28, i0, _, hi0, hz0, hz1, hz2, rfl⟩
/-- Bytes of the call's own, in blocks from B on. -/
def OwnB (w : World) (B : Nat) (v : Value) (n : Nat) (l : List UInt8) : Prop := w.ownsRow B 5 1 v n (bv l)
theorem OwnB.len {w : World} {B n : Nat} {v : Value} {l : List UInt8} (h : OwnB w B v n l) : l.length = n := by have := h.1; rw [bv_length] at this; omega
theorem OwnB.alloc {w : World} {B n : Nat} {v : Value} {l : List UInt8} (h : OwnB w B v n l) (o : Obj) : OwnB (w.alloc o) B v n l := World.ownsRow.alloc h o
theorem OwnB.drew {w : World} {B n : Nat} {v : Value} {l : List UInt8} (h : OwnB w B v n l) : OwnB w.drew B v n l := World.ownsRow.drew h
theorem OwnB.nil (w : World) (B : Nat) : OwnB w B (.slice none 0 0) 0 [] := World.ownsRow_nil _ _ _ _
theorem OwnB.byt {w : World} {B n c : Nat} {A : Option Addr} {l : List UInt8} (h : OwnB w B (.slice A n c) n l) : Byt w w.heap.size A l := Byt.of_own h
theorem OwnB.mono {w : World} {B B' n : Nat} {v : Value} {l : List UInt8} (h : OwnB w B v n l) (hb : B' ≤ B) : OwnB w B' v n l := own_mono' h hb
/-- Behind an append to it. -/
theorem below_app {w0 w w' : World} {B n : Nat} {v : Value} {l : List UInt8} (hown : OwnB w B v n l) (hb : Below B w0 w) (hs : B ≤ w.heap.size) (hg : w.grownBy w' v.ownBlock) : Below B w0 w' :=
  hb.grown hg hs fun g hg => (hown.lt g hg).1

theorem wpList_appB {ops : Array Oper} {rest : List Oper} {o : Oper} {a : Act} {w : World} {Q : Exit → Act → World → Prop} (hgd : o.guard = none) (s x : Operand)
    (ho : o.op = .call { callee := .builtin .append, args := #[s, x], argTypes := #[28, 28] })
    (B : Nat) (v : Value) (n : Nat) (l : List UInt8) (hown : OwnB w B v n l) (hs : a.eval s = v)
    (A : Option Addr) (m c : Nat) (k : List UInt8) (hx : a.eval x = .slice A m c) (hl : k.length = m) (hr : Reads w A (bv k)) (hb : n + m ≤ 70368744177664) (hbase : B ≤ w.heap.size) (w0 : World) (hbel : Below B w0 w) (n' : Nat) (hn : n + m = n')
    (h : ∀ A' c' w', OwnB w' B (.slice A' n' c') n' (l ++ k) → w.grownBy w' v.ownBlock → Below B w0 w' → wpList Try.prog ops Q rest (a.put o.dst (.slice A' n' c')) w') : wpList Try.prog ops Q (o :: rest) a w :=
  wpList_app hgd slB s x ho hown hs hx (by rw [bv_length]; exact hl) hr (bv_one k) (by omega) (by unfold maxLen; omega) hbase hn fun A' c' w' h2 h3 => h A' c' w' (by unfold OwnB; rw [bv_append]; exact h2) h3 (below_app hown hbel hbase h3)
theorem step_appB {ops : Array Oper} {o : Oper} {a : Act} {w : World} {K : Act → World → Prop} {Q : Exit → Act → World → Prop} {F : Prop} (hgd : o.guard = none) (s x : Operand)
    (ho : o.op = .call { callee := .builtin .append, args := #[s, x], argTypes := #[28, 28] })
    (B : Nat) (v : Value) (n : Nat) (l : List UInt8) (hown : OwnB w B v n l) (hs : a.eval s = v)
    (A : Option Addr) (m c : Nat) (k : List UInt8) (hx : a.eval x = .slice A m c) (hl : k.length = m) (hr : Reads w A (bv k)) (hb : n + m ≤ 70368744177664) (hbase : B ≤ w.heap.size) (w0 : World) (hbel : Below B w0 w) (n' : Nat) (hn : n + m = n')
    (h : ∀ A' c' w', OwnB w' B (.slice A' n' c') n' (l ++ k) → w.grownBy w' v.ownBlock → Below B w0 w' → K (a.put o.dst (.slice A' n' c')) w') :
    if Region.wanted o (yielded ops a.tmps) = true then Oper.wp Try.prog o a w K Q else F :=
  step_app hgd slB s x ho hown hs hx (by rw [bv_length]; exact hl) hr (bv_one k) (by omega) (by unfold maxLen; omega) hbase hn fun A' c' w' h2 h3 => h A' c' w' (by unfold OwnB; rw [bv_append]; exact h2) h3 (below_app hown hbel hbase h3)
/-- One byte, as the walk lays it ahead of an append. -/
theorem reads_one (w : World) (x : UInt8) (t : TypeId) (fr : Nat × Nat) : Reads (w.alloc (.cells #[.int .u8 x.toNat] t fr)) (some ⟨w.heap.size, 0, none⟩) (bv [x]) := reads_new w #[.int .u8 x.toNat] t fr

theorem OwnB.below {w w' : World} {B n : Nat} {v : Value} {l : List UInt8} (h : OwnB w B v n l) (hb : Below w.heap.size w w') : OwnB w' B v n l :=
  ⟨h.1, h.2.imp id fun ⟨g, cap, cur, hv, hB, hg, r⟩ => ⟨g, cap, cur, hv, hB, (hb.block g (Array.getElem?_eq_some_iff.1 hg).1).trans hg, r⟩⟩
/-- Two values that own different rows. -/
def Apart (v1 v2 : Value) : Prop := v2.ownBlock = none ∨ v2.ownBlock ≠ v1.ownBlock
theorem Apart.kept {w w' : World} {B n : Nat} {v1 v2 : Value} {l : List UInt8} (h : OwnB w B v2 n l) (hg : w.grownBy w' v1.ownBlock) (ha : Apart v1 v2) : OwnB w' B v2 n l :=
  World.ownsRow.kept h hg ha
theorem Apart.symm {v1 v2 : Value} (h : Apart v1 v2) : Apart v2 v1 := by
  unfold Apart at *
  cases h1 : v1.ownBlock with
  | none => exact .inl rfl
  | some g =>
    right
    rcases h with h | h
    · rw [h]; simp
    · rw [h1] at h; exact fun e => h e.symm
theorem Apart.app {w : World} {B n : Nat} {v1 v2 v1' : Value} {l : List UInt8} (ha : Apart v1 v2) (h : OwnB w B v2 n l) (hat : v1'.ownBlock = v1.ownBlock ∨ v1'.ownBlock = some w.heap.size) : Apart v1' v2 := by
  rcases hat with e | e
  · unfold Apart; rw [e]; exact ha
  · unfold Apart
    rw [e]
    right
    intro e2
    have := h.lt _ e2
    omega
theorem Apart.nil (v : Value) : Apart v (.slice none 0 0) := .inl rfl

theorem run_app2 {P : Program} {w : World} {T E ty : TypeId} {bytes : Nat} (hT : SlT P T E bytes) {base : Nat} {v : Value} {n : Nat} {xs : List Value} (hown : w.ownsRow base E 1 v n xs)
    {A : Option Addr} {m c : Nat} {news : List Value} (hl : news.length = m) (hr : Reads w A news) (h1 : ∀ u ∈ news, u.oneCell' = true)
    (hb : (n + m) * bytes ≤ 140737488355328) (h63 : n + m ≤ maxLen) (hbase : base ≤ w.heap.size) :
    ∃ A' c' w', (Builtin.append_ #[T, T] ty #[v, .slice A m c]).run P w = .ok (.slice A' (n + m) c') w' ∧ w'.ownsRow base E 1 (.slice A' (n + m) c') (n + m) (xs ++ news) ∧ w.grownBy w' v.ownBlock ∧
      ((Value.slice A' (n + m) c').ownBlock = v.ownBlock ∨ (Value.slice A' (n + m) c').ownBlock = some w.heap.size) := by
  obtain ⟨i, z, hi, hz, hs, hby, hzs⟩ := hT.info
  rcases A with _ | ad
  · have hm : m = 0 := by
      rcases Nat.eq_zero_or_pos m with h | h
      · exact h
      · obtain ⟨_, h, _⟩ := hr (by omega)
        cases h
    subst hm
    obtain ⟨A', c', rfl, _⟩ := own_slice hown
    obtain rfl : news = [] := List.eq_nil_of_length_eq_zero hl
    exact ⟨A', c', w, run_app_zero i hT.und hi hown c, by simpa using hown, World.grownBy.refl _ _, .inl (by cases A' <;> rfl)⟩
  · have hc : ∀ j u, news[j]? = some u → w.cell? (ad.add j) = some u := fun j u hu => by
      obtain ⟨_, h, hc⟩ := hr (Nat.lt_of_le_of_lt (Nat.zero_le _) (List.getElem?_eq_some_iff.1 hu).1)
      injection h with h
      subst h
      exact hc j u hu
    obtain ⟨v', w', hrun, h2, h3, _, h5⟩ := run_append_own_at (P := P) w base T ty E i z 1 bytes hT.und hi hz hs hby hzs (by omega) v n xs hown ad m c news (by omega) hc h1 h63 hb hbase
    obtain ⟨A', c', rfl, _⟩ := own_slice h2
    exact ⟨A', c', w', hrun, h2, h3, h5⟩

theorem wpList_appB2 {ops : Array Oper} {rest : List Oper} {o : Oper} {a : Act} {w : World} {Q : Exit → Act → World → Prop} (hgd : o.guard = none) (s x : Operand)
    (ho : o.op = .call { callee := .builtin .append, args := #[s, x], argTypes := #[28, 28] })
    (B : Nat) (v : Value) (n : Nat) (l : List UInt8) (hown : OwnB w B v n l) (hs : a.eval s = v)
    (A : Option Addr) (m c : Nat) (k : List UInt8) (hx : a.eval x = .slice A m c) (hl : k.length = m) (hr : Reads w A (bv k)) (hb : n + m ≤ 70368744177664) (hbase : B ≤ w.heap.size) (w0 : World) (hbel : Below B w0 w) (n' : Nat) (hn : n + m = n')
    (h : ∀ A' c' w', OwnB w' B (.slice A' n' c') n' (l ++ k) → w.grownBy w' v.ownBlock → Below B w0 w' → ((Value.slice A' n' c').ownBlock = v.ownBlock ∨ (Value.slice A' n' c').ownBlock = some w.heap.size) →
      wpList Try.prog ops Q rest (a.put o.dst (.slice A' n' c')) w') : wpList Try.prog ops Q (o :: rest) a w := by
  subst hn
  refine wpList_plain hgd fun K hK => ?_
  obtain ⟨A', c', w', hrun, h2, h3, h4⟩ := run_app2 (ty := o.type) slB hown (A := A) (m := m) (c := c) (news := bv k) (by rw [bv_length]; exact hl) hr (bv_one k) (by omega) (by unfold maxLen; omega) hbase
  unfold Oper.wp execOp
  simp only [ho, resolve, invoke, builtin, Sem.run_bind, Sem.run_pure, Result.andThen_ok, List.map_toArray, List.map_cons, List.map_nil, hs, hx, hrun]
  exact hK _ _ (h A' c' w' (by unfold OwnB; rw [bv_append]; exact h2) h3 (below_app hown hbel hbase h3) h4)
theorem OwnB.cap {w : World} {B n c : Nat} {A : Option Addr} {l : List UInt8} (h : OwnB w B (.slice A n c) n l) : n ≤ c := by
  obtain ⟨_, _, hv, hc⟩ := own_slice h
  injection hv with _ _ h3
  omega
theorem reads_byte (w : World) (z : Int) (x : UInt8) (hz : z = (x.toNat : Int)) (t : TypeId) (fr : Nat × Nat) : Reads (w.alloc (.cells #[.int .u8 z] t fr)) (some ⟨w.heap.size, 0, none⟩) (bv [x]) := by
  subst hz
  exact reads_one w x t fr
theorem reads_four (w : World) (z0 z1 z2 z3 : Int) (l : List UInt8) (hz : [Value.int .u8 z0, .int .u8 z1, .int .u8 z2, .int .u8 z3] = bv l) (t : TypeId) (fr : Nat × Nat) : Reads (w.alloc (.cells #[.int .u8 z0, .int .u8 z1, .int .u8 z2, .int .u8 z3] t fr)) (some ⟨w.heap.size, 0, none⟩) (bv l) := by
  rw [← hz]
  exact reads_new w _ t fr
theorem OwnB.cap_max {w : World} {B n c : Nat} {A : Option Addr} {l : List UInt8} (h : OwnB w B (.slice A n c) n l) : c ≤ 9223372036854775807 := by
  rcases h.2 with ⟨hv, _⟩ | ⟨g, cap, cur, hv, _, _, _, hm, _⟩
  · injection hv with _ _ h3
    omega
  · injection hv with _ _ h3
    unfold maxLen at hm
    omega
/-- What Told tells, as a slice of a known length. -/
theorem Told.at {e : TypeId} {w0 w' : World} {v : Value} {l : List UInt8} {n : Nat} (h : Told e w0 w' v l) (hn : l.length = n) : ∃ A c, v = .slice A n c ∧ n ≤ c ∧ Byt w' w'.heap.size A l ∧ Below w0.heap.size w0 w' ∧ w'.ownsRow w0.heap.size e 1 (.slice A n c) n (bv l) := by
  subst hn
  have h' := h
  obtain ⟨A, c, rfl, hc, hb⟩ := h.slice
  exact ⟨A, c, rfl, hc, hb, h'.2, h'.1⟩
end Go.Proofs.Ytdigfbgjefffiaa.Sh
