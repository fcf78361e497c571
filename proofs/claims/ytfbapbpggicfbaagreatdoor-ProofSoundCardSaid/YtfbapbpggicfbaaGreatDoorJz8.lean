/-
  Slices of credentials: a slice that reads as a list of them; append in one law.
-/
import Derived.Test.YtfbapbpggicfbaaGreatDoorJz4
import Derived.Test.YtfbapbpggicfbaaGreatDoorJz7
set_option linter.unusedVariables false
set_option linter.unusedSimpArgs false
namespace Go.Proofs.YtfbapbpggicfbaaGreatDoor.Sh
open Go Go.RowKit

/-- The row of a slice type in the program's table: elements of some cells. -/
structure SlN (P : Program) (T E : TypeId) (size bytes : Nat) : Prop where
  und : P.underlying T = some (.slice E)
  info : ∃ (i : TypeInfo) (z : Value), P.info? E = some i ∧ i.zero = some z ∧ i.size = size ∧ i.bytes = bytes ∧ z.cells.size = size
  pos : 0 < size
theorem own_sliceN {w : World} {base size : Nat} {e : TypeId} {v : Value} {n : Nat} {xs : List Value} (h : w.ownsRow base e size v n xs) : ∃ A c, v = .slice A n c ∧ n ≤ c ∧ c ≤ 9223372036854775807 := by
  rcases h.2 with ⟨rfl, rfl⟩ | ⟨g, cap, cur, rfl, _, _, hc, hm, _⟩
  · exact ⟨none, 0, rfl, Nat.le_refl _, by omega⟩
  · exact ⟨_, cap, rfl, hc, by unfold maxLen at hm; exact hm⟩
section
variable {P : Program} {w : World}
theorem run_appN {T E ty : TypeId} {size bytes : Nat} (hT : SlN P T E size bytes) {base : Nat} {v : Value} {n : Nat} {xs : List Value} (hown : w.ownsRow base E size v n xs)
    {A : Option Addr} {m c : Nat} {news : List Value} (hl : news.length = m * size) (hr : Reads w A news) (h1 : ∀ u ∈ news, u.oneCell' = true)
    (hb : (n + m) * bytes ≤ 140737488355328) (h63 : n + m ≤ maxLen) (hbase : base ≤ w.heap.size) :
    ∃ A' c' w', (Builtin.append_ #[T, T] ty #[v, .slice A m c]).run P w = .ok (.slice A' (n + m) c') w' ∧ w'.ownsRow base E size (.slice A' (n + m) c') (n + m) (xs ++ news) ∧ w.grownBy w' v.ownBlock ∧
      ((Value.slice A' (n + m) c').ownBlock = v.ownBlock ∨ (Value.slice A' (n + m) c').ownBlock = some w.heap.size) := by
  obtain ⟨i, z, hi, hz, hs, hby, hzs⟩ := hT.info
  have hpos := hT.pos
  rcases A with _ | ad
  · have hm : m = 0 := by
      rcases Nat.eq_zero_or_pos m with h | h
      · exact h
      · obtain ⟨_, h, _⟩ := hr (by rw [hl]; exact Nat.mul_pos h hpos)
        cases h
    subst hm
    obtain ⟨A', c', rfl, _⟩ := own_sliceN hown
    obtain rfl : news = [] := List.eq_nil_of_length_eq_zero (by rw [hl]; omega)
    exact ⟨A', c', w, run_app_zero i hT.und hi hown c, by simpa using hown, World.grownBy.refl _ _, .inl (by cases A' <;> rfl)⟩
  · have hc : ∀ j u, news[j]? = some u → w.cell? (ad.add j) = some u := fun j u hu => by
      obtain ⟨_, h, hc⟩ := hr (Nat.lt_of_le_of_lt (Nat.zero_le _) (List.getElem?_eq_some_iff.1 hu).1)
      injection h with h
      subst h
      exact hc j u hu
    obtain ⟨v', w', hrun, h2, h3, _, h5⟩ := run_append_own_at (P := P) w base T ty E i z size bytes hT.und hi hz hs hby hzs hpos v n xs hown ad m c news hl hc h1 h63 hb hbase
    obtain ⟨A', c', rfl, _⟩ := own_sliceN h2
    exact ⟨A', c', w', hrun, h2, h3, h5⟩
theorem wpList_appN {ops : Array Oper} {rest : List Oper} {o : Oper} {a : Act} {Q : Exit → Act → World → Prop} {T E : TypeId} {size bytes : Nat} (hgd : o.guard = none) (hT : SlN P T E size bytes) (s x : Operand)
    (ho : o.op = .call { callee := .builtin .append, args := #[s, x], argTypes := #[T, T] })
    {base : Nat} {v : Value} {n : Nat} {xs : List Value} (hown : w.ownsRow base E size v n xs) (hs : a.eval s = v)
    {A : Option Addr} {m c : Nat} {news : List Value} (hx : a.eval x = .slice A m c) (hl : news.length = m * size) (hr : Reads w A news) (h1 : ∀ u ∈ news, u.oneCell' = true)
    (hb : (n + m) * bytes ≤ 140737488355328) (h63 : n + m ≤ maxLen) (hbase : base ≤ w.heap.size) {n' : Nat} (hn : n + m = n')
    (h : ∀ A' c' w', w'.ownsRow base E size (.slice A' n' c') n' (xs ++ news) → w.grownBy w' v.ownBlock → ((Value.slice A' n' c').ownBlock = v.ownBlock ∨ (Value.slice A' n' c').ownBlock = some w.heap.size) → wpList P ops Q rest (a.put o.dst (.slice A' n' c')) w') : wpList P ops Q (o :: rest) a w := by
  subst hn
  refine wpList_plain hgd fun _ hK => ?_
  obtain ⟨A', c', w', hrun, h2, h3, h4⟩ := run_appN (ty := o.type) hT hown (A := A) (c := c) hl hr h1 hb h63 hbase
  unfold Oper.wp execOp
  simp only [ho, resolve, invoke, builtin, Sem.run_bind, Sem.run_pure, Result.andThen_ok, List.map_toArray, List.map_cons, List.map_nil, hs, hx, hrun]
  exact hK _ _ (h A' c' w' h2 h3 h4)
end

/-- The cells of credentials, one behind another. -/
def cv : List Crd → List Value
  | [] => []
  | c :: t => c.cells ++ cv t
theorem cells_len (c : Crd) : c.cells.length = 9 := rfl
theorem cv_length (l : List Crd) : (cv l).length = l.length * 9 := by
  induction l with
  | nil => rfl
  | cons c t ih => simp only [cv, List.length_append, ih, cells_len, List.length_cons]; omega
theorem cv_append (a b : List Crd) : cv (a ++ b) = cv a ++ cv b := by
  induction a with
  | nil => rfl
  | cons c t ih => simp only [List.cons_append, cv, ih, List.append_assoc]
theorem cv_one (l : List Crd) : ∀ u ∈ cv l, u.oneCell' = true := by
  induction l with
  | nil => intro u hu; cases hu
  | cons c t ih =>
    intro u hu
    rcases List.mem_append.1 hu with h | h
    · simp only [Crd.cells, List.mem_cons, List.not_mem_nil, or_false] at h
      rcases h with rfl | rfl | rfl | rfl | rfl | rfl | rfl | rfl | rfl <;> rfl
    · exact ih u h
theorem cv_get {l : List Crd} {j k : Nat} {c : Crd} (h : l[j]? = some c) (hk : k < 9) : (cv l)[j * 9 + k]? = c.cells[k]? := by
  induction l generalizing j with
  | nil => simp at h
  | cons x t ih =>
    cases j with
    | zero =>
      simp at h; subst h
      rw [cv, List.getElem?_append_left (by rw [cells_len]; omega)]
      simp
    | succ j =>
      rw [cv, List.getElem?_append_right (by rw [cells_len]; omega), cells_len, show (j + 1) * 9 + k - 9 = j * 9 + k by omega]
      exact ih (by simpa using h)
theorem cv_take (l : List Crd) (k : Nat) : cv (l.take k) = (cv l).take (k * 9) := by
  induction l generalizing k with
  | nil => simp [cv]
  | cons x t ih =>
    cases k with
    | zero => simp [cv]
    | succ k =>
      rw [List.take_succ_cons, cv, cv, ih, List.take_append, cells_len, List.take_of_length_le (l := x.cells) (by rw [cells_len]; omega), show (k + 1) * 9 - 9 = k * 9 by omega]
theorem cv_drop (l : List Crd) (k : Nat) : cv (l.drop k) = (cv l).drop (k * 9) := by
  induction l generalizing k with
  | nil => simp [cv]
  | cons x t ih =>
    cases k with
    | zero => simp
    | succ k =>
      rw [List.drop_succ_cons, cv, ih, List.drop_append, cells_len, List.drop_of_length_le (l := x.cells) (by rw [cells_len]; omega), List.nil_append, show (k + 1) * 9 - 9 = k * 9 by omega]
/-- A: where credentials lie, below block B. -/
def Crs (w : World) (B : Nat) (A : Option Addr) (l : List Crd) : Prop :=
  0 < l.length → ∃ ad, A = some ad ∧ ad.block < B ∧ ∀ i u, (cv l)[i]? = some u → w.cell? (ad.add i) = some u
section
variable {w w' : World} {B B' : Nat} {A : Option Addr} {l : List Crd}
theorem Crs.nil : Crs w B A [] := fun h => absurd h (by simp)
theorem Crs.reads (h : Crs w B A l) : Reads w A (cv l) := fun hn => by
  obtain ⟨ad, e, _, hc⟩ := h (by rw [cv_length] at hn; omega)
  exact ⟨ad, e, hc⟩
theorem Crs.keep (h : Crs w B A l) (hk : ∀ p : Addr, p.block < B → w'.cell? p = w.cell? p) : Crs w' B A l := fun hn => by
  obtain ⟨ad, e, hb, hc⟩ := h hn
  exact ⟨ad, e, hb, fun j x hx => (hk _ (by rw [block_add]; exact hb)).trans (hc j x hx)⟩
theorem Crs.more (h : Crs w B A l) (hB : B ≤ B') : Crs w B' A l := fun hn => by
  obtain ⟨ad, e, hb, hc⟩ := h hn
  exact ⟨ad, e, by omega, hc⟩
theorem Crs.below (h : Crs w B A l) (hb : Below B w w') : Crs w' B A l := h.keep fun _ hp => hb.cell hp
theorem Crs.head {hi : Nat} (h : Crs w B A l) : Crs w B A (l.take hi) := by
  intro hn
  simp only [List.length_take] at hn
  obtain ⟨ad, e, hb, hc⟩ := h (by omega)
  refine ⟨ad, e, hb, fun j x hx => hc j x ?_⟩
  rw [cv_take, List.getElem?_take] at hx
  split at hx
  · exact hx
  · cases hx
/-- 's[lo:]'. -/
theorem Crs.tail {lo cap : Nat} (h : Crs w B A l) (h3 : l.length ≤ cap) : Crs w B (if cap = lo then A else A.map (·.add (lo * 9))) (l.drop lo) := by
  intro hn
  simp only [List.length_drop] at hn
  obtain ⟨ad, rfl, hb, hc⟩ := h (by omega)
  rw [if_neg (by omega)]
  refine ⟨ad.add (lo * 9), rfl, by rw [block_add]; exact hb, fun j x hx => ?_⟩
  rw [add_add]
  refine hc _ x ?_
  rwa [cv_drop, List.getElem?_drop] at hx
theorem Crs.get {j : Nat} {c : Crd} (h : Crs w B A l) (hj : l[j]? = some c) : ∃ ad aj, A = some ad ∧ ad.block < B ∧ ad.add (j * 9) = aj ∧ aj.block = ad.block ∧
    w.cell? aj = some (.int .i64 c.d) ∧ w.cell? ⟨aj.block, aj.off + 1, none⟩ = some (.int .i64 c.q) ∧ w.cell? ⟨aj.block, aj.off + 2, none⟩ = some (.string c.nm) ∧ w.cell? ⟨aj.block, aj.off + 3, none⟩ = some (.int .i64 c.kd) ∧
    w.cell? ⟨aj.block, aj.off + 4, none⟩ = some (.string c.wh) ∧ w.cell? ⟨aj.block, aj.off + 5, none⟩ = some (.string c.ao) ∧ w.cell? ⟨aj.block, aj.off + 6, none⟩ = some (.string c.an) ∧
    w.cell? ⟨aj.block, aj.off + 7, none⟩ = some (.string c.bo) ∧ w.cell? ⟨aj.block, aj.off + 8, none⟩ = some (.string c.bn) := by
  obtain ⟨ad, e, hb, hc⟩ := h (Nat.lt_of_le_of_lt (Nat.zero_le _) (List.getElem?_eq_some_iff.1 hj).1)
  have key : ∀ k v, k < 9 → c.cells[k]? = some v → w.cell? ((ad.add (j * 9)).add k) = some v := fun k v hk hv => by
    rw [add_add]
    exact hc _ v ((cv_get hj hk).trans hv)
  have kp : ∀ k v, 0 < k → k < 9 → c.cells[k]? = some v → w.cell? ⟨(ad.add (j * 9)).block, (ad.add (j * 9)).off + k, none⟩ = some v := fun k v h0 hk hv => by
    rw [← add_pos _ k h0]
    exact key k v hk hv
  refine ⟨ad, ad.add (j * 9), e, hb, rfl, block_add _ _, ?_, kp 1 _ (by omega) (by omega) rfl, kp 2 _ (by omega) (by omega) rfl, kp 3 _ (by omega) (by omega) rfl, kp 4 _ (by omega) (by omega) rfl, kp 5 _ (by omega) (by omega) rfl, kp 6 _ (by omega) (by omega) rfl, kp 7 _ (by omega) (by omega) rfl, kp 8 _ (by omega) (by omega) rfl⟩
  have := key 0 _ (by omega) (rfl : c.cells[0]? = some (.int .i64 c.d))
  rwa [add_zero] at this
end
theorem slC : SlN Tryz.prog 22 43 9 120 := by
  obtain ⟨i0, hi0, hz0, hz1, hz2⟩ := info_parts (P := Tryz.prog) (e := 43) (z := .agg Crd.zero.cells.toArray) (size := 9) (bytes := 120) (by kernel_rfl)
  exact ⟨Tryz.underlying22, ⟨i0, _, hi0, hz0, hz1, hz2, rfl⟩, by omega⟩
/-- Credentials of the call's own, in blocks from B on. -/
def OwnC (w : World) (B : Nat) (v : Value) (n : Nat) (l : List Crd) : Prop := w.ownsRow B 43 9 v n (cv l)
section
variable {w w' : World} {B B' n c : Nat} {v : Value} {A : Option Addr} {l : List Crd}
theorem OwnC.len (h : OwnC w B v n l) : l.length = n := by have := h.1; rw [cv_length] at this; omega
theorem OwnC.alloc (h : OwnC w B v n l) (o : Obj) : OwnC (w.alloc o) B v n l := World.ownsRow.alloc h o
theorem OwnC.nil (w : World) (B : Nat) : OwnC w B (.slice none 0 0) 0 [] := World.ownsRow_nil _ _ _ _
theorem OwnC.mono (h : OwnC w B v n l) (hb : B' ≤ B) : OwnC w B' v n l := own_mono' h hb
theorem OwnC.below (h : OwnC w B v n l) (hb : Below w.heap.size w w') : OwnC w' B v n l :=
  World.ownsRow.kept h ⟨hb.os, hb.tape, hb.output, hb.size, fun k hk _ => hb.block k hk⟩ (row := none) (by cases hv : v.ownBlock <;> simp)
theorem OwnC.crs (h : OwnC w B (.slice A n c) n l) : Crs w w.heap.size A l := by
  intro hn
  have hl := h.len
  rcases h.2 with ⟨hv, _⟩ | ⟨g, cap, cur, hv, _, hg, _⟩
  · simp only [Value.slice.injEq] at hv; omega
  · simp only [Value.slice.injEq] at hv
    obtain ⟨rfl, _, _⟩ := hv
    exact ⟨_, rfl, (Array.getElem?_eq_some_iff.1 hg).1, fun i u hu => World.ownsRow.cells h (g := g) rfl i u hu⟩
theorem OwnC.slice (h : OwnC w B v n l) : ∃ A c, v = .slice A n c ∧ n ≤ c ∧ c ≤ 9223372036854775807 := own_sliceN h
theorem below_appC {w0 : World} (hown : OwnC w B v n l) (hb : Below B w0 w) (hs : B ≤ w.heap.size) (hg : w.grownBy w' v.ownBlock) : Below B w0 w' :=
  hb.grown hg hs fun g hg => (World.ownsRow.lt hown g hg).1
end
theorem wpList_appC {ops : Array Oper} {rest : List Oper} {o : Oper} {a : Act} {w : World} {Q : Exit → Act → World → Prop} (hgd : o.guard = none) (s x : Operand)
    (ho : o.op = .call { callee := .builtin .append, args := #[s, x], argTypes := #[22, 22] })
    (B : Nat) (v : Value) (n : Nat) (l : List Crd) (hown : OwnC w B v n l) (hs : a.eval s = v)
    (A : Option Addr) (m c : Nat) (k : List Crd) (hx : a.eval x = .slice A m c) (hl : k.length = m) (hr : Reads w A (cv k)) (hb : n + m ≤ 1000000000000) (hbase : B ≤ w.heap.size) (w0 : World) (hbel : Below B w0 w) (n' : Nat) (hn : n + m = n')
    (h : ∀ A' c' w', OwnC w' B (.slice A' n' c') n' (l ++ k) → w.grownBy w' v.ownBlock → Below B w0 w' → ((Value.slice A' n' c').ownBlock = v.ownBlock ∨ (Value.slice A' n' c').ownBlock = some w.heap.size) → wpList Tryz.prog ops Q rest (a.put o.dst (.slice A' n' c')) w') : wpList Tryz.prog ops Q (o :: rest) a w :=
  wpList_appN hgd slC s x ho hown hs hx (by rw [cv_length, hl]) hr (cv_one k) (by omega) (by unfold maxLen; omega) hbase hn fun A' c' w' h2 h3 h4 => h A' c' w' (by unfold OwnC; rw [cv_append]; exact h2) h3 (below_appC hown hbel hbase h3) h4
/-- One credential in a block of its own, as a source. -/
theorem reads_cr (w : World) (c : Crd) (t : TypeId) (fr : Nat × Nat) : Reads (w.alloc (.cells c.cells.toArray t fr)) (some ⟨w.heap.size, 0, none⟩) (cv [c]) := by
  have := reads_new w c.cells.toArray t fr
  simpa [cv] using this
/-- A slice that lies in another row than v owns. -/
def FarV (A : Option Addr) (v : Value) : Prop := ∀ ad, A = some ad → some ad.block ≠ v.ownBlock
theorem Crs.far {w w' : World} {B : Nat} {A : Option Addr} {l : List Crd} {v : Value} (h : Crs w B A l) (hB : B ≤ w.heap.size) (hg : w.grownBy w' v.ownBlock) (hf : FarV A v) : Crs w' B A l := fun hn => by
  obtain ⟨ad, e, hb, hc⟩ := h hn
  exact ⟨ad, e, hb, fun j x hx => (hg.cell_far _ (by rw [block_add]; omega) (by rw [block_add]; exact hf ad e)).trans (hc j x hx)⟩
/-- Behind an append to v: the slice lies apart from what it owns then. -/
theorem FarV.app {w : World} {A : Option Addr} {v v' : Value} (hf : FarV A v) (hb : ∀ ad, A = some ad → ad.block < w.heap.size) (hat : v'.ownBlock = v.ownBlock ∨ v'.ownBlock = some w.heap.size) : FarV A v' := fun ad e => by
  rcases hat with h | h
  · rw [h]; exact hf ad e
  · rw [h]
    intro e2
    injection e2 with e2
    have := hb ad e
    omega
theorem FarV.nil (A : Option Addr) : FarV A (.slice none 0 0) := fun _ _ e => by cases e
theorem FarV.own {A : Option Addr} {n c : Nat} {v : Value} (h : (Value.slice A n c).ownBlock = none ∨ (Value.slice A n c).ownBlock ≠ v.ownBlock) : FarV A v := fun ad e => by
  subst e
  rcases h with h | h
  · cases h
  · exact h
theorem OwnC.keptBy {w w' : World} {B n : Nat} {v u : Value} {l : List Crd} (h : OwnC w B v n l) (hg : w.grownBy w' u.ownBlock) (ha : v.ownBlock = none ∨ v.ownBlock ≠ u.ownBlock) : OwnC w' B v n l := World.ownsRow.kept h hg ha
theorem OwnC.lt {w : World} {B n : Nat} {v : Value} {l : List Crd} (h : OwnC w B v n l) : ∀ k, v.ownBlock = some k → B ≤ k ∧ k < w.heap.size := World.ownsRow.lt h
/-- What is owned lies in another row than a new one. -/
theorem OwnC.newer {w : World} {B n : Nat} {v u : Value} {l : List Crd} (h : OwnC w B v n l) (hu : u.ownBlock = none ∨ u.ownBlock = some w.heap.size) : v.ownBlock = none ∨ v.ownBlock ≠ u.ownBlock := by
  cases hv : v.ownBlock with
  | none => exact .inl rfl
  | some k =>
    right
    have := (h.lt k hv).2
    rcases hu with hu | hu <;> rw [hu]
    · simp
    · intro e; injection e with e; omega
end Go.Proofs.YtfbapbpggicfbaaGreatDoor.Sh
