/-
  append to a row of the call's own, of one element and of many; rows that lie apart. Nothing of the program's own text.
-/
import Derived.Test.YtfbapbpggicfbaaGreatDoorJz9
import Derived.Test.YtfbapbpggicfbaaGreatDoorJz10
import Derived.Test.YtfbapbpggicfbaaGreatDoorJz6
import Derived.BigQuiet
set_option linter.unusedVariables false
set_option linter.unusedSimpArgs false
namespace Go.Proofs.YtfbapbpggicfbaaGreatDoor.Sh
open Go Go.RowKit

set_option linter.unusedVariables false
set_option linter.unusedSimpArgs false
section
variable {α : Type} {E : Enc α} {P : Program} {w : World}
theorem wp_app1 {o : Oper} {a : Act} {K : Act → World → Prop} {Q : Exit → Act → World → Prop} {T S : TypeId} {bytes : Nat} (hT : SlN P T S E.k bytes) (s x : Operand)
    (ho : o.op = .call { callee := .builtin .append, args := #[s, x], argTypes := #[T, T] })
    {B : Nat} {v : Value} {l : List α} (hown : Own (E := E) w B S v l) (hs : a.eval s = v)
    {ad : Addr} {c : Nat} (y : α) (hx : a.eval x = .slice (some ad) 1 c) (hr : Reads w (some ad) (E.cells y))
    (hl : l.length ≤ 1000000000000) (hby : bytes ≤ 64) (hbase : B ≤ w.heap.size)
    (h : ∀ A' c' w', Own (E := E) w' B S (.slice A' (l.length + 1) c') (l ++ [y]) → w.grownBy w' v.ownBlock → ((Value.slice A' (l.length + 1) c').ownBlock = v.ownBlock ∨ (Value.slice A' (l.length + 1) c').ownBlock = some w.heap.size) → K (a.put o.dst (.slice A' (l.length + 1) c')) w') : o.wp P a w K Q := by
  have hm : (l.length + 1) * bytes ≤ (l.length + 1) * 64 := Nat.mul_le_mul_left _ hby
  obtain ⟨A', c', w', hrun, h2, h3, h4⟩ := run_appN (ty := o.type) hT hown (A := some ad) (m := 1) (c := c) (news := E.cells y) (by rw [E.len]; omega) hr (E.one y) (by omega) (by unfold maxLen; omega) hbase
  have h5 : Own (E := E) w' B S (.slice A' (l.length + 1) c') (l ++ [y]) := by
    unfold Own
    rw [ev_append, List.length_append, List.length_singleton]
    simpa [ev] using h2
  unfold Oper.wp execOp
  simp only [ho, resolve, invoke, builtin, Sem.run_bind, Sem.run_pure, Result.andThen_ok, List.map_toArray, List.map_cons, List.map_nil, hs, hx, hrun]
  exact h A' c' w' h5 h3 h4
theorem wpList_app1 {ops : Array Oper} {rest : List Oper} {o : Oper} {a : Act} {Q : Exit → Act → World → Prop} (hgd : o.guard = none) {T S : TypeId} {bytes : Nat} (hT : SlN P T S E.k bytes) (s x : Operand)
    (ho : o.op = .call { callee := .builtin .append, args := #[s, x], argTypes := #[T, T] })
    {B : Nat} {v : Value} {l : List α} (hown : Own (E := E) w B S v l) (hs : a.eval s = v)
    {ad : Addr} {c : Nat} (y : α) (hx : a.eval x = .slice (some ad) 1 c) (hr : Reads w (some ad) (E.cells y))
    (hl : l.length ≤ 1000000000000) (hby : bytes ≤ 64) (hbase : B ≤ w.heap.size)
    (h : ∀ A' c' w', Own (E := E) w' B S (.slice A' (l.length + 1) c') (l ++ [y]) → w.grownBy w' v.ownBlock → ((Value.slice A' (l.length + 1) c').ownBlock = v.ownBlock ∨ (Value.slice A' (l.length + 1) c').ownBlock = some w.heap.size) → wpList P ops Q rest (a.put o.dst (.slice A' (l.length + 1) c')) w') : wpList P ops Q (o :: rest) a w :=
  wpList_plain hgd fun _ hK => wp_app1 hT s x ho hown hs y hx hr hl hby hbase fun A' c' w' h2 h3 h4 => hK _ _ (h A' c' w' h2 h3 h4)
theorem step_app1 {ops : Array Oper} {o : Oper} {a : Act} {K : Act → World → Prop} {Q : Exit → Act → World → Prop} {F : Prop} (hgd : o.guard = none) {T S : TypeId} {bytes : Nat} (hT : SlN P T S E.k bytes) (s x : Operand)
    (ho : o.op = .call { callee := .builtin .append, args := #[s, x], argTypes := #[T, T] })
    {B : Nat} {v : Value} {l : List α} (hown : Own (E := E) w B S v l) (hs : a.eval s = v)
    {ad : Addr} {c : Nat} (y : α) (hx : a.eval x = .slice (some ad) 1 c) (hr : Reads w (some ad) (E.cells y))
    (hl : l.length ≤ 1000000000000) (hby : bytes ≤ 64) (hbase : B ≤ w.heap.size)
    (h : ∀ A' c' w', Own (E := E) w' B S (.slice A' (l.length + 1) c') (l ++ [y]) → w.grownBy w' v.ownBlock → ((Value.slice A' (l.length + 1) c').ownBlock = v.ownBlock ∨ (Value.slice A' (l.length + 1) c').ownBlock = some w.heap.size) → K (a.put o.dst (.slice A' (l.length + 1) c')) w') :
    if Region.wanted o (yielded ops a.tmps) = true then Oper.wp P o a w K Q else F := by
  have hw : Region.wanted o (yielded ops a.tmps) = true := by simp [Region.wanted, hgd]
  rw [if_pos hw]
  exact wp_app1 hT s x ho hown hs y hx hr hl hby hbase h
end
theorem Own.below {α : Type} {E : Enc α} {w w' : World} {B : Nat} {T : TypeId} {v : Value} {l : List α} (h : Own (E := E) w B T v l) (hb : Below w.heap.size w w') : Own (E := E) w' B T v l :=
  h.kept fun g e => hb.block g (h.lt g e).2
theorem own_els {α : Type} {E : Enc α} {w : World} {B n c : Nat} {T : TypeId} {A : Option Addr} {l : List α} (h : Own (E := E) w B T (.slice A n c) l) : Els E w w.heap.size A l := by
  obtain ⟨A', c', e, -, -, h'⟩ := h.els
  simp only [Value.slice.injEq] at e
  rw [e.1]
  exact h'
section
variable {α : Type} {E : Enc α} {w : World} {B : Nat} {A : Option Addr} {l : List α}
theorem Els.reads (h : Els E w B A l) : Reads w A (ev E l) := fun hn => by
  have hk := E.pos
  have : 0 < l.length := by
    rcases Nat.eq_zero_or_pos l.length with h0 | h0
    · rw [ev_length, h0, Nat.zero_mul] at hn; omega
    · exact h0
  obtain ⟨ad, e, _, hc⟩ := h this
  exact ⟨ad, e, hc⟩
theorem Els.head {hi : Nat} (h : Els E w B A l) : Els E w B A (l.take hi) := by
  intro hn
  simp only [List.length_take] at hn
  obtain ⟨ad, e, hb, hc⟩ := h (by omega)
  refine ⟨ad, e, hb, fun j x hx => hc j x ?_⟩
  rw [ev_take, List.getElem?_take] at hx
  split at hx
  · exact hx
  · cases hx
theorem ev_drop (l : List α) (n : Nat) : ev E (l.drop n) = (ev E l).drop (n * E.k) := by
  induction l generalizing n with
  | nil => simp [ev]
  | cons x t ih =>
    cases n with
    | zero => simp
    | succ n =>
      rw [List.drop_succ_cons, ev, ih, List.drop_append, E.len, List.drop_of_length_le (l := E.cells x) (by rw [E.len, Nat.add_mul]; omega), List.nil_append, show (n + 1) * E.k - E.k = n * E.k by rw [Nat.add_mul, Nat.one_mul]; omega]
/-- 's[lo:]'. -/
theorem Els.tail {lo cap : Nat} (h : Els E w B A l) (h3 : l.length ≤ cap) : Els E w B (if cap = lo then A else A.map (·.add (lo * E.k))) (l.drop lo) := by
  intro hn
  simp only [List.length_drop] at hn
  obtain ⟨ad, rfl, hb, hc⟩ := h (by omega)
  rw [if_neg (by omega)]
  refine ⟨ad.add (lo * E.k), rfl, by rw [block_add]; exact hb, fun j x hx => ?_⟩
  rw [add_add]
  refine hc _ x ?_
  rwa [ev_drop, List.getElem?_drop] at hx
/-- append of a whole list to a row of the call's own. -/
theorem wpList_appL {P : Program} {ops : Array Oper} {rest : List Oper} {o : Oper} {a : Act} {Q : Exit → Act → World → Prop} (hgd : o.guard = none) {T S : TypeId} {bytes : Nat} (hT : SlN P T S E.k bytes) (s x : Operand)
    (ho : o.op = .call { callee := .builtin .append, args := #[s, x], argTypes := #[T, T] })
    {v : Value} (hown : Own (E := E) w B S v l) (hs : a.eval s = v)
    {m c : Nat} (k : List α) (hx : a.eval x = .slice A m c) (hl : k.length = m) (hr : Reads w A (ev E k)) (hb : l.length + m ≤ 1000000000000) (hby : bytes ≤ 64) (hbase : B ≤ w.heap.size)
    (h : ∀ A' c' w', Own (E := E) w' B S (.slice A' (l.length + m) c') (l ++ k) → w.grownBy w' v.ownBlock → ((Value.slice A' (l.length + m) c').ownBlock = v.ownBlock ∨ (Value.slice A' (l.length + m) c').ownBlock = some w.heap.size) → wpList P ops Q rest (a.put o.dst (.slice A' (l.length + m) c')) w') : wpList P ops Q (o :: rest) a w := by
  have hm : (l.length + m) * bytes ≤ (l.length + m) * 64 := Nat.mul_le_mul_left _ hby
  refine wpList_appN hgd hT s x ho hown hs hx (by rw [ev_length, hl]) hr (ev_one E k) (by omega) (by unfold maxLen; omega) hbase rfl fun A' c' w' h2 h3 h4 => h A' c' w' ?_ h3 h4
  unfold Own
  rw [ev_append, List.length_append, hl]
  exact h2
end
section
variable {α : Type} {E : Enc α} {w w' : World} {B : Nat} {A : Option Addr} {l : List α} {v : Value} {T : TypeId}
theorem Els.far (h : Els E w B A l) (hB : B ≤ w.heap.size) (hg : w.grownBy w' v.ownBlock) (hf : FarV A v) : Els E w' B A l :=
  h.keep fun ad e hb => hg.block _ (by omega) (hf ad e)
theorem Own.keptBy {row : Option Nat} (h : Own (E := E) w B T v l) (hg : w.grownBy w' row) (ha : ∀ g, v.ownBlock = some g → row ≠ some g) : Own (E := E) w' B T v l :=
  h.kept fun g e => hg.block g (h.lt g e).2 (fun e2 => ha g e e2.symm)
theorem own_far {n c : Nat} (h : ∀ g, v.ownBlock = some g → (Value.slice A n c).ownBlock ≠ some g) : FarV A v := fun ad e e2 => by
  subst e
  exact h ad.block e2.symm rfl
end
theorem counts_mem {out l : List Crd} (h : CountsOf out l) {c : Crd} (hc : c ∈ out) : mayC c = true ∧ c ∈ l := by
  have h1 : c ∈ out.filter (idIs c.d c.q) := List.mem_filter.2 ⟨hc, by simp [idIs]⟩
  rw [h.2] at h1
  have h2 := List.mem_filter.1 (List.mem_of_mem_take h1)
  simp only [Bool.and_eq_true] at h2
  exact ⟨h2.2.2, h2.1⟩
theorem idIs_iff {c x : Crd} : idIs c.d c.q x = true ↔ x.d = c.d ∧ x.q = c.q := by unfold idIs; simp
/-- Of those of one ID there is at most one. -/
theorem counts_one {out l : List Crd} (h : CountsOf out l) {c : Crd} (hc : c ∈ out) : out.filter (idIs c.d c.q) = [c] := by
  have h1 : c ∈ out.filter (idIs c.d c.q) := List.mem_filter.2 ⟨hc, by simp [idIs]⟩
  have h2 : (out.filter (idIs c.d c.q)).length ≤ 1 := by rw [h.2, List.length_take]; omega
  match hf : out.filter (idIs c.d c.q), h1, h2 with
  | [x], h1, _ => rw [List.mem_singleton.1 h1]
/-- Those that count, in any order, count still. -/
theorem counts_back {out out2 l : List Crd} (h : CountsOf out l) (h2 : CountsOf out2 out.reverse) (c : Crd) : c ∈ out2 ↔ c ∈ out := by
  constructor
  · intro hc
    exact List.mem_reverse.1 (counts_mem h2 hc).2
  · intro hc
    have hm := (counts_mem h hc).1
    have h3 := h2.2 c.d c.q
    have h4 : out.reverse.filter (fun x => idIs c.d c.q x && mayC x) = [c] := by
      rw [List.filter_reverse, show (fun x => idIs c.d c.q x && mayC x) = (fun x => mayC x && idIs c.d c.q x) from funext fun x => Bool.and_comm _ _, ← List.filter_filter, counts_one h hc]
      simp [hm]
    rw [h4] at h3
    exact (List.mem_filter.1 (by rw [h3]; simp : c ∈ out2.filter (idIs c.d c.q))).1
/-- With more behind, those that count count still. -/
theorem counts_more {out out2 l more : List Crd} (h : CountsOf out l) (h2 : CountsOf out2 (l ++ more)) (c : Crd) (hc : c ∈ out) : c ∈ out2 := by
  have h1 := counts_one h hc
  rw [h.2] at h1
  have h3 := h2.2 c.d c.q
  rw [List.filter_append] at h3
  have h4 : ((l.filter fun x => idIs c.d c.q x && mayC x) ++ (more.filter fun x => idIs c.d c.q x && mayC x)).take 1 = [c] := by
    cases hf : (l.filter fun x => idIs c.d c.q x && mayC x) with
    | nil => rw [hf] at h1; cases h1
    | cons x t => rw [hf] at h1; simpa using h1
  rw [h4] at h3
  exact (List.mem_filter.1 (by rw [h3]; simp : c ∈ out2.filter (idIs c.d c.q))).1
theorem counts_len {out l : List Crd} (h : CountsOf out l) : out.length ≤ l.length := by
  have hn : out.Nodup := by
    have : ∀ (a : List Crd), (∀ c ∈ a, a.filter (idIs c.d c.q) = [c]) → a.Nodup := by
      intro a
      induction a with
      | nil => intro _; exact List.nodup_nil
      | cons x t ih =>
        intro ha
        have hx := ha x (by simp)
        rw [List.filter_cons_of_pos (by simp [idIs])] at hx
        have hx0 : t.filter (idIs x.d x.q) = [] := (List.cons.inj hx).2
        have hnot : ∀ c ∈ t, ¬ (c.d = x.d ∧ c.q = x.q) := fun c hc hh => by
          have : c ∈ t.filter (idIs x.d x.q) := List.mem_filter.2 ⟨hc, idIs_iff.2 hh⟩
          rw [hx0] at this
          cases this
        refine List.nodup_cons.2 ⟨fun hh => hnot x hh ⟨rfl, rfl⟩, ih fun c hc => ?_⟩
        have hc1 := ha c (by simp [hc])
        rwa [List.filter_cons_of_neg (by rw [idIs_iff]; intro hh; exact hnot c hc ⟨hh.1.symm, hh.2.symm⟩)] at hc1
    exact this out fun c hc => counts_one h hc
  classical
  exact nodup_length hn fun c hc => (counts_mem h hc).2
theorem may_kd {c : Crd} (h : mayC c = true) : (c.kd = 1 ∨ c.kd = 2 ∨ c.kd = 3 ∨ c.kd = 4) ∧ 1 ≤ c.d ∧ c.d ≤ 16 := by
  unfold mayC headOk kindOk at h
  simp only [Bool.and_eq_true, decide_eq_true_eq] at h
  refine ⟨?_, h.1.1.1, h.1.1.2.1⟩
  have h2 := h.2
  by_cases h1 : c.kd = 1
  · exact .inl h1
  · rw [if_neg h1] at h2
    simp only [Bool.and_eq_true] at h2
    have h3 := h2.2
    by_cases k2 : c.kd = 2
    · exact .inr (.inl k2)
    · rw [if_neg k2] at h3
      by_cases k3 : c.kd = 3
      · exact .inr (.inr (.inl k3))
      · rw [if_neg k3] at h3
        by_cases k4 : c.kd = 4
        · exact .inr (.inr (.inr k4))
        · rw [if_neg k4] at h3; cases h3
end Go.Proofs.YtfbapbpggicfbaaGreatDoor.Sh
/-
  The document's own ids, Size, SameIDs, by contract.
-/
namespace Go.Proofs.YtfbapbpggicfbaaGreatDoor.Sh
open Go Go.RowKit

set_option linter.unusedVariables false
set_option linter.unusedSimpArgs false

def encI : Enc (Int × Int) := ⟨2, fun i => [.int .i64 i.1, .int .i64 i.2], by omega, fun _ => rfl, fun x u hu => by simp at hu; rcases hu with rfl | rfl <;> rfl⟩
theorem slI : SlN Tryz.prog 45 26 2 16 := by
  obtain ⟨i0, hi0, hz0, hz1, hz2⟩ := info_parts (P := Tryz.prog) (e := 26) (z := .agg #[.int .i64 0, .int .i64 0]) (size := 2) (bytes := 16) (by kernel_rfl)
  exact ⟨Tryz.underlying45, ⟨i0, _, hi0, hz0, hz1, hz2, rfl⟩, by omega⟩
theorem own_oneI (w : World) (B : Nat) (hB : B ≤ w.heap.size) (d q : Int) : Own (E := encI) (w.alloc (.cells #[.int .i64 d, .int .i64 q] 26)) B 26 (.slice (some ⟨w.heap.size, 0, none⟩) 1 1) [(d, q)] :=
  ⟨rfl, .inr ⟨w.heap.size, 1, _, rfl, hB, heap_alloc_new w _, Nat.le_refl _, by unfold maxLen; omega, rfl, rfl⟩⟩
end Go.Proofs.YtfbapbpggicfbaaGreatDoor.Sh
/-
  A region that draws its order, whose loads read what stands below a block, and whose callees only make new blocks and hand back plain values: one walk of the text's own order.
-/
namespace Go.Proofs.YtfbapbpggicfbaaGreatDoor.Sh
open Go Go.RowKit

/-- The worlds that are as w0 is, below block B. -/
def Wn (B : Nat) (w0 : World) := { W : World // Below B w0 W }
instance someWn (B : Nat) (w0 : World) : Nonempty (Wn B w0) := ⟨⟨w0, Below.refl B w0⟩⟩
section
variable {P : Program} {B : Nat} {w0 : World}
theorem region_in {id : Nat} {Q : Exit → Act → World → Prop} {a : Act} {w : World} {l : List Oper} (B : Nat) (w0 : World) (hm : P.follows .mixedOrders = true) (hB : Region.lexB .any l.toArray = true) (hC : Below B w0 w.drew)
    (h : wpQuiet P l.toArray (fun W => ∃ x : Wn B w0, W = x.1) (fun a' => ∀ W, Below B w0 W → Q .normal a' W) l a) : (Code.region id l.toArray true).wp P Q a w := by
  have e : (fun a' => ∀ W, (∃ x : Wn B w0, W = x.1) → Q .normal a' W) = fun a' => ∀ W, Below B w0 W → Q .normal a' W := by
    funext a'
    apply propext
    exact ⟨fun h W hW => h W ⟨⟨W, hW⟩, rfl⟩, fun h W ⟨x, hx⟩ => hx ▸ h x.1 x.2⟩
  refine wp_region_quiet (C := fun W => ∃ x : Wn B w0, W = x.1) hm hB ⟨⟨_, hC⟩, rfl⟩ ?_
  rw [e]
  simpa using h
theorem call_in {f : FuncId} {args : Array Value} {x : Wn B w0} {v : Value} (hB : B ≤ w0.heap.size) (h : Calls P f args x.1 fun e w' => e = .returned v ∧ Below x.1.heap.size x.1 w') :
    Calls P f args x.1 fun e w'' => e = .returned v ∧ ∃ y : Wn B w0, w'' = y.1 :=
  h.mono fun _ _ ⟨h1, h2⟩ => ⟨h1, ⟨_, x.2.trans (h2.mono (Nat.le_trans hB x.2.size))⟩, rfl⟩
theorem call_in2 {f : FuncId} {args : Array Value} {x : Wn B w0} {v : Value} (hB : B ≤ w0.heap.size) (h : ∀ W, Below B w0 W → Calls P f args W fun e w' => e = .returned v ∧ Below W.heap.size W w') :
    Calls P f args x.1 fun e w'' => e = .returned v ∧ ∃ y : Wn B w0, w'' = y.1 := call_in hB (h x.1 x.2)
end
end Go.Proofs.YtfbapbpggicfbaaGreatDoor.Sh
/-
  The document's own Same, by contract.
-/
namespace Go.Proofs.YtfbapbpggicfbaaGreatDoor.Sh
open Go Go.RowKit

set_option linter.unusedVariables false
set_option linter.unusedSimpArgs false

theorem inne {a b : ByteArray} (h : a ≠ b) : ¬ a.toList = b.toList ∧ (a.toList == b.toList) = false := by
  have : ¬ a.toList = b.toList := fun e => h (ba_eq (by rw [← Lib.toList_data, ← Lib.toList_data, e]))
  exact ⟨this, beq_eq_false_iff_ne.2 this⟩
noncomputable def smP (p q : PT) : Bool := @decide (p.bare = q.bare) (Classical.propDecidable _)
theorem smP_iff {p q : PT} : smP p q = true ↔ p.bare = q.bare := by unfold smP; exact @decide_eq_true_iff _ (Classical.propDecidable _)
theorem map_take_eq {ps qs : List PT} {n : Nat} (hp : ps.length = n) (hq : qs.length = n) (h : ∀ j, j < n → ∀ a b, ps[j]? = some a → qs[j]? = some b → a.bare = b.bare) : ps.map PT.bare = qs.map PT.bare := by
  apply List.ext_getElem?
  intro j
  rw [List.getElem?_map, List.getElem?_map]
  by_cases hj : j < n
  · obtain ⟨a, ha⟩ : ∃ x, ps[j]? = some x := ⟨_, List.getElem?_eq_getElem (by rw [hp]; exact hj)⟩
    obtain ⟨b, hb⟩ : ∃ x, qs[j]? = some x := ⟨_, List.getElem?_eq_getElem (by rw [hq]; exact hj)⟩
    rw [ha, hb, Option.map_some, Option.map_some, h j hj a b ha hb]
  · rw [List.getElem?_eq_none (by omega), List.getElem?_eq_none (by omega)]
theorem map_at_ne {ps qs : List PT} {j : Nat} {a b : PT} (ha : ps[j]? = some a) (hb : qs[j]? = some b) (h : a.bare ≠ b.bare) : ps.map PT.bare ≠ qs.map PT.bare := fun e => by
  have : (ps.map PT.bare)[j]? = (qs.map PT.bare)[j]? := by rw [e]
  rw [List.getElem?_map, List.getElem?_map, ha, hb] at this
  exact h (Option.some.inj this)
end Go.Proofs.YtfbapbpggicfbaaGreatDoor.Sh
