/-
  The document's own name, ReadRole and Read of a credential.
-/
import Derived.Test.YtoajckhnneagnaaDoorJd2
import Derived.Maps.RangeWalk
import Derived.WideKeyEntry
import Derived.DeepKeys4
set_option linter.unusedVariables false
set_option linter.unusedSimpArgs false
namespace Go.Proofs.YtoajckhnneagnaaDoor.Sh
open Go Go.RowKit

theorem grown_set (w : World) (g k : Nat) (u : Value) : w.grownBy (w.setCell ⟨g, k, none⟩ u) (some g) :=
  ⟨rfl, rfl, rfl, by simp, fun i _ hne => Below.heap_setCell w ⟨g, k, none⟩ u i (fun e => hne (by rw [e]))⟩

section
variable {T : TypeId} {w0 w w' : World} {lo hi g n c p p' : Nat} {A : Option Addr} {l : List UInt8} {e e' : Int} {X R : Nat} {x : Crd} {er : Ending} {v : Value}
end
section
variable {w : World} {X : Nat} {d q kd : Int} {nm wh ao an bo bn : ByteArray}
theorem CrAt.set7 (h : CrAt w X ⟨d, q, nm, kd, wh, ao, an, bo, bn⟩) (v : ByteArray) : CrAt (w.setCell ⟨X, 7, none⟩ (.string v)) X ⟨d, q, nm, kd, wh, ao, an, v, bn⟩ := heap_setCell_same w X 7 _ _ _ h
theorem CrAt.set8 (h : CrAt w X ⟨d, q, nm, kd, wh, ao, an, bo, bn⟩) (v : ByteArray) : CrAt (w.setCell ⟨X, 8, none⟩ (.string v)) X ⟨d, q, nm, kd, wh, ao, an, bo, v⟩ := heap_setCell_same w X 8 _ _ _ h
theorem CrAt.f (h : CrAt w X ⟨d, q, nm, kd, wh, ao, an, bo, bn⟩) (k : Nat) : w.frozen? ⟨X, k, none⟩ = false := frozen_of_row w X k _ _ h
end

end Go.Proofs.YtoajckhnneagnaaDoor.Sh
namespace Go.Proofs.YtoajckhnneagnaaDoor.Sh
open Go Go.RowKit

theorem info_cred : (Tryd.prog.info? 55).map (·.size) = some 9 := by kernel_rfl
section
variable {T : TypeId} {w0 w : World} {lo hi g n c p : Nat} {A : Option Addr} {l : List UInt8} {e : Int} {X R : Nat} {x : Crd}
end

end Go.Proofs.YtoajckhnneagnaaDoor.Sh
namespace Go.Proofs.YtoajckhnneagnaaDoor.Sh
open Go Go.RowKit

structure SlN (P : Program) (T E : TypeId) (size bytes : Nat) : Prop where
  und : P.underlying T = some (.slice E)
  info : ∃ (i : TypeInfo) (z : Value), P.info? E = some i ∧ i.zero = some z ∧ i.size = size ∧ i.bytes = bytes ∧ z.cells.size = size
  pos : 0 < size
theorem own_sliceN {w : World} {base size : Nat} {e : TypeId} {v : Value} {n : Nat} {xs : List Value} (h : w.ownsRow base e size v n xs) : ∃ A c, v = .slice A n c ∧ n ≤ c ∧ c ≤ 9223372036854775807 := by
  rcases h.2 with ⟨rfl, rfl⟩ | ⟨g, cap, cur, rfl, _, _, hc, hm, _⟩
  · exact ⟨none, 0, rfl, Nat.le_refl _, by omega⟩
  · exact ⟨_, cap, rfl, hc, by unfold maxLen at hm; exact hm⟩
section
variable {P : Program} {w : World}
theorem run_appN {T E ty : TypeId} {size bytes : Nat} (hT : SlN P T E size bytes) {base : Nat} {v : Value} {n : Nat} {xs : List Value} (hown : w.ownsRow base E size v n xs)
    {A : Option Addr} {m c : Nat} {news : List Value} (hl : news.length = m * size) (hr : Reads w A news) (h1 : ∀ u ∈ news, u.oneCell' = true)
    (hb : (n + m) * bytes ≤ 140737488355328) (h63 : n + m ≤ maxLen) (hbase : base ≤ w.heap.size) :
    ∃ A' c' w', (Builtin.append_ #[T, T] ty #[v, .slice A m c]).run P w = .ok (.slice A' (n + m) c') w' ∧ w'.ownsRow base E size (.slice A' (n + m) c') (n + m) (xs ++ news) ∧ w.grownBy w' v.ownBlock ∧
      ((Value.slice A' (n + m) c').ownBlock = v.ownBlock ∨ (Value.slice A' (n + m) c').ownBlock = some w.heap.size) := by
  obtain ⟨i, z, hi, hz, hs, hby, hzs⟩ := hT.info
  have hpos := hT.pos
  rcases A with _ | ad
  · have hm : m = 0 := by
      rcases Nat.eq_zero_or_pos m with h | h
      · exact h
      · obtain ⟨_, h, _⟩ := hr (by rw [hl]; exact Nat.mul_pos h hpos)
        cases h
    subst hm
    obtain ⟨A', c', rfl, _⟩ := own_sliceN hown
    obtain rfl : news = [] := List.eq_nil_of_length_eq_zero (by rw [hl]; omega)
    exact ⟨A', c', w, run_app_zero i hT.und hi hown c, by simpa using hown, World.grownBy.refl _ _, .inl (by cases A' <;> rfl)⟩
  · have hc : ∀ j u, news[j]? = some u → w.cell? (ad.add j) = some u := fun j u hu => by
      obtain ⟨_, h, hc⟩ := hr (Nat.lt_of_le_of_lt (Nat.zero_le _) (List.getElem?_eq_some_iff.1 hu).1)
      injection h with h
      subst h
      exact hc j u hu
    obtain ⟨v', w', hrun, h2, h3, _, h5⟩ := run_append_own_at (P := P) w base T ty E i z size bytes hT.und hi hz hs hby hzs hpos v n xs hown ad m c news hl hc h1 h63 hb hbase
    obtain ⟨A', c', rfl, _⟩ := own_sliceN h2
    exact ⟨A', c', w', hrun, h2, h3, h5⟩
theorem wpList_appN {ops : Array Oper} {rest : List Oper} {o : Oper} {a : Act} {Q : Exit → Act → World → Prop} {T E : TypeId} {size bytes : Nat} (hgd : o.guard = none) (hT : SlN P T E size bytes) (s x : Operand)
    (ho : o.op = .call { callee := .builtin .append, args := #[s, x], argTypes := #[T, T] })
    {base : Nat} {v : Value} {n : Nat} {xs : List Value} (hown : w.ownsRow base E size v n xs) (hs : a.eval s = v)
    {A : Option Addr} {m c : Nat} {news : List Value} (hx : a.eval x = .slice A m c) (hl : news.length = m * size) (hr : Reads w A news) (h1 : ∀ u ∈ news, u.oneCell' = true)
    (hb : (n + m) * bytes ≤ 140737488355328) (h63 : n + m ≤ maxLen) (hbase : base ≤ w.heap.size) {n' : Nat} (hn : n + m = n')
    (h : ∀ A' c' w', w'.ownsRow base E size (.slice A' n' c') n' (xs ++ news) → w.grownBy w' v.ownBlock → ((Value.slice A' n' c').ownBlock = v.ownBlock ∨ (Value.slice A' n' c').ownBlock = some w.heap.size) → wpList P ops Q rest (a.put o.dst (.slice A' n' c')) w') : wpList P ops Q (o :: rest) a w := by
  subst hn
  refine wpList_plain hgd fun _ hK => ?_
  obtain ⟨A', c', w', hrun, h2, h3, h4⟩ := run_appN (ty := o.type) hT hown (A := A) (c := c) hl hr h1 hb h63 hbase
  unfold Oper.wp execOp
  simp only [ho, resolve, invoke, builtin, Sem.run_bind, Sem.run_pure, Result.andThen_ok, List.map_toArray, List.map_cons, List.map_nil, hs, hx, hrun]
  exact hK _ _ (h A' c' w' h2 h3 h4)
end

def cv : List Crd → List Value
  | [] => []
  | c :: t => c.cells ++ cv t
theorem cells_len (c : Crd) : c.cells.length = 9 := rfl
theorem cv_length (l : List Crd) : (cv l).length = l.length * 9 := by
  induction l with
  | nil => rfl
  | cons c t ih => simp only [cv, List.length_append, ih, cells_len, List.length_cons]; omega
theorem cv_append (a b : List Crd) : cv (a ++ b) = cv a ++ cv b := by
  induction a with
  | nil => rfl
  | cons c t ih => simp only [List.cons_append, cv, ih, List.append_assoc]
theorem cv_one (l : List Crd) : ∀ u ∈ cv l, u.oneCell' = true := by
  induction l with
  | nil => intro u hu; cases hu
  | cons c t ih =>
    intro u hu
    rcases List.mem_append.1 hu with h | h
    · simp only [Crd.cells, List.mem_cons, List.not_mem_nil, or_false] at h
      rcases h with rfl | rfl | rfl | rfl | rfl | rfl | rfl | rfl | rfl <;> rfl
    · exact ih u h
theorem cv_get {l : List Crd} {j k : Nat} {c : Crd} (h : l[j]? = some c) (hk : k < 9) : (cv l)[j * 9 + k]? = c.cells[k]? := by
  induction l generalizing j with
  | nil => simp at h
  | cons x t ih =>
    cases j with
    | zero =>
      simp at h; subst h
      rw [cv, List.getElem?_append_left (by rw [cells_len]; omega)]
      simp
    | succ j =>
      rw [cv, List.getElem?_append_right (by rw [cells_len]; omega), cells_len, show (j + 1) * 9 + k - 9 = j * 9 + k by omega]
      exact ih (by simpa using h)
theorem cv_take (l : List Crd) (k : Nat) : cv (l.take k) = (cv l).take (k * 9) := by
  induction l generalizing k with
  | nil => simp [cv]
  | cons x t ih =>
    cases k with
    | zero => simp [cv]
    | succ k =>
      rw [List.take_succ_cons, cv, cv, ih, List.take_append, cells_len, List.take_of_length_le (l := x.cells) (by rw [cells_len]; omega), show (k + 1) * 9 - 9 = k * 9 by omega]
theorem cv_drop (l : List Crd) (k : Nat) : cv (l.drop k) = (cv l).drop (k * 9) := by
  induction l generalizing k with
  | nil => simp [cv]
  | cons x t ih =>
    cases k with
    | zero => simp
    | succ k =>
      rw [List.drop_succ_cons, cv, ih, List.drop_append, cells_len, List.drop_of_length_le (l := x.cells) (by rw [cells_len]; omega), List.nil_append, show (k + 1) * 9 - 9 = k * 9 by omega]
def Crs (w : World) (B : Nat) (A : Option Addr) (l : List Crd) : Prop :=
  0 < l.length → ∃ ad, A = some ad ∧ ad.block < B ∧ ∀ i u, (cv l)[i]? = some u → w.cell? (ad.add i) = some u
section
variable {w w' : World} {B B' : Nat} {A : Option Addr} {l : List Crd}
theorem Crs.nil : Crs w B A [] := fun h => absurd h (by simp)
theorem Crs.reads (h : Crs w B A l) : Reads w A (cv l) := fun hn => by
  obtain ⟨ad, e, _, hc⟩ := h (by rw [cv_length] at hn; omega)
  exact ⟨ad, e, hc⟩
theorem Crs.keep (h : Crs w B A l) (hk : ∀ p : Addr, p.block < B → w'.cell? p = w.cell? p) : Crs w' B A l := fun hn => by
  obtain ⟨ad, e, hb, hc⟩ := h hn
  exact ⟨ad, e, hb, fun j x hx => (hk _ (by rw [block_add]; exact hb)).trans (hc j x hx)⟩
theorem Crs.more (h : Crs w B A l) (hB : B ≤ B') : Crs w B' A l := fun hn => by
  obtain ⟨ad, e, hb, hc⟩ := h hn
  exact ⟨ad, e, by omega, hc⟩
theorem Crs.below (h : Crs w B A l) (hb : Below B w w') : Crs w' B A l := h.keep fun _ hp => hb.cell hp
theorem Crs.head {hi : Nat} (h : Crs w B A l) : Crs w B A (l.take hi) := by
  intro hn
  simp only [List.length_take] at hn
  obtain ⟨ad, e, hb, hc⟩ := h (by omega)
  refine ⟨ad, e, hb, fun j x hx => hc j x ?_⟩
  rw [cv_take, List.getElem?_take] at hx
  split at hx
  · exact hx
  · cases hx
theorem Crs.tail {lo cap : Nat} (h : Crs w B A l) (h3 : l.length ≤ cap) : Crs w B (if cap = lo then A else A.map (·.add (lo * 9))) (l.drop lo) := by
  intro hn
  simp only [List.length_drop] at hn
  obtain ⟨ad, rfl, hb, hc⟩ := h (by omega)
  rw [if_neg (by omega)]
  refine ⟨ad.add (lo * 9), rfl, by rw [block_add]; exact hb, fun j x hx => ?_⟩
  rw [add_add]
  refine hc _ x ?_
  rwa [cv_drop, List.getElem?_drop] at hx
theorem Crs.get {j : Nat} {c : Crd} (h : Crs w B A l) (hj : l[j]? = some c) : ∃ ad aj, A = some ad ∧ ad.block < B ∧ ad.add (j * 9) = aj ∧ aj.block = ad.block ∧
    w.cell? aj = some (.int .i64 c.d) ∧ w.cell? ⟨aj.block, aj.off + 1, none⟩ = some (.int .i64 c.q) ∧ w.cell? ⟨aj.block, aj.off + 2, none⟩ = some (.string c.nm) ∧ w.cell? ⟨aj.block, aj.off + 3, none⟩ = some (.int .i64 c.kd) ∧
    w.cell? ⟨aj.block, aj.off + 4, none⟩ = some (.string c.wh) ∧ w.cell? ⟨aj.block, aj.off + 5, none⟩ = some (.string c.ao) ∧ w.cell? ⟨aj.block, aj.off + 6, none⟩ = some (.string c.an) ∧
    w.cell? ⟨aj.block, aj.off + 7, none⟩ = some (.string c.bo) ∧ w.cell? ⟨aj.block, aj.off + 8, none⟩ = some (.string c.bn) := by
  obtain ⟨ad, e, hb, hc⟩ := h (Nat.lt_of_le_of_lt (Nat.zero_le _) (List.getElem?_eq_some_iff.1 hj).1)
  have key : ∀ k v, k < 9 → c.cells[k]? = some v → w.cell? ((ad.add (j * 9)).add k) = some v := fun k v hk hv => by
    rw [add_add]
    exact hc _ v ((cv_get hj hk).trans hv)
  have kp : ∀ k v, 0 < k → k < 9 → c.cells[k]? = some v → w.cell? ⟨(ad.add (j * 9)).block, (ad.add (j * 9)).off + k, none⟩ = some v := fun k v h0 hk hv => by
    rw [← add_pos _ k h0]
    exact key k v hk hv
  refine ⟨ad, ad.add (j * 9), e, hb, rfl, block_add _ _, ?_, kp 1 _ (by omega) (by omega) rfl, kp 2 _ (by omega) (by omega) rfl, kp 3 _ (by omega) (by omega) rfl, kp 4 _ (by omega) (by omega) rfl, kp 5 _ (by omega) (by omega) rfl, kp 6 _ (by omega) (by omega) rfl, kp 7 _ (by omega) (by omega) rfl, kp 8 _ (by omega) (by omega) rfl⟩
  have := key 0 _ (by omega) (rfl : c.cells[0]? = some (.int .i64 c.d))
  rwa [add_zero] at this
end
theorem slC : SlN Tryd.prog 22 55 9 120 := by
  obtain ⟨i0, hi0, hz0, hz1, hz2⟩ := info_parts (P := Tryd.prog) (e := 55) (z := .agg Crd.zero.cells.toArray) (size := 9) (bytes := 120) (by kernel_rfl)
  exact ⟨Tryd.underlying22, ⟨i0, _, hi0, hz0, hz1, hz2, rfl⟩, by omega⟩
def OwnC (w : World) (B : Nat) (v : Value) (n : Nat) (l : List Crd) : Prop := w.ownsRow B 55 9 v n (cv l)
section
variable {w w' : World} {B B' n c : Nat} {v : Value} {A : Option Addr} {l : List Crd}
theorem OwnC.len (h : OwnC w B v n l) : l.length = n := by have := h.1; rw [cv_length] at this; omega
theorem OwnC.alloc (h : OwnC w B v n l) (o : Obj) : OwnC (w.alloc o) B v n l := World.ownsRow.alloc h o
theorem OwnC.nil (w : World) (B : Nat) : OwnC w B (.slice none 0 0) 0 [] := World.ownsRow_nil _ _ _ _
theorem OwnC.mono (h : OwnC w B v n l) (hb : B' ≤ B) : OwnC w B' v n l := own_mono' h hb
theorem OwnC.below (h : OwnC w B v n l) (hb : Below w.heap.size w w') : OwnC w' B v n l :=
  World.ownsRow.kept h ⟨hb.os, hb.tape, hb.output, hb.size, fun k hk _ => hb.block k hk⟩ (row := none) (by cases hv : v.ownBlock <;> simp)
theorem OwnC.crs (h : OwnC w B (.slice A n c) n l) : Crs w w.heap.size A l := by
  intro hn
  have hl := h.len
  rcases h.2 with ⟨hv, _⟩ | ⟨g, cap, cur, hv, _, hg, _⟩
  · simp only [Value.slice.injEq] at hv; omega
  · simp only [Value.slice.injEq] at hv
    obtain ⟨rfl, _, _⟩ := hv
    exact ⟨_, rfl, (Array.getElem?_eq_some_iff.1 hg).1, fun i u hu => World.ownsRow.cells h (g := g) rfl i u hu⟩
theorem OwnC.slice (h : OwnC w B v n l) : ∃ A c, v = .slice A n c ∧ n ≤ c ∧ c ≤ 9223372036854775807 := own_sliceN h
theorem below_appC {w0 : World} (hown : OwnC w B v n l) (hb : Below B w0 w) (hs : B ≤ w.heap.size) (hg : w.grownBy w' v.ownBlock) : Below B w0 w' :=
  hb.grown hg hs fun g hg => (World.ownsRow.lt hown g hg).1
end
theorem wpList_appC {ops : Array Oper} {rest : List Oper} {o : Oper} {a : Act} {w : World} {Q : Exit → Act → World → Prop} (hgd : o.guard = none) (s x : Operand)
    (ho : o.op = .call { callee := .builtin .append, args := #[s, x], argTypes := #[22, 22] })
    (B : Nat) (v : Value) (n : Nat) (l : List Crd) (hown : OwnC w B v n l) (hs : a.eval s = v)
    (A : Option Addr) (m c : Nat) (k : List Crd) (hx : a.eval x = .slice A m c) (hl : k.length = m) (hr : Reads w A (cv k)) (hb : n + m ≤ 1000000000000) (hbase : B ≤ w.heap.size) (w0 : World) (hbel : Below B w0 w) (n' : Nat) (hn : n + m = n')
    (h : ∀ A' c' w', OwnC w' B (.slice A' n' c') n' (l ++ k) → w.grownBy w' v.ownBlock → Below B w0 w' → ((Value.slice A' n' c').ownBlock = v.ownBlock ∨ (Value.slice A' n' c').ownBlock = some w.heap.size) → wpList Tryd.prog ops Q rest (a.put o.dst (.slice A' n' c')) w') : wpList Tryd.prog ops Q (o :: rest) a w :=
  wpList_appN hgd slC s x ho hown hs hx (by rw [cv_length, hl]) hr (cv_one k) (by omega) (by unfold maxLen; omega) hbase hn fun A' c' w' h2 h3 h4 => h A' c' w' (by unfold OwnC; rw [cv_append]; exact h2) h3 (below_appC hown hbel hbase h3) h4
theorem reads_cr (w : World) (c : Crd) (t : TypeId) (fr : Nat × Nat) : Reads (w.alloc (.cells c.cells.toArray t fr)) (some ⟨w.heap.size, 0, none⟩) (cv [c]) := by
  have := reads_new w c.cells.toArray t fr
  simpa [cv] using this
def FarV (A : Option Addr) (v : Value) : Prop := ∀ ad, A = some ad → some ad.block ≠ v.ownBlock
theorem Crs.far {w w' : World} {B : Nat} {A : Option Addr} {l : List Crd} {v : Value} (h : Crs w B A l) (hB : B ≤ w.heap.size) (hg : w.grownBy w' v.ownBlock) (hf : FarV A v) : Crs w' B A l := fun hn => by
  obtain ⟨ad, e, hb, hc⟩ := h hn
  exact ⟨ad, e, hb, fun j x hx => (hg.cell_far _ (by rw [block_add]; omega) (by rw [block_add]; exact hf ad e)).trans (hc j x hx)⟩
theorem FarV.nil (A : Option Addr) : FarV A (.slice none 0 0) := fun _ _ e => by cases e
theorem OwnC.keptBy {w w' : World} {B n : Nat} {v u : Value} {l : List Crd} (h : OwnC w B v n l) (hg : w.grownBy w' u.ownBlock) (ha : v.ownBlock = none ∨ v.ownBlock ≠ u.ownBlock) : OwnC w' B v n l := World.ownsRow.kept h hg ha
theorem OwnC.lt {w : World} {B n : Nat} {v : Value} {l : List Crd} (h : OwnC w B v n l) : ∀ k, v.ownBlock = some k → B ≤ k ∧ k < w.heap.size := World.ownsRow.lt h
theorem OwnC.newer {w : World} {B n : Nat} {v u : Value} {l : List Crd} (h : OwnC w B v n l) (hu : u.ownBlock = none ∨ u.ownBlock = some w.heap.size) : v.ownBlock = none ∨ v.ownBlock ≠ u.ownBlock := by
  cases hv : v.ownBlock with
  | none => exact .inl rfl
  | some k =>
    right
    have := (h.lt k hv).2
    rcases hu with hu | hu <;> rw [hu]
    · simp
    · intro e; injection e with e; omega
end Go.Proofs.YtoajckhnneagnaaDoor.Sh
namespace Go.Proofs.YtoajckhnneagnaaDoor.Sh
open Go Go.RowKit
open Go.Maps (Keyed)

structure Enc (α : Type) where
  k : Nat
  cells : α → List Value
  pos : 0 < k
  len : ∀ x, (cells x).length = k
  one : ∀ x, ∀ u ∈ cells x, u.oneCell' = true
def encR : Enc Rl := ⟨2, fun r => [.string r.1, .string r.2], by omega, fun _ => rfl, fun x u hu => by simp at hu; rcases hu with rfl | rfl <;> rfl⟩
def encK : Enc (ByteArray × Rl) := ⟨3, fun b => [.string b.1, .string b.2.1, .string b.2.2], by omega, fun _ => rfl, fun x u hu => by simp at hu; rcases hu with rfl | rfl | rfl <;> rfl⟩
def encP : Enc Pr := ⟨3, fun b => [.string b.1.1, .string b.1.2, .string b.2], by omega, fun _ => rfl, fun x u hu => by simp at hu; rcases hu with rfl | rfl | rfl <;> rfl⟩
def encS : Enc ByteArray := ⟨1, fun b => [.string b], by omega, fun _ => rfl, fun x u hu => by simp at hu; rcases hu with rfl; rfl⟩
section
variable {α : Type} (E : Enc α)
def ev : List α → List Value
  | [] => []
  | x :: t => E.cells x ++ ev t
theorem ev_length (l : List α) : (ev E l).length = l.length * E.k := by
  induction l with
  | nil => simp [ev]
  | cons c t ih => simp only [ev, List.length_append, ih, E.len, List.length_cons, Nat.add_mul, Nat.one_mul]; omega
theorem ev_append (a b : List α) : ev E (a ++ b) = ev E a ++ ev E b := by
  induction a with
  | nil => rfl
  | cons c t ih => simp only [List.cons_append, ev, ih, List.append_assoc]
theorem ev_one (l : List α) : ∀ u ∈ ev E l, u.oneCell' = true := by
  induction l with
  | nil => intro u hu; cases hu
  | cons c t ih =>
    intro u hu
    rcases List.mem_append.1 hu with h | h
    · exact E.one _ _ h
    · exact ih u h
theorem ev_get {l : List α} {j i : Nat} {c : α} (h : l[j]? = some c) (hi : i < E.k) : (ev E l)[j * E.k + i]? = (E.cells c)[i]? := by
  induction l generalizing j with
  | nil => simp at h
  | cons x t ih =>
    cases j with
    | zero =>
      simp at h; subst h
      rw [ev, List.getElem?_append_left (by rw [E.len]; omega)]
      simp
    | succ j =>
      rw [ev, List.getElem?_append_right (by rw [E.len, Nat.add_mul, Nat.one_mul]; omega), E.len, show (j + 1) * E.k + i - E.k = j * E.k + i by rw [Nat.add_mul, Nat.one_mul]; omega]
      exact ih (by simpa using h)
theorem ev_take (l : List α) (n : Nat) : ev E (l.take n) = (ev E l).take (n * E.k) := by
  induction l generalizing n with
  | nil => simp [ev]
  | cons x t ih =>
    cases n with
    | zero => simp [ev]
    | succ n =>
      rw [List.take_succ_cons, ev, ev, ih, List.take_append, E.len, List.take_of_length_le (l := E.cells x) (by rw [E.len, Nat.add_mul]; omega), show (n + 1) * E.k - E.k = n * E.k by rw [Nat.add_mul, Nat.one_mul]; omega]
def Els (w : World) (B : Nat) (A : Option Addr) (l : List α) : Prop :=
  0 < l.length → ∃ ad, A = some ad ∧ ad.block < B ∧ ∀ i u, (ev E l)[i]? = some u → w.cell? (ad.add i) = some u
variable {E} {w w' : World} {B B' : Nat} {A : Option Addr} {l : List α}
theorem Els.nil : Els E w B A [] := fun h => absurd h (by simp)
theorem Els.keep (h : Els E w B A l) (hk : ∀ ad, A = some ad → ad.block < B → w'.heap[ad.block]? = w.heap[ad.block]?) : Els E w' B A l := fun hn => by
  obtain ⟨ad, e, hb, hc⟩ := h hn
  refine ⟨ad, e, hb, fun j x hx => ?_⟩
  rw [← hc j x hx]
  unfold World.cell?
  rw [block_add, hk ad e hb]
theorem Els.below (h : Els E w B A l) (hb : Below B w w') : Els E w' B A l := h.keep fun _ _ hp => hb.block _ hp
theorem Els.more (h : Els E w B A l) (hB : B ≤ B') : Els E w B' A l := fun hn => by
  obtain ⟨ad, e, hb, hc⟩ := h hn
  exact ⟨ad, e, by omega, hc⟩
theorem Els.get {j : Nat} {c : α} (h : Els E w B A l) (hj : l[j]? = some c) : ∃ ad aj, A = some ad ∧ ad.block < B ∧ ad.add (j * E.k) = aj ∧ aj.block = ad.block ∧
    (∀ v, (E.cells c)[0]? = some v → w.cell? aj = some v) ∧ ∀ i v, 0 < i → (E.cells c)[i]? = some v → w.cell? ⟨aj.block, aj.off + i, none⟩ = some v := by
  obtain ⟨ad, e, hb, hc⟩ := h (Nat.lt_of_le_of_lt (Nat.zero_le _) (List.getElem?_eq_some_iff.1 hj).1)
  have key : ∀ i v, (E.cells c)[i]? = some v → w.cell? ((ad.add (j * E.k)).add i) = some v := fun i v hv => by
    rw [add_add]
    exact hc _ v ((ev_get E hj (by have := (List.getElem?_eq_some_iff.1 hv).1; rwa [E.len] at this)).trans hv)
  refine ⟨ad, ad.add (j * E.k), e, hb, rfl, block_add _ _, fun v hv => ?_, fun i v h0 hv => ?_⟩
  · have := key 0 v hv
    rwa [add_zero] at this
  · rw [← add_pos _ i h0]
    exact key i v hv
def Own (w : World) (B : Nat) (T : TypeId) (v : Value) (l : List α) : Prop := w.ownsRow B T E.k v l.length (ev E l)
variable {v : Value} {T : TypeId}
theorem Own.els (h : Own (E := E) w B T v l) : ∃ A c, v = .slice A l.length c ∧ l.length ≤ c ∧ c ≤ 9223372036854775807 ∧ Els E w w.heap.size A l := by
  obtain ⟨A, c, e, h1, h2⟩ := own_sliceN h
  refine ⟨A, c, e, h1, h2, fun hn => ?_⟩
  rcases h.2 with ⟨hv, h0⟩ | ⟨g, cap, cur, hv, _, hg, _⟩
  · omega
  · rw [e] at hv
    simp only [Value.slice.injEq] at hv
    obtain ⟨rfl, _, _⟩ := hv
    exact ⟨_, rfl, (Array.getElem?_eq_some_iff.1 hg).1, fun i u hu => World.ownsRow.cells h (g := g) (by rw [e]; rfl) i u hu⟩
theorem Own.kept (h : Own (E := E) w B T v l) (hk : ∀ g, v.ownBlock = some g → w'.heap[g]? = w.heap[g]?) : Own (E := E) w' B T v l := by
  refine ⟨h.1, ?_⟩
  rcases h.2 with hn | ⟨g, cap, cur, rfl, hb, hgg, rest⟩
  · exact .inl hn
  · refine .inr ⟨g, cap, cur, rfl, hb, ?_, rest⟩
    rw [hk g rfl]
    exact hgg
theorem Own.alloc (h : Own (E := E) w B T v l) (o : Obj) : Own (E := E) (w.alloc o) B T v l := World.ownsRow.alloc h o
theorem Own.drew (h : Own (E := E) w B T v l) : Own (E := E) w.drew B T v l := World.ownsRow.drew h
theorem Own.nil (w : World) (B : Nat) (T : TypeId) : Own (E := E) w B T (.slice none 0 0) [] := World.ownsRow_nil _ _ _ _
theorem Own.lt (h : Own (E := E) w B T v l) : ∀ g, v.ownBlock = some g → B ≤ g ∧ g < w.heap.size := World.ownsRow.lt h
theorem Own.short {A : Option Addr} {c n : Nat} (h : Own (E := E) w B T (.slice A l.length c) l) (hn : n ≤ l.length) : Own (E := E) w B T (.slice A n c) (l.take n) := by
  have e : (l.take n).length = n := by rw [List.length_take]; omega
  refine ⟨ev_length E _, ?_⟩
  rw [e]
  rcases h.2 with ⟨hv, h0⟩ | ⟨g, cap, cur, hv, hb, hg, h1, h2, h3, h4⟩
  · simp only [Value.slice.injEq] at hv
    obtain ⟨rfl, _, rfl⟩ := hv
    exact .inl ⟨by rw [show n = 0 by omega], by omega⟩
  · simp only [Value.slice.injEq] at hv
    obtain ⟨rfl, _, rfl⟩ := hv
    refine .inr ⟨g, c, cur, rfl, hb, hg, by omega, h2, h3, ?_⟩
    have hk : n * E.k ≤ l.length * E.k := Nat.mul_le_mul_right _ hn
    rw [ev_take, ← h4, List.take_take, Nat.min_eq_left hk]
end

def tokR (v : Value) : Option (DataW Value × List MemPlace) := some (.held v, [])
def mget (D : DataW Value) (z : Lit) : Option Value := match D.atKey z .nil with | .held v => some v | _ => none
section
variable {P : Program} {k t e : TypeId} {w : World} {b n : Nat} {D : DataW Value} {key val z : Value} {kl : Lit}
theorem map_cases (h : w.ownsMap P k tokR b n D) (K : Keyed P k) (ht : P.underlying t = some (.map k e)) (hz : (zeroValue e).run P w = .ok z w) (hkey : keyOf P k key = some kl) (c : Bool) :
    (mget D kl = none ∧ (Instr.lookup t (.map (some b)) key c).run P w = .ok (if c then .tuple #[z, .bool false] else z) w) ∨ ∃ v, mget D kl = some v ∧ (Instr.lookup t (.map (some b)) key c).run P w = .ok (if c then .tuple #[v, .bool true] else v) w := by
  obtain ⟨es, clock, hb, F, _, rfl⟩ := h
  rcases Maps.fit_look c K ht hz hb F hkey with ⟨hrun, _, hat⟩ | ⟨e0, y, _, _, hrun, hRv, hat, _⟩
  · exact .inl ⟨by unfold mget; rw [hat], hrun⟩
  · refine .inr ⟨e0.val, ?_, hrun⟩
    unfold mget
    rw [hat]
    simp only [tokR, Option.some.injEq] at hRv
    subst hRv
    rfl
theorem mget_same (h : w.ownsMap P k tokR b n D) (K : Keyed P k) (hkey : keyOf P k key = some kl) (v : Value) : mget (D.put kl (.held v)) kl = some v := by
  unfold mget
  rw [Maps.atKey_put_same h.isMap (K.key hkey)]
theorem mget_other {kl' : Lit} (hne : kl' ≠ kl) (v : Value) : mget (D.put kl (.held v)) kl' = mget D kl' := by
  unfold mget
  rw [Maps.atKey_put_other hne]
theorem mget_none (_hD : w.ownsMap P k tokR b n D) (h : Maps.has D kl = false) : mget D kl = none := by
  unfold mget
  rw [Maps.atKey_of_not_has h]
theorem map_store (h : w.ownsMap P k tokR b n D) (K : Keyed P k) (ht : P.underlying t = some (.map k e)) (hn : n < maxLen) (hkey : keyOf P k key = some kl) :
    ∃ w', (Instr.mapUpdate t (.map (some b)) key val).run P w = .ok () w' ∧ w'.ownsMap P k tokR b (n + 1) (D.put kl (.held val)) ∧ w.grownBy w' (some b) :=
  h.update K ht hn hkey (rfl : tokR val = _)
theorem map_entry (h : w.ownsMap P k tokR b n D) (K : WideMaps.KeyLaw P k) (ht : P.underlying t = some (.map k e)) (hn : n < maxLen) (hz : ∀ u : World, (zeroValue e).run P u = .ok z u) (hkey : keyOf P k key = some kl) :
    ∃ (st : Nat) (w1 : World), (Instr.mapEntry t (.map (some b)) key).run P w = .ok (.tuple #[(mget D kl).getD z, goInt st]) w1 ∧ w.grownBy w1 (some b) ∧ w1.heap.size = w.heap.size ∧
      ∀ (w2 : World) (v : Value), w2.heap[b]? = w1.heap[b]? → ∃ w3, (Instr.entryStore t (.map (some b)) (goInt st) v).run P w2 = .ok () w3 ∧ w3.ownsMap P k tokR b (n + 1) (D.put kl (.held v)) ∧ w2.grownBy w3 (some b) ∧ w3.heap.size = w2.heap.size := by
  have hs := fun v => map_store (val := v) h (Keyed.of_law K) ht hn hkey
  obtain ⟨es, clock, hb, F, hsz, hD⟩ := h
  obtain ⟨v0, st, es1, clock1, hrun, hv0, hst⟩ := WideElems.entry_then_store K ht hz hb F hkey
  have hv : v0 = (mget D kl).getD z := by
    subst hD
    rcases Maps.fit_look false (Keyed.of_law K) ht (hz w) hb F hkey with ⟨_, hno, hat⟩ | ⟨e0, y, he0, hk0, _, hRv, hat, _⟩
    · have : mget (DataW.map ((es.toList.map (WideElems.rg P k tokR)).foldr DataW.insert [])) kl = none := by unfold mget; rw [hat]
      rw [this]
      rcases hv0 with ⟨e1, he1, hk1, _⟩ | ⟨_, rfl⟩
      · exact absurd hk1 (hno e1 he1)
      · rfl
    · simp only [tokR, Option.some.injEq] at hRv
      subst hRv
      have : mget (DataW.map ((es.toList.map (WideElems.rg P k tokR)).foldr DataW.insert [])) kl = some e0.val := by unfold mget; rw [hat]
      rw [this]
      rcases hv0 with ⟨e1, he1, hk1, rfl⟩ | ⟨hno, _⟩
      · rw [entry_eq_of_key ((MapKept.stamped_iff es clock).1 F.stamped).2.2 he1 he0 (hk1.trans hk0.symm)]
        rfl
      · exact absurd hk0 (hno e0 he0)
  subst hv
  have hsame : ∀ (u : World) (o : Obj), b < u.heap.size → (ChangeMaps.setBlock u b o).heap[b]? = some o := fun u o hu => by simp [ChangeMaps.setBlock, hu]
  have hgr : ∀ (u : World) (o : Obj), u.grownBy (ChangeMaps.setBlock u b o) (some b) := fun u o =>
    ⟨rfl, rfl, rfl, by simp [ChangeMaps.setBlock], fun i _ hi => by
      have : b ≠ i := fun e => hi (by rw [e])
      simp [ChangeMaps.setBlock, this]⟩
  have hlt : b < w.heap.size := (Array.getElem?_eq_some_iff.1 hb).1
  refine ⟨st, _, hrun, hgr _ _, by simp [ChangeMaps.setBlock], fun w2 v hw2 => ?_⟩
  rw [hsame w _ hlt] at hw2
  obtain ⟨es', clock', r1, r2⟩ := hst w2 v hw2
  obtain ⟨w', r3, ho, _⟩ := hs v
  rw [r2] at r3
  cases r3
  obtain ⟨es2, clock2, hb2, F2, hs2, hD2⟩ := ho
  rw [hsame w _ hlt] at hb2
  cases hb2
  exact ⟨_, r1, ⟨es', clock', hsame w2 _ (Array.getElem?_eq_some_iff.1 hw2).1, F2, hs2, hD2⟩, hgr _ _, by simp [ChangeMaps.setBlock]⟩
end

abbrev Col := Nat → Option (Nat × Lit)
structure Ext (M : Nat → Prop) (w w' : World) (col col' : Col) : Prop where
  os : w'.os = w.os
  tape : w'.tape = w.tape
  output : w'.output = w.output
  size : w.heap.size ≤ w'.heap.size
  block : ∀ g, g < w.heap.size → (∀ c, col g = some c → ¬ M c.1) → w'.heap[g]? = w.heap[g]?
  col : ∀ g, g < w.heap.size → col' g = col g
section
variable {M M' : Nat → Prop} {w w' w'' : World} {col col' col'' : Col}
theorem Ext.refl (M : Nat → Prop) (w : World) (col : Col) : Ext M w w col col := ⟨rfl, rfl, rfl, Nat.le_refl _, fun _ _ _ => rfl, fun _ _ => rfl⟩
theorem Ext.trans (h : Ext M w w' col col') (k : Ext M w' w'' col' col'') : Ext M w w'' col col'' :=
  ⟨k.os.trans h.os, k.tape.trans h.tape, k.output.trans h.output, Nat.le_trans h.size k.size, fun g hg hc =>
    (k.block g (Nat.lt_of_lt_of_le hg h.size) (by rw [h.col g hg]; exact hc)).trans (h.block g hg hc), fun g hg => (k.col g (Nat.lt_of_lt_of_le hg h.size)).trans (h.col g hg)⟩
theorem Ext.mono (h : Ext M w w' col col') (hM : ∀ i, M i → M' i) : Ext M' w w' col col' := ⟨h.os, h.tape, h.output, h.size, fun g hg hc => h.block g hg fun c e hm => hc c e (hM _ hm), h.col⟩
theorem Ext.below {B : Nat} (h : Ext M w w' col col') (hB : ∀ g, g < B → col g = none) (hs : B ≤ w.heap.size) : Below B w w' :=
  ⟨h.os, h.tape, h.output, h.size, fun g hg => h.block g (by omega) fun c e => by rw [hB g hg] at e; cases e⟩
theorem Ext.of_below (M : Nat → Prop) (col : Col) (h : Below w.heap.size w w') : Ext M w w' col col := ⟨h.os, h.tape, h.output, h.size, fun g hg _ => h.block g hg, fun _ _ => rfl⟩
theorem Ext.free (h : Ext M w w' col col') {g : Nat} (hg : g < w.heap.size) (hc : col g = none) : w'.heap[g]? = w.heap[g]? := h.block g hg fun c e => by rw [hc] at e; cases e
end
def paint (col : Col) (v : Value) (c : Nat × Lit) : Col := fun g => if v.ownBlock = some g then some c else col g

def GrpAt {α : Type} (E : Enc α) (eT : TypeId) (i B n : Nat) (w : World) (col : Col) (z : Lit) (o : Option Value) (l : List α) : Prop :=
  (o = none ∧ l = []) ∨ ∃ v, o = some v ∧ l ≠ [] ∧ l.length ≤ n ∧ Own (E := E) w B eT v l ∧ ∀ g, v.ownBlock = some g → col g = some (i, z)
structure GrpD {α κ : Type} (P : Program) (E : Enc α) (kT eT : TypeId) (kl : κ → Lit) (ok : κ → Prop) (i B n b : Nat) (w : World) (col : Col) (G : κ → List α) (D : DataW Value) : Prop where
  map : w.ownsMap P kT tokR b n D
  cb : col b = some (i, .nil)
  keys : ∀ z, Maps.has D z = true → ∃ k, ok k ∧ z = kl k
  at' : ∀ k, ok k → GrpAt E eT (i + 10) B n w col (kl k) (mget D (kl k)) (G k)
def Grp {α κ : Type} (P : Program) (E : Enc α) (kT eT : TypeId) (kl : κ → Lit) (ok : κ → Prop) (i B n b : Nat) (w : World) (col : Col) (G : κ → List α) : Prop := ∃ D, GrpD P E kT eT kl ok i B n b w col G D
section
variable {α κ : Type} {P : Program} {E : Enc α} {kT eT : TypeId} {kl : κ → Lit} {ok : κ → Prop} {i B n n' b : Nat} {w w' : World} {col col' : Col} {G : κ → List α} {D : DataW Value}
theorem GrpD.frame (h : GrpD P E kT eT kl ok i B n b w col G D) (hb : ∀ g c, col g = some c → c.1 = i ∨ c.1 = i + 10 → w'.heap[g]? = w.heap[g]?) (hcol : ∀ g, g < w.heap.size → col' g = col g) (hn : n ≤ n') : GrpD P E kT eT kl ok i B n' b w' col' G D := by
  refine ⟨?_, (hcol _ h.map.lt).trans h.cb, h.keys, fun k hok => ?_⟩
  · obtain ⟨es, clock, h1, F, h2, h3⟩ := h.map
    exact ⟨es, clock, (hb b _ h.cb (.inl rfl)).trans h1, F, Nat.le_trans h2 hn, h3⟩
  · rcases h.at' k hok with ⟨h1, h2⟩ | ⟨v, h1, h2, h3, h4, h5⟩
    · exact .inl ⟨h1, h2⟩
    · exact .inr ⟨v, h1, h2, Nat.le_trans h3 hn, h4.kept fun g hg => hb g _ (h5 g hg) (.inr rfl), fun g hg => (hcol _ (h4.lt g hg).2).trans (h5 g hg)⟩
theorem Grp.frame (h : Grp P E kT eT kl ok i B n b w col G) (hb : ∀ g c, col g = some c → c.1 = i ∨ c.1 = i + 10 → w'.heap[g]? = w.heap[g]?) (hcol : ∀ g, g < w.heap.size → col' g = col g) (hn : n ≤ n') : Grp P E kT eT kl ok i B n' b w' col' G :=
  let ⟨D, hD⟩ := h; ⟨D, hD.frame hb hcol hn⟩
theorem GrpD.val (h : GrpD P E kT eT kl ok i B n b w col G D) (k : κ) (hok : ok k) : ∃ v, (mget D (kl k)).getD (.slice none 0 0) = v ∧ Own (E := E) w B eT v (G k) ∧ (G k).length ≤ n ∧ ∀ g, v.ownBlock = some g → col g = some (i + 10, kl k) := by
  rcases h.at' k hok with ⟨h1, h2⟩ | ⟨v, h1, h2, h3, h4, h5⟩
  · refine ⟨.slice none 0 0, by rw [h1]; rfl, ?_, by rw [h2]; exact Nat.zero_le _, fun g hg => by cases hg⟩
    rw [h2]
    exact Own.nil _ _ _
  · exact ⟨v, by rw [h1]; rfl, h4, h3, h5⟩
theorem upd_eq [DecidableEq κ] (k0 : κ) (x : α) : ∀ k, upd G k0 x k = if k = k0 then G k0 ++ [x] else G k := fun k => by
  unfold upd
  split
  · rename_i h; rw [h]
  · rfl
theorem GrpD.put [DecidableEq κ] (hinj : ∀ k k', ok k → ok k' → kl k = kl k' → k = k') (K : Keyed P kT) {key v' : Value} {k0 : κ} {x : α} (hok0 : ok k0) (hkey : keyOf P kT key = some (kl k0)) (h : GrpD P E kT eT kl ok i B n b w col G D)
    (hv : Value) (ev : (mget D (kl k0)).getD (.slice none 0 0) = hv) (hm : w'.ownsMap P kT tokR b (n + 1) (D.put (kl k0) (.held v'))) (ho : Own (E := E) w' B eT v' (G k0 ++ [x]))
    (hf : ∀ g, g < w.heap.size → g ≠ b → some g ≠ hv.ownBlock → w'.heap[g]? = w.heap[g]?) (hl : v'.ownBlock = hv.ownBlock ∨ ∃ g, v'.ownBlock = some g ∧ w.heap.size ≤ g) :
    Grp P E kT eT kl ok i B (n + 1) b w' (paint col v' (i + 10, kl k0)) (upd G k0 x) := by
  obtain ⟨v, e1, o1, _, c1⟩ := h.val k0 hok0
  obtain rfl : v = hv := e1.symm.trans ev
  have hcol : ∀ g, g < w.heap.size → paint col v' (i + 10, kl k0) g = col g := fun g hg => by
    unfold paint
    split
    · rename_i e
      rcases hl with hl | ⟨g', e', hl⟩
      · rw [c1 g (hl ▸ e)]
      · rw [e'] at e; injection e with e; omega
    · rfl
  have hne : ∀ k, ok k → k ≠ k0 → kl k ≠ kl k0 := fun k ho hk e => hk (hinj _ _ ho hok0 e)
  refine ⟨_, hm, (hcol _ h.map.lt).trans h.cb, fun z hz => ?_, fun k hok => ?_⟩
  · by_cases e : z = kl k0
    · exact ⟨k0, hok0, e⟩
    · rw [Maps.has_put_other e] at hz
      exact h.keys z hz
  · rw [upd_eq]
    by_cases hk : k = k0
    · subst hk
      rw [if_pos rfl, mget_same h.map K hkey]
      refine .inr ⟨v', rfl, by simp, ?_, ho, fun g hg => if_pos hg⟩
      obtain ⟨_, _, _, hlen, _⟩ := h.val k hok
      rw [List.length_append, List.length_singleton]; omega
    · rw [if_neg hk, mget_other (hne k hok hk)]
      rcases h.at' k hok with ⟨h1, h2⟩ | ⟨u, h1, h2, h3, h4, h5⟩
      · exact .inl ⟨h1, h2⟩
      · have hu : ∀ g, u.ownBlock = some g → g ≠ b ∧ some g ≠ v.ownBlock := fun g hg => by
          constructor
          · intro e
            have := h5 g hg
            rw [e, h.cb] at this
            simp only [Option.some.injEq, Prod.mk.injEq] at this
            omega
          · intro e
            have a := h5 g hg
            rw [c1 g e.symm] at a
            simp only [Option.some.injEq, Prod.mk.injEq, true_and] at a
            exact hne k hok hk a.symm
        exact .inr ⟨u, h1, h2, by omega, h4.kept fun g hg => hf g (h4.lt g hg).2 (hu g hg).1 (hu g hg).2, fun g hg => (hcol g (h4.lt g hg).2).trans (h5 g hg)⟩
end
end Go.Proofs.YtoajckhnneagnaaDoor.Sh
