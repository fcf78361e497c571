/-
  The program's solver in memory.
-/
import Derived.Test.YtoajckhnneagnaaDoorJd3
import Derived.KernelRfl
import Derived.Test.YtoajckhnneagnaaDoorJd1
import Derived.Lib.DecodeN
set_option linter.unusedVariables false
set_option linter.unusedSimpArgs false
namespace Go.Proofs.YtoajckhnneagnaaDoor.Sh
open Go Go.RowKit
open Go.Maps (Keyed)

theorem so_laidOut : laidOutB Tryd.prog = true := by kernel_rfl
theorem so_types : ∃ n, Tryd.prog.types.size = n + 8 := ⟨Tryd.prog.types.size - 8, by kernel_rfl⟩
theorem rowR : (24 : TypeId) < Tryd.prog.types.size := of_decide_eq_true (by kernel_rfl)
theorem rowP : (58 : TypeId) < Tryd.prog.types.size := of_decide_eq_true (by kernel_rfl)
theorem wideR : (match Tryd.prog.underlying 24 with | some (.array _ _) | some (.struct _) => true | _ => false) = true := by kernel_rfl
theorem wideP : (match Tryd.prog.underlying 58 with | some (.array _ _) | some (.struct _) => true | _ => false) = true := by kernel_rfl
set_option maxRecDepth 100000 in
theorem klR : WideMaps.KeyLaw Tryd.prog 24 := deep_law_laid so_laidOut (m := 2) (by omega) rowR (by kernel_rfl) wideR
set_option maxRecDepth 100000 in
theorem klP : WideMaps.KeyLaw Tryd.prog 58 := deep_law_laid so_laidOut (m := 3) (by omega) rowP (by kernel_rfl) wideP
theorem lawR : Keyed Tryd.prog 24 := Keyed.of_law klR
theorem lawP : Keyed Tryd.prog 58 := Keyed.of_law klP
def rV (r : Rl) : Value := .agg #[.string r.1, .string r.2]
def pV (p : Pr) : Value := .agg #[.string p.1.1, .string p.1.2, .string p.2]
def ks (s : ByteArray) : Lit := .string s.data.toList
def kr (r : Rl) : Lit := .string (keyBytes [.string r.1.data.toList, .string r.2.data.toList])
def kp (p : Pr) : Lit := .string (keyBytes [.string p.1.1.data.toList, .string p.1.2.data.toList, .string p.2.data.toList])
section
variable {P : Program} {T S R : TypeId}
theorem kl_S (hS : P.underlying S = some .string) (d : Nat) {a : ByteArray} (h : a.size ≤ maxLen) : P.keyLits (d + 1) S [.string a] = some [.string a.data.toList] := by
  unfold Program.keyLits
  rw [hS]
  exact if_pos h
theorem kl_2 {n0 n1 : String} {x0 x1 : Nat} {g0 g1 : Bool} {t0 t1 k0 k1 : String} (hu : P.underlying T = some (.struct #[⟨n0, S, 0, g0, t0, k0, x0⟩, ⟨n1, S, 1, g1, t1, k1, x1⟩])) (hS : P.underlying S = some .string) (e0 : (n0 != "_") = true) (e1 : (n1 != "_") = true)
    (hc : P.cellsOf T = 2) (hs : P.cellsOf S = 1) (d : Nat) {a b : ByteArray} (h1 : a.size ≤ maxLen) (h2 : b.size ≤ maxLen) :
    P.keyLits (d + 2) T [.string a, .string b] = some [.string a.data.toList, .string b.data.toList] := by
  unfold Program.keyLits
  rw [hu]
  simp only [List.length_cons, List.length_nil, hc, List.mapM_cons, List.mapM_nil, hs, List.drop_zero, List.take_succ_cons, List.take_zero, List.drop_succ_cons, kl_S hS d h1, kl_S hS d h2]
  simp
  exact ⟨bne_iff_ne.1 e0, bne_iff_ne.1 e1⟩
theorem key2 {n0 n1 : String} {x0 x1 : Nat} {g0 g1 : Bool} {t0 t1 k0 k1 : String} (hu : P.underlying T = some (.struct #[⟨n0, S, 0, g0, t0, k0, x0⟩, ⟨n1, S, 1, g1, t1, k1, x1⟩])) (hS : P.underlying S = some .string) (e0 : (n0 != "_") = true) (e1 : (n1 != "_") = true)
    (hk : P.keyType T = true) (hc : P.cellsOf T = 2) (hs : P.cellsOf S = 1) {n : Nat} (hn : P.types.size = n + 8) {a b : ByteArray} (h1 : a.size ≤ maxLen) (h2 : b.size ≤ maxLen) :
    keyOf P T (.agg #[.string a, .string b]) = some (.string (keyBytes [.string a.data.toList, .string b.data.toList])) := by
  have hf : (Value.agg #[.string a, .string b]).formed P T = true := by unfold Value.formed; rw [hu]; simp only; rw [hc]; rfl
  unfold keyOf
  rw [hu]
  simp only [hk, hf, Bool.and_self, if_true]
  show (P.keyLits (P.types.size + 1) T [.string a, .string b]).map _ = _
  rw [hn, show n + 8 + 1 = (n + 7) + 2 by omega, kl_2 hu hS e0 e1 hc hs _ h1 h2]
  rfl
theorem key3 {m0 m1 n0 n1 : String} {x0 x1 y0 y1 : Nat} {g0 g1 i0 i1 : Bool} {t0 t1 k0 k1 u0 u1 j0 j1 : String} (hu : P.underlying T = some (.struct #[⟨m0, R, 0, i0, u0, j0, y0⟩, ⟨m1, S, 2, i1, u1, j1, y1⟩]))
    (hr : P.underlying R = some (.struct #[⟨n0, S, 0, g0, t0, k0, x0⟩, ⟨n1, S, 1, g1, t1, k1, x1⟩])) (hS : P.underlying S = some .string) (e0 : (n0 != "_") = true) (e1 : (n1 != "_") = true) (d0 : (m0 != "_") = true) (d1 : (m1 != "_") = true)
    (hk : P.keyType T = true) (hc : P.cellsOf T = 3) (hcr : P.cellsOf R = 2) (hs : P.cellsOf S = 1) {n : Nat} (hn : P.types.size = n + 8) {a b c : ByteArray} (h1 : a.size ≤ maxLen) (h2 : b.size ≤ maxLen) (h3 : c.size ≤ maxLen) :
    keyOf P T (.agg #[.string a, .string b, .string c]) = some (.string (keyBytes [.string a.data.toList, .string b.data.toList, .string c.data.toList])) := by
  have hf : (Value.agg #[.string a, .string b, .string c]).formed P T = true := by unfold Value.formed; rw [hu]; simp only; rw [hc]; rfl
  unfold keyOf
  rw [hu]
  simp only [hk, hf, Bool.and_self, if_true]
  show (P.keyLits (P.types.size + 1) T [.string a, .string b, .string c]).map _ = _
  rw [hn]
  unfold Program.keyLits
  rw [hu]
  simp only [List.length_cons, List.length_nil, hc, List.mapM_cons, List.mapM_nil, hs, hcr, List.drop_zero, List.take_succ_cons, List.take_zero, List.drop_succ_cons, kl_2 hr hS e0 e1 hcr hs (n + 6) h1 h2, kl_S hS (n + 7) h3]
  simp
  exact ⟨bne_iff_ne.1 d0, bne_iff_ne.1 d1⟩
end
def okB (s : ByteArray) : Prop := s.size ≤ maxLen
def okR (r : Rl) : Prop := okB r.1 ∧ okB r.2
def okP (p : Pr) : Prop := okR p.1 ∧ okB p.2
theorem keyR {r : Rl} (h : okR r) : keyOf Tryd.prog 24 (rV r) = some (kr r) := by
  obtain ⟨n, hn⟩ := so_types
  exact key2 Tryd.underlying24 Tryd.underlying9 rfl rfl (by kernel_rfl) (by kernel_rfl) (by kernel_rfl) hn h.1 h.2
theorem keyP {p : Pr} (h : okP p) : keyOf Tryd.prog 58 (pV p) = some (kp p) := by
  obtain ⟨n, hn⟩ := so_types
  exact key3 Tryd.underlying58 Tryd.underlying24 Tryd.underlying9 rfl rfl rfl rfl (by kernel_rfl) (by kernel_rfl) (by kernel_rfl) (by kernel_rfl) hn h.1.1 h.1.2 h.2
theorem kr_inj (a b : Rl) (ha : okR a) (hb : okR b) (e : kr a = kr b) : a = b := by
  have := lawR.inj (keyR ha) (e ▸ keyR hb)
  obtain ⟨a1, a2⟩ := a
  obtain ⟨b1, b2⟩ := b
  simp [rV] at this
  rw [this.1, this.2]
theorem kp_inj (a b : Pr) (ha : okP a) (hb : okP b) (e : kp a = kp b) : a = b := by
  have := lawP.inj (keyP ha) (e ▸ keyP hb)
  obtain ⟨⟨a1, a2⟩, a3⟩ := a
  obtain ⟨⟨b1, b2⟩, b3⟩ := b
  simp [pV] at this
  rw [this.1, this.2.1, this.2.2]
section
variable {w w' : World} {B sb b0 b1 b2 b3 b4 : Nat} {vF : Value} {col col' : Col} {s : St}
end
end Go.Proofs.YtoajckhnneagnaaDoor.Sh
namespace Go.Proofs.YtoajckhnneagnaaDoor.Sh
open Go Go.RowKit

set_option linter.unusedVariables false
set_option linter.unusedSimpArgs false
section
variable {α : Type} {E : Enc α} {P : Program} {w : World}
theorem wp_app1 {o : Oper} {a : Act} {K : Act → World → Prop} {Q : Exit → Act → World → Prop} {T S : TypeId} {bytes : Nat} (hT : SlN P T S E.k bytes) (s x : Operand)
    (ho : o.op = .call { callee := .builtin .append, args := #[s, x], argTypes := #[T, T] })
    {B : Nat} {v : Value} {l : List α} (hown : Own (E := E) w B S v l) (hs : a.eval s = v)
    {ad : Addr} {c : Nat} (y : α) (hx : a.eval x = .slice (some ad) 1 c) (hr : Reads w (some ad) (E.cells y))
    (hl : l.length ≤ 1000000000000) (hby : bytes ≤ 64) (hbase : B ≤ w.heap.size)
    (h : ∀ A' c' w', Own (E := E) w' B S (.slice A' (l.length + 1) c') (l ++ [y]) → w.grownBy w' v.ownBlock → ((Value.slice A' (l.length + 1) c').ownBlock = v.ownBlock ∨ (Value.slice A' (l.length + 1) c').ownBlock = some w.heap.size) → K (a.put o.dst (.slice A' (l.length + 1) c')) w') : o.wp P a w K Q := by
  have hm : (l.length + 1) * bytes ≤ (l.length + 1) * 64 := Nat.mul_le_mul_left _ hby
  obtain ⟨A', c', w', hrun, h2, h3, h4⟩ := run_appN (ty := o.type) hT hown (A := some ad) (m := 1) (c := c) (news := E.cells y) (by rw [E.len]; omega) hr (E.one y) (by omega) (by unfold maxLen; omega) hbase
  have h5 : Own (E := E) w' B S (.slice A' (l.length + 1) c') (l ++ [y]) := by
    unfold Own
    rw [ev_append, List.length_append, List.length_singleton]
    simpa [ev] using h2
  unfold Oper.wp execOp
  simp only [ho, resolve, invoke, builtin, Sem.run_bind, Sem.run_pure, Result.andThen_ok, List.map_toArray, List.map_cons, List.map_nil, hs, hx, hrun]
  exact h A' c' w' h5 h3 h4
theorem wpList_app1 {ops : Array Oper} {rest : List Oper} {o : Oper} {a : Act} {Q : Exit → Act → World → Prop} (hgd : o.guard = none) {T S : TypeId} {bytes : Nat} (hT : SlN P T S E.k bytes) (s x : Operand)
    (ho : o.op = .call { callee := .builtin .append, args := #[s, x], argTypes := #[T, T] })
    {B : Nat} {v : Value} {l : List α} (hown : Own (E := E) w B S v l) (hs : a.eval s = v)
    {ad : Addr} {c : Nat} (y : α) (hx : a.eval x = .slice (some ad) 1 c) (hr : Reads w (some ad) (E.cells y))
    (hl : l.length ≤ 1000000000000) (hby : bytes ≤ 64) (hbase : B ≤ w.heap.size)
    (h : ∀ A' c' w', Own (E := E) w' B S (.slice A' (l.length + 1) c') (l ++ [y]) → w.grownBy w' v.ownBlock → ((Value.slice A' (l.length + 1) c').ownBlock = v.ownBlock ∨ (Value.slice A' (l.length + 1) c').ownBlock = some w.heap.size) → wpList P ops Q rest (a.put o.dst (.slice A' (l.length + 1) c')) w') : wpList P ops Q (o :: rest) a w :=
  wpList_plain hgd fun _ hK => wp_app1 hT s x ho hown hs y hx hr hl hby hbase fun A' c' w' h2 h3 h4 => hK _ _ (h A' c' w' h2 h3 h4)
theorem step_app1 {ops : Array Oper} {o : Oper} {a : Act} {K : Act → World → Prop} {Q : Exit → Act → World → Prop} {F : Prop} (hgd : o.guard = none) {T S : TypeId} {bytes : Nat} (hT : SlN P T S E.k bytes) (s x : Operand)
    (ho : o.op = .call { callee := .builtin .append, args := #[s, x], argTypes := #[T, T] })
    {B : Nat} {v : Value} {l : List α} (hown : Own (E := E) w B S v l) (hs : a.eval s = v)
    {ad : Addr} {c : Nat} (y : α) (hx : a.eval x = .slice (some ad) 1 c) (hr : Reads w (some ad) (E.cells y))
    (hl : l.length ≤ 1000000000000) (hby : bytes ≤ 64) (hbase : B ≤ w.heap.size)
    (h : ∀ A' c' w', Own (E := E) w' B S (.slice A' (l.length + 1) c') (l ++ [y]) → w.grownBy w' v.ownBlock → ((Value.slice A' (l.length + 1) c').ownBlock = v.ownBlock ∨ (Value.slice A' (l.length + 1) c').ownBlock = some w.heap.size) → K (a.put o.dst (.slice A' (l.length + 1) c')) w') :
    if Region.wanted o (yielded ops a.tmps) = true then Oper.wp P o a w K Q else F := by
  have hw : Region.wanted o (yielded ops a.tmps) = true := by simp [Region.wanted, hgd]
  rw [if_pos hw]
  exact wp_app1 hT s x ho hown hs y hx hr hl hby hbase h
end
theorem Own.below {α : Type} {E : Enc α} {w w' : World} {B : Nat} {T : TypeId} {v : Value} {l : List α} (h : Own (E := E) w B T v l) (hb : Below w.heap.size w w') : Own (E := E) w' B T v l :=
  h.kept fun g e => hb.block g (h.lt g e).2
theorem own_els {α : Type} {E : Enc α} {w : World} {B n c : Nat} {T : TypeId} {A : Option Addr} {l : List α} (h : Own (E := E) w B T (.slice A n c) l) : Els E w w.heap.size A l := by
  obtain ⟨A', c', e, -, -, h'⟩ := h.els
  simp only [Value.slice.injEq] at e
  rw [e.1]
  exact h'
section
variable {α : Type} {E : Enc α} {w : World} {B : Nat} {A : Option Addr} {l : List α}
theorem Els.reads (h : Els E w B A l) : Reads w A (ev E l) := fun hn => by
  have hk := E.pos
  have : 0 < l.length := by
    rcases Nat.eq_zero_or_pos l.length with h0 | h0
    · rw [ev_length, h0, Nat.zero_mul] at hn; omega
    · exact h0
  obtain ⟨ad, e, _, hc⟩ := h this
  exact ⟨ad, e, hc⟩
theorem Els.head {hi : Nat} (h : Els E w B A l) : Els E w B A (l.take hi) := by
  intro hn
  simp only [List.length_take] at hn
  obtain ⟨ad, e, hb, hc⟩ := h (by omega)
  refine ⟨ad, e, hb, fun j x hx => hc j x ?_⟩
  rw [ev_take, List.getElem?_take] at hx
  split at hx
  · exact hx
  · cases hx
theorem ev_drop (l : List α) (n : Nat) : ev E (l.drop n) = (ev E l).drop (n * E.k) := by
  induction l generalizing n with
  | nil => simp [ev]
  | cons x t ih =>
    cases n with
    | zero => simp
    | succ n =>
      rw [List.drop_succ_cons, ev, ih, List.drop_append, E.len, List.drop_of_length_le (l := E.cells x) (by rw [E.len, Nat.add_mul]; omega), List.nil_append, show (n + 1) * E.k - E.k = n * E.k by rw [Nat.add_mul, Nat.one_mul]; omega]
theorem Els.tail {lo cap : Nat} (h : Els E w B A l) (h3 : l.length ≤ cap) : Els E w B (if cap = lo then A else A.map (·.add (lo * E.k))) (l.drop lo) := by
  intro hn
  simp only [List.length_drop] at hn
  obtain ⟨ad, rfl, hb, hc⟩ := h (by omega)
  rw [if_neg (by omega)]
  refine ⟨ad.add (lo * E.k), rfl, by rw [block_add]; exact hb, fun j x hx => ?_⟩
  rw [add_add]
  refine hc _ x ?_
  rwa [ev_drop, List.getElem?_drop] at hx
theorem wpList_appL {P : Program} {ops : Array Oper} {rest : List Oper} {o : Oper} {a : Act} {Q : Exit → Act → World → Prop} (hgd : o.guard = none) {T S : TypeId} {bytes : Nat} (hT : SlN P T S E.k bytes) (s x : Operand)
    (ho : o.op = .call { callee := .builtin .append, args := #[s, x], argTypes := #[T, T] })
    {v : Value} (hown : Own (E := E) w B S v l) (hs : a.eval s = v)
    {m c : Nat} (k : List α) (hx : a.eval x = .slice A m c) (hl : k.length = m) (hr : Reads w A (ev E k)) (hb : l.length + m ≤ 1000000000000) (hby : bytes ≤ 64) (hbase : B ≤ w.heap.size)
    (h : ∀ A' c' w', Own (E := E) w' B S (.slice A' (l.length + m) c') (l ++ k) → w.grownBy w' v.ownBlock → ((Value.slice A' (l.length + m) c').ownBlock = v.ownBlock ∨ (Value.slice A' (l.length + m) c').ownBlock = some w.heap.size) → wpList P ops Q rest (a.put o.dst (.slice A' (l.length + m) c')) w') : wpList P ops Q (o :: rest) a w := by
  have hm : (l.length + m) * bytes ≤ (l.length + m) * 64 := Nat.mul_le_mul_left _ hby
  refine wpList_appN hgd hT s x ho hown hs hx (by rw [ev_length, hl]) hr (ev_one E k) (by omega) (by unfold maxLen; omega) hbase rfl fun A' c' w' h2 h3 h4 => h A' c' w' ?_ h3 h4
  unfold Own
  rw [ev_append, List.length_append, hl]
  exact h2
end
section
variable {α : Type} {E : Enc α} {w w' : World} {B : Nat} {A : Option Addr} {l : List α} {v : Value} {T : TypeId}
theorem Els.far (h : Els E w B A l) (hB : B ≤ w.heap.size) (hg : w.grownBy w' v.ownBlock) (hf : FarV A v) : Els E w' B A l :=
  h.keep fun ad e hb => hg.block _ (by omega) (hf ad e)
theorem Own.keptBy {row : Option Nat} (h : Own (E := E) w B T v l) (hg : w.grownBy w' row) (ha : ∀ g, v.ownBlock = some g → row ≠ some g) : Own (E := E) w' B T v l :=
  h.kept fun g e => hg.block g (h.lt g e).2 (fun e2 => ha g e e2.symm)
theorem own_far {n c : Nat} (h : ∀ g, v.ownBlock = some g → (Value.slice A n c).ownBlock ≠ some g) : FarV A v := fun ad e e2 => by
  subst e
  exact h ad.block e2.symm rfl
end
theorem counts_mem {out l : List Crd} (h : CountsOf out l) {c : Crd} (hc : c ∈ out) : mayC c = true ∧ c ∈ l := by
  have h1 : c ∈ out.filter (idIs c.d c.q) := List.mem_filter.2 ⟨hc, by simp [idIs]⟩
  rw [h.2] at h1
  have h2 := List.mem_filter.1 (List.mem_of_mem_take h1)
  simp only [Bool.and_eq_true] at h2
  exact ⟨h2.2.2, h2.1⟩
theorem idIs_iff {c x : Crd} : idIs c.d c.q x = true ↔ x.d = c.d ∧ x.q = c.q := by unfold idIs; simp
theorem counts_one {out l : List Crd} (h : CountsOf out l) {c : Crd} (hc : c ∈ out) : out.filter (idIs c.d c.q) = [c] := by
  have h1 : c ∈ out.filter (idIs c.d c.q) := List.mem_filter.2 ⟨hc, by simp [idIs]⟩
  have h2 : (out.filter (idIs c.d c.q)).length ≤ 1 := by rw [h.2, List.length_take]; omega
  match hf : out.filter (idIs c.d c.q), h1, h2 with
  | [x], h1, _ => rw [List.mem_singleton.1 h1]
theorem counts_len {out l : List Crd} (h : CountsOf out l) : out.length ≤ l.length := by
  have hn : out.Nodup := by
    have : ∀ (a : List Crd), (∀ c ∈ a, a.filter (idIs c.d c.q) = [c]) → a.Nodup := by
      intro a
      induction a with
      | nil => intro _; exact List.nodup_nil
      | cons x t ih =>
        intro ha
        have hx := ha x (by simp)
        rw [List.filter_cons_of_pos (by simp [idIs])] at hx
        have hx0 : t.filter (idIs x.d x.q) = [] := (List.cons.inj hx).2
        have hnot : ∀ c ∈ t, ¬ (c.d = x.d ∧ c.q = x.q) := fun c hc hh => by
          have : c ∈ t.filter (idIs x.d x.q) := List.mem_filter.2 ⟨hc, idIs_iff.2 hh⟩
          rw [hx0] at this
          cases this
        refine List.nodup_cons.2 ⟨fun hh => hnot x hh ⟨rfl, rfl⟩, ih fun c hc => ?_⟩
        have hc1 := ha c (by simp [hc])
        rwa [List.filter_cons_of_neg (by rw [idIs_iff]; intro hh; exact hnot c hc ⟨hh.1.symm, hh.2.symm⟩)] at hc1
    exact this out fun c hc => counts_one h hc
  classical
  exact nodup_length hn fun c hc => (counts_mem h hc).2
theorem may_kd {c : Crd} (h : mayC c = true) : (c.kd = 1 ∨ c.kd = 2 ∨ c.kd = 3 ∨ c.kd = 4) ∧ 1 ≤ c.d ∧ c.d ≤ 16 := by
  unfold mayC headOk kindOk at h
  simp only [Bool.and_eq_true, decide_eq_true_eq] at h
  refine ⟨?_, h.1.1.1, h.1.1.2.1⟩
  have h2 := h.2
  by_cases h1 : c.kd = 1
  · exact .inl h1
  · rw [if_neg h1] at h2
    simp only [Bool.and_eq_true] at h2
    have h3 := h2.2
    by_cases k2 : c.kd = 2
    · exact .inr (.inl k2)
    · rw [if_neg k2] at h3
      by_cases k3 : c.kd = 3
      · exact .inr (.inr (.inl k3))
      · rw [if_neg k3] at h3
        by_cases k4 : c.kd = 4
        · exact .inr (.inr (.inr k4))
        · rw [if_neg k4] at h3; cases h3
end Go.Proofs.YtoajckhnneagnaaDoor.Sh
namespace Go.Proofs.YtoajckhnneagnaaDoor.Sh
open Go Go.RowKit
open Go.Maps (Keyed)

theorem slR : SlN Tryd.prog 38 24 2 32 := by
  obtain ⟨i0, hi0, hz0, hz1, hz2⟩ := info_parts (P := Tryd.prog) (e := 24) (z := .agg #[.string E0, .string E0]) (size := 2) (bytes := 32) (by kernel_rfl)
  exact ⟨Tryd.underlying38, ⟨i0, _, hi0, hz0, hz1, hz2, rfl⟩, by omega⟩
theorem slP : SlN Tryd.prog 66 58 3 48 := by
  obtain ⟨i0, hi0, hz0, hz1, hz2⟩ := info_parts (P := Tryd.prog) (e := 58) (z := .agg #[.string E0, .string E0, .string E0]) (size := 3) (bytes := 48) (by kernel_rfl)
  exact ⟨Tryd.underlying66, ⟨i0, _, hi0, hz0, hz1, hz2, rfl⟩, by omega⟩
structure But (X : Nat → Prop) (w w' : World) : Prop where
  os : w'.os = w.os
  tape : w'.tape = w.tape
  output : w'.output = w.output
  size : w.heap.size ≤ w'.heap.size
  block : ∀ g, g < w.heap.size → ¬ X g → w'.heap[g]? = w.heap[g]?
section
variable {X X' : Nat → Prop} {w w' w'' : World}
theorem But.refl (X : Nat → Prop) (w : World) : But X w w := ⟨rfl, rfl, rfl, Nat.le_refl _, fun _ _ _ => rfl⟩
theorem But.trans (h : But X w w') (k : But X' w' w'') (hX : ∀ g, g < w.heap.size → X' g → X g) : But X w w'' :=
  ⟨k.os.trans h.os, k.tape.trans h.tape, k.output.trans h.output, Nat.le_trans h.size k.size, fun g hg hx => (k.block g (Nat.lt_of_lt_of_le hg h.size) fun h' => hx (hX g hg h')).trans (h.block g hg hx)⟩
theorem But.mono (h : But X w w') (hX : ∀ g, g < w.heap.size → X g → X' g) : But X' w w' := ⟨h.os, h.tape, h.output, h.size, fun g hg hx => h.block g hg fun h' => hx (hX g hg h')⟩
theorem But.grown {r : Option Nat} (h : w.grownBy w' r) : But (fun g => r = some g) w w' := ⟨h.os, h.tape, h.output, h.size, fun g hg hx => h.block g hg fun e => hx e.symm⟩
theorem But.below (h : Below w.heap.size w w') : But (fun _ => False) w w' := ⟨h.os, h.tape, h.output, h.size, fun g hg _ => h.block g hg⟩
theorem But.then_below (h : But X w w') (k : Below w'.heap.size w' w'') : But X w w'' := h.trans (.below k) fun _ _ h' => h'.elim
theorem But.drew (h : But X w w') : But X w w'.drew := ⟨h.os, h.tape, h.output, h.size, h.block⟩
theorem But.alloc (h : But X w w') (o : Obj) : But X w (w'.alloc o) := h.then_below ((Below.refl _ _).alloc (Nat.le_refl _) _)
theorem But.set (h : But X w w') {b k : Nat} (u : Value) (hb : w.heap.size ≤ b ∨ X b) : But X w (w'.setCell ⟨b, k, none⟩ u) :=
  h.trans (.grown (grown_set w' b k u)) fun g hg e => by
    simp only [Option.some.injEq] at e
    rcases hb with hb | hb
    · omega
    · exact e ▸ hb
theorem But.then_grown {r : Option Nat} (h : But X w w') (k : w'.grownBy w'' r) (hr : ∀ g, r = some g → w.heap.size ≤ g ∨ X g) : But X w w'' :=
  h.trans (.grown k) fun g hg e => (hr g e).resolve_left (by omega)
end
section
variable {w w' : World} {B sb b0 b1 b2 b3 b4 : Nat} {vF vF' : Value} {col : Col} {s : St} {p : Pr}
theorem paint_old {col : Col} {v : Value} {c : Nat × Lit} {n : Nat} (hl : ∀ g, v.ownBlock = some g → col g = some c ∨ n ≤ g) {g : Nat} (hg : g < n) : paint col v c g = col g := by
  unfold paint
  split
  · rename_i e
    rcases hl g e with h | h
    · exact h.symm
    · omega
  · rfl
end
end Go.Proofs.YtoajckhnneagnaaDoor.Sh
namespace Go.Proofs.YtoajckhnneagnaaDoor.Sh
open Go Go.RowKit

theorem decodeN_cover (n b0 b1 b2 b3 : Nat) (hn : 1 ≤ n) : 1 ≤ (Lib.decodeN n b0 b1 b2 b3).2 ∧ (Lib.decodeN n b0 b1 b2 b3).2 ≤ n ∧ (Lib.decodeN n b0 b1 b2 b3).2 ≤ 4 ∧
    (1 < (Lib.decodeN n b0 b1 b2 b3).2 → 128 ≤ b1) ∧ (2 < (Lib.decodeN n b0 b1 b2 b3).2 → 128 ≤ b2) ∧ (3 < (Lib.decodeN n b0 b1 b2 b3).2 → 128 ≤ b3) := by
  unfold Lib.decodeN
  repeat' split
  all_goals (simp only; omega)
theorem getBang (s : ByteArray) {j : Nat} {y : UInt8} (hy : s.data.toList[j]? = some y) : s.get! j = y := by
  obtain ⟨h, e⟩ := sget s hy
  rw [← e]
  have := get_at s j h
  simpa using this
theorem next_at (s : ByteArray) {k : Nat} {x : UInt8} (hx : s.data.toList[k]? = some x) :
    ∃ R Z : Nat, (∀ (P : Program) (w : World) ty, (Instr.next (.pointer (some ⟨w.heap.size, 0, none⟩)) true ty).run P (w.iter s k) = .ok (.tuple #[.bool true, .int .i64 k, .int .i32 R]) (w.iter s Z)) ∧
      k < Z ∧ Z ≤ s.size ∧ R ≤ 2147483647 ∧ (x.toNat < 128 → R = x.toNat ∧ Z = k + 1) ∧ (128 ≤ x.toNat → 128 ≤ R) ∧ ∀ j y, k < j → j < Z → s.data.toList[j]? = some y → 128 ≤ y.toNat := by
  obtain ⟨hk, hsx⟩ := sget s hx
  refine ⟨(Utf8.decode s k).1, k + (Utf8.decode s k).2, fun P w ty => run_next_any w s k ty hk, ?_⟩
  have hc := decodeN_cover (s.size - k) (s.get! k).toNat (s.get! (k + 1)).toNat (s.get! (k + 2)).toNat (s.get! (k + 3)).toNat (by omega)
  have hle := decode_le s k
  have hd := Lib.decode_at s k
  rw [← hd] at hc
  refine ⟨by omega, by omega, hle, fun h => ?_, fun h => (decode_high s k hk (by rw [hsx]; exact h)).1, fun j y h1 h2 hy => ?_⟩
  · have := decode_ascii s k hk (by rw [hsx]; exact h)
    rw [this, hsx]
    exact ⟨rfl, rfl⟩
  · have e := getBang s hy
    rcases (by omega : j = k + 1 ∨ j = k + 2 ∨ j = k + 3) with rfl | rfl | rfl
    · rw [← e]; exact hc.2.2.2.1 (by omega)
    · rw [← e]; exact hc.2.2.2.2.1 (by omega)
    · rw [← e]; exact hc.2.2.2.2.2 (by omega)
theorem iter_below (w : World) (s : ByteArray) (k : Nat) : Below w.heap.size w (w.iter s k) := (Below.refl _ _).alloc (Nat.le_refl _) _

def letN (R : Nat) : Bool := decide (97 ≤ R ∧ R ≤ 122)
def digN (R : Nat) : Bool := decide (48 ≤ R ∧ R ≤ 57)
theorem letN_of {R : Nat} {x : UInt8} (h1 : x.toNat < 128 → R = x.toNat) (h2 : 128 ≤ x.toNat → 128 ≤ R) : letN R = letter x := by
  unfold letN letter
  rcases Nat.lt_or_ge x.toNat 128 with h | h
  · rw [h1 h]; simp
  · have := h2 h
    rw [decide_eq_false (by omega)]
    simp; omega
theorem digN_of {R : Nat} {x : UInt8} (h1 : x.toNat < 128 → R = x.toNat) (h2 : 128 ≤ x.toNat → 128 ≤ R) : digN R = digit x := by
  unfold digN digit
  rcases Nat.lt_or_ge x.toNat 128 with h | h
  · rw [h1 h]; simp
  · have := h2 h
    rw [decide_eq_false (by omega)]
    simp; omega

theorem may_end {l : List UInt8} (h : ∀ j x, l[j]? = some x → (letter x = true ∨ (0 < j ∧ digit x = true))) : mayL l = (decide (1 ≤ l.length) && decide (l.length ≤ 8)) := by
  cases l with
  | nil => rfl
  | cons y t =>
    rw [mayL_cons]
    have h0 : letter y = true := (h 0 y rfl).resolve_right (fun k => Nat.lt_irrefl _ k.1)
    have ht : t.all okName = true := by
      rw [List.all_eq_true]
      intro x hx
      obtain ⟨j, hj⟩ := List.getElem?_of_mem hx
      unfold okName
      rw [Bool.or_eq_true]
      exact (h (j + 1) x (by simpa using hj)).imp id fun k => k.2
    rw [h0, ht]
    simp
theorem may_bad {l : List UInt8} {j : Nat} {x : UInt8} (hx : l[j]? = some x) (h : letter x = false) (h2 : j = 0 ∨ digit x = false) : mayL l = false := by
  cases l with
  | nil => rfl
  | cons y t =>
    rw [mayL_cons]
    cases j with
    | zero => simp at hx; subst hx; rw [h]; rfl
    | succ j =>
      have : t.all okName = false := by
        rw [List.all_eq_false]
        refine ⟨x, List.mem_of_getElem? (by simpa using hx), ?_⟩
        unfold okName
        rw [h, h2.resolve_left (Nat.succ_ne_zero j)]
        simp
      rw [this]
      simp

theorem numL_ne {l : List UInt8} (h : numL l ≠ 0) : (∃ x : UInt8, l = [100, x] ∧ 49 ≤ x.toNat ∧ x.toNat ≤ 57) ∨
    (∃ x y : UInt8, l = [100, x, y] ∧ 49 ≤ x.toNat ∧ x.toNat ≤ 57 ∧ 48 ≤ y.toNat ∧ y.toNat ≤ 57 ∧ 10 * (x.toNat - 48) + (y.toNat - 48) ≤ 16) := by
  match l with
  | [] => exact absurd rfl h
  | [_] => exact absurd rfl h
  | [d, x] =>
    rw [numL_two] at h
    split at h
    · rename_i hc
      exact .inl ⟨x, by rw [hc.1], hc.2⟩
    · exact absurd rfl h
  | [d, x, y] =>
    rw [numL_three] at h
    split at h
    · rename_i hc
      exact .inr ⟨x, y, by rw [hc.1], hc.2⟩
    · exact absurd rfl h
  | _ :: _ :: _ :: _ :: _ => exact absurd rfl h
def numAt (l : List UInt8) (k m : Nat) : Prop :=
  (k = 0 ∧ m = 0) ∨ (k = 1 ∧ m = 0 ∧ l[0]? = some 100) ∨ (k = 2 ∧ 1 ≤ m ∧ m ≤ 9 ∧ l[0]? = some 100 ∧ ∃ x : UInt8, l[1]? = some x ∧ x.toNat = 48 + m) ∨
  (k = 3 ∧ 10 ≤ m ∧ m ≤ 16 ∧ l[0]? = some 100 ∧ ∃ x y : UInt8, l[1]? = some x ∧ l[2]? = some y ∧ 49 ≤ x.toNat ∧ x.toNat ≤ 57 ∧ 48 ≤ y.toNat ∧ y.toNat ≤ 57 ∧ m = 10 * (x.toNat - 48) + (y.toNat - 48))
theorem numAt_end {l : List UInt8} {m : Nat} (h : numAt l l.length m) : numL l = m := by
  rcases h with ⟨h, rfl⟩ | ⟨h, rfl, _⟩ | ⟨h, h1, h2, h0, x, hx, e⟩ | ⟨h, h1, h2, h0, x, y, hx, hy, g1, g2, g3, g4, e⟩
  · rw [List.eq_nil_of_length_eq_zero h]; rfl
  · match l, h with
    | [_], _ => rfl
  · match l, h with
    | [d, z], _ =>
      simp at h0 hx
      subst h0 hx
      rw [numL_two, if_pos ⟨rfl, by omega, by omega⟩]
      omega
  · match l, h with
    | [d, z, u], _ =>
      simp at h0 hx hy
      subst h0 hx hy
      rw [numL_three, if_pos ⟨rfl, by omega, by omega, by omega, by omega, by omega⟩]
      omega
theorem num_bad0 {l : List UInt8} {x : UInt8} (hx : l[0]? = some x) (h : x.toNat ≠ 100) : numL l = 0 := by
  apply Classical.byContradiction
  intro hc
  rcases numL_ne hc with ⟨a, rfl, _⟩ | ⟨a, b, rfl, _⟩ <;> (simp at hx; subst hx; exact h rfl)
theorem num_bad {l : List UInt8} {k m : Nat} (ha : numAt l k m) (hk : 0 < k) {x : UInt8} (hx : l[k]? = some x) (h : digit x = false) : numL l = 0 := by
  apply Classical.byContradiction
  intro hc
  unfold digit at h
  simp at h
  have hk3 : k = 1 ∨ k = 2 ∨ k = 3 := by rcases ha with h | h | h | h <;> omega
  rcases numL_ne hc with ⟨a, rfl, g⟩ | ⟨a, b, rfl, g⟩ <;> rcases hk3 with rfl | rfl | rfl <;> simp at hx <;> (subst hx; omega)
theorem num_step {l : List UInt8} {k m : Nat} (ha : numAt l k m) (hk : 0 < k) {x : UInt8} (hx : l[k]? = some x) (h : digit x = true) :
    (10 * m + (x.toNat - 48) = 0 ∨ 16 < 10 * m + (x.toNat - 48) → numL l = 0) ∧ (10 * m + (x.toNat - 48) ≠ 0 → 10 * m + (x.toNat - 48) ≤ 16 → numAt l (k + 1) (10 * m + (x.toNat - 48))) := by
  unfold digit at h
  simp at h
  constructor
  · intro hm
    apply Classical.byContradiction
    intro hc
    rcases ha with ⟨rfl, rfl⟩ | ⟨rfl, rfl, h0⟩ | ⟨rfl, h1, h2, h0, y, hy, e⟩ | ⟨rfl, h1, h2, h0, y, z, hy, hz, g⟩
    · omega
    · rcases numL_ne hc with ⟨a, rfl, g⟩ | ⟨a, b, rfl, g⟩ <;> simp at hx <;> (subst hx; omega)
    · rcases numL_ne hc with ⟨a, rfl, g⟩ | ⟨a, b, rfl, g⟩ <;> simp at hx hy <;> (subst hx hy; omega)
    · rcases numL_ne hc with ⟨a, rfl, g⟩ | ⟨a, b, rfl, g⟩ <;> simp at hx
  · intro h0 h16
    rcases ha with ⟨rfl, rfl⟩ | ⟨rfl, rfl, e0⟩ | ⟨rfl, h1, h2, e0, y, hy, e⟩ | ⟨rfl, h1, h2, e0, y, z, hy, hz, g⟩
    · omega
    · exact .inr (.inr (.inl ⟨rfl, by omega, by omega, e0, x, hx, by omega⟩))
    · exact .inr (.inr (.inr ⟨rfl, by omega, by omega, e0, y, x, hy, hx, by omega, by omega, by omega, by omega, by omega⟩))
    · omega
end Go.Proofs.YtoajckhnneagnaaDoor.Sh
namespace Go.Proofs.YtoajckhnneagnaaDoor.Sh
open Go Go.RowKit

theorem letter_any (R : Nat) (hR : R ≤ 2147483647) (w : World) : Calls Tryd.prog 88 #[.int .i32 (R : Int)] w fun e w' => e = .returned (.bool (letN R)) ∧ w = w' := by
  by_cases h0 : 97 ≤ R
  · have h0' : 97 ≤ (R : Int) := by omega
    by_cases h1 : R ≤ 122
    · have h1' : (R : Int) ≤ 122 := by omega
      have HE : Hid (letN R = true) := hid (by unfold letN; simp; omega)
      go_enter Tryd.func88, Tryd.ntmps88
      go_wp2
      go_ret
      exact ⟨by rw [HE.out]; rfl, rfl⟩
    · have h1' : ¬ (R : Int) ≤ 122 := by omega
      have HE : Hid (letN R = false) := hid (by unfold letN; simp; omega)
      go_enter Tryd.func88, Tryd.ntmps88
      go_wp2
      go_ret
      exact ⟨by rw [HE.out]; rfl, rfl⟩
  · have h0' : ¬ 97 ≤ (R : Int) := by omega
    have HE : Hid (letN R = false) := hid (by unfold letN; simp; omega)
    go_enter Tryd.func88, Tryd.ntmps88
    go_wp2
    go_ret
    exact ⟨by rw [HE.out]; rfl, rfl⟩
theorem digit_any (R : Nat) (hR : R ≤ 2147483647) (w : World) : Calls Tryd.prog 89 #[.int .i32 (R : Int)] w fun e w' => e = .returned (.bool (digN R)) ∧ w = w' := by
  by_cases h0 : 48 ≤ R
  · have h0' : 48 ≤ (R : Int) := by omega
    by_cases h1 : R ≤ 57
    · have h1' : (R : Int) ≤ 57 := by omega
      have HE : Hid (digN R = true) := hid (by unfold digN; simp; omega)
      go_enter Tryd.func89, Tryd.ntmps89
      go_wp2
      go_ret
      exact ⟨by rw [HE.out]; rfl, rfl⟩
    · have h1' : ¬ (R : Int) ≤ 57 := by omega
      have HE : Hid (digN R = false) := hid (by unfold digN; simp; omega)
      go_enter Tryd.func89, Tryd.ntmps89
      go_wp2
      go_ret
      exact ⟨by rw [HE.out]; rfl, rfl⟩
  · have h0' : ¬ 48 ≤ (R : Int) := by omega
    have HE : Hid (digN R = false) := hid (by unfold digN; simp; omega)
    go_enter Tryd.func89, Tryd.ntmps89
    go_wp2
    go_ret
    exact ⟨by rw [HE.out]; rfl, rfl⟩

set_option maxHeartbeats 2000000 in
theorem may_any (s : ByteArray) (w : World) : Calls Tryd.prog 73 #[.string s] w fun e w' => e = .returned (.bool (mayL s.data.toList)) ∧ Below w.heap.size w w' := by
  obtain ⟨l, hl⟩ : ∃ l, s.data.toList = l := ⟨_, rfl⟩
  have hsz := size_list s
  rw [hl] at hsz ⊢
  have HL := hid hl
  have HSZ := hid hsz
  clear hl hsz
  go_enter Tryd.func73, Tryd.ntmps73
  go_wp2
  go_loopw [] (fun wr => ∃ k : Nat, k ≤ s.size ∧ Hid (∀ j x, j < k → l[j]? = some x → (letter x = true ∨ (0 < j ∧ digit x = true))) ∧ wr = w.iter s k) (fun wr => s.size - wr.iterPos w.heap.size)
  case atStart => exact ⟨0, by omega, hid (fun j x h => by omega), rfl⟩
  case round =>
    obtain ⟨k, hk, HP, rfl⟩ := hrel
    by_cases hlt : k < s.size
    · obtain ⟨x, hx⟩ : ∃ x, l[k]? = some x := ⟨_, List.getElem?_eq_getElem (by rw [HSZ.out]; exact hlt)⟩
      obtain ⟨R, Z, hN, hkZ, hZ, hR, hlow, hhigh, _⟩ := next_at s (k := k) (x := x) (by rw [HL.out]; exact hx)
      have hnx := hN Tryd.prog w
      have HX := hid hx
      have h1 := letN_of (fun h => (hlow h).1) hhigh
      have h2 := digN_of (fun h => (hlow h).1) hhigh
      have HZ : Hid (letter x = true ∨ digit x = true → Z = k + 1) := hid (fun h => (hlow (by unfold letter digit at h; simp at h; omega)).2)
      obtain ⟨b1, hb1⟩ : ∃ b, letter x = b := ⟨_, rfl⟩
      obtain ⟨b2, hb2⟩ : ∃ b, digit x = b := ⟨_, rfl⟩
      have C1 : Hid (∀ w, Calls Tryd.prog 88 #[.int .i32 (R : Int)] w fun e w' => e = .returned (.bool b1) ∧ w = w') := hid (fun w => by rw [← hb1, ← h1]; exact letter_any R hR w)
      have C2 : Hid (∀ w, Calls Tryd.prog 89 #[.int .i32 (R : Int)] w fun e w' => e = .returned (.bool b2) ∧ w = w') := hid (fun w => by rw [← hb2, ← h2]; exact digit_any R hR w)
      have HB1 := hid hb1
      have HB2 := hid hb2
      have hk00 : (0 : Int) ≤ (k : Int) := Int.natCast_nonneg _
      clear hx h1 h2 hb1 hb2 hlow hhigh hN
      go_wp2_with fail
      refine (C1.out _).mono ?_
      rintro er w2 ⟨rfl, rfl⟩
      cases b1 with
      | true =>
        have HO : Hid (∀ j x, j < k + 1 → l[j]? = some x → (letter x = true ∨ (0 < j ∧ digit x = true))) := hid (fun j z hj hz => by
          rcases Nat.lt_or_ge j k with h | h
          · exact HP.out j z h hz
          · obtain rfl : j = k := by omega
            rw [HX.out] at hz
            injection hz with hz
            subst hz
            exact .inl HB1.out)
        obtain rfl := HZ.out (.inl HB1.out)
        go_wp2
        go_roundw
        case rel => exact ⟨k + 1, by omega, HO, rfl⟩
        case measure => simp [World.iterPos_iter]; omega
      | false =>
        by_cases hk0 : k = 0
        · subst hk0
          have HF : Hid (mayL l = false) := hid (may_bad HX.out HB1.out (.inl rfl))
          go_wp2
          go_ret
          exact ⟨by rw [HF.out]; rfl, iter_below _ _ _⟩
        · have hk0' : (0 : Int) < (k : Int) := by omega
          go_wp2_with fail
          refine (C2.out _).mono ?_
          rintro er w2 ⟨rfl, rfl⟩
          cases b2 with
          | true =>
            have HO : Hid (∀ j x, j < k + 1 → l[j]? = some x → (letter x = true ∨ (0 < j ∧ digit x = true))) := hid (fun j z hj hz => by
              rcases Nat.lt_or_ge j k with h | h
              · exact HP.out j z h hz
              · obtain rfl : j = k := by omega
                rw [HX.out] at hz
                injection hz with hz
                subst hz
                exact .inr ⟨by omega, HB2.out⟩)
            obtain rfl := HZ.out (.inr HB2.out)
            go_wp2
            go_roundw
            case rel => exact ⟨k + 1, by omega, HO, rfl⟩
            case measure => simp [World.iterPos_iter]; omega
          | false =>
            have HF : Hid (mayL l = false) := hid (may_bad HX.out HB1.out (.inr HB2.out))
            go_wp2
            go_ret
            exact ⟨by rw [HF.out]; rfl, iter_below _ _ _⟩
    · obtain rfl : k = s.size := by omega
      have hnx := fun ty => run_next_end (P := Tryd.prog) w s s.size ty hlt
      have HT : Hid (mayL l = (decide (1 ≤ l.length) && decide (l.length ≤ 8))) := hid (may_end fun j x hx => HP.out j x (by have := (List.getElem?_eq_some_iff.1 hx).1; rwa [HSZ.out] at this) hx)
      by_cases g1 : 1 ≤ s.size
      · have g1' : (1 : Int) ≤ (s.size : Int) := by omega
        by_cases g8 : s.size ≤ 8
        · have g8' : (s.size : Int) ≤ 8 := by omega
          have HF : Hid (mayL l = true) := hid (by rw [HT.out, HSZ.out]; simp; omega)
          go_wp2
          go_ret
          exact ⟨by rw [HF.out]; rfl, iter_below _ _ _⟩
        · have g8' : ¬ (s.size : Int) ≤ 8 := by omega
          have HF : Hid (mayL l = false) := hid (by rw [HT.out, HSZ.out]; simp; omega)
          go_wp2
          go_ret
          exact ⟨by rw [HF.out]; rfl, iter_below _ _ _⟩
      · have g1' : ¬ (1 : Int) ≤ (s.size : Int) := by omega
        have HF : Hid (mayL l = false) := hid (by rw [HT.out, HSZ.out]; simp; omega)
        go_wp2
        go_ret
        exact ⟨by rw [HF.out]; rfl, iter_below _ _ _⟩
end Go.Proofs.YtoajckhnneagnaaDoor.Sh
