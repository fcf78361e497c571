/-
  The program's solver in memory.
-/
import Derived.Test.YtcligogmmjdobaaGreatDoorJp9
import Derived.KernelRfl
set_option linter.unusedVariables false
set_option linter.unusedSimpArgs false
namespace Go.Proofs.YtcligogmmjdobaaGreatDoor.Sh
open Go Go.RowKit
open Go.Maps (Keyed)

theorem so_laidOut : laidOutB Tryz.prog = true := by kernel_rfl
theorem so_types : ∃ n, Tryz.prog.types.size = n + 8 := ⟨Tryz.prog.types.size - 8, by kernel_rfl⟩
theorem rowR : (33 : TypeId) < Tryz.prog.types.size := of_decide_eq_true (by kernel_rfl)
theorem rowP : (51 : TypeId) < Tryz.prog.types.size := of_decide_eq_true (by kernel_rfl)
theorem wideR : (match Tryz.prog.underlying 33 with | some (.array _ _) | some (.struct _) => true | _ => false) = true := by kernel_rfl
theorem wideP : (match Tryz.prog.underlying 51 with | some (.array _ _) | some (.struct _) => true | _ => false) = true := by kernel_rfl
set_option maxRecDepth 100000 in
theorem klR : WideMaps.KeyLaw Tryz.prog 33 := deep_law_laid so_laidOut (m := 2) (by omega) rowR (by kernel_rfl) wideR
set_option maxRecDepth 100000 in
theorem klP : WideMaps.KeyLaw Tryz.prog 51 := deep_law_laid so_laidOut (m := 3) (by omega) rowP (by kernel_rfl) wideP
theorem lawR : Keyed Tryz.prog 33 := Keyed.of_law klR
theorem lawP : Keyed Tryz.prog 51 := Keyed.of_law klP
theorem lawS : Keyed Tryz.prog 9 := Maps.string_keyed Tryz.underlying9
def rV (r : Rl) : Value := .agg #[.string r.1, .string r.2]
def pV (p : Pr) : Value := .agg #[.string p.1.1, .string p.1.2, .string p.2]
def ks (s : ByteArray) : Lit := .string s.data.toList
def kr (r : Rl) : Lit := .string (keyBytes [.string r.1.data.toList, .string r.2.data.toList])
def kp (p : Pr) : Lit := .string (keyBytes [.string p.1.1.data.toList, .string p.1.2.data.toList, .string p.2.data.toList])
theorem keyS {s : ByteArray} (h : s.size ≤ maxLen) : keyOf Tryz.prog 9 (.string s) = some (ks s) := WideMaps.keyOf_string_mk Tryz.underlying9 h
section
variable {P : Program} {T S R : TypeId}
theorem kl_S (hS : P.underlying S = some .string) (d : Nat) {a : ByteArray} (h : a.size ≤ maxLen) : P.keyLits (d + 1) S [.string a] = some [.string a.data.toList] := by
  unfold Program.keyLits
  rw [hS]
  exact if_pos h
theorem kl_2 {n0 n1 : String} {x0 x1 : Nat} {g0 g1 : Bool} {t0 t1 k0 k1 : String} (hu : P.underlying T = some (.struct #[⟨n0, S, 0, g0, t0, k0, x0⟩, ⟨n1, S, 1, g1, t1, k1, x1⟩])) (hS : P.underlying S = some .string) (e0 : (n0 != "_") = true) (e1 : (n1 != "_") = true)
    (hc : P.cellsOf T = 2) (hs : P.cellsOf S = 1) (d : Nat) {a b : ByteArray} (h1 : a.size ≤ maxLen) (h2 : b.size ≤ maxLen) :
    P.keyLits (d + 2) T [.string a, .string b] = some [.string a.data.toList, .string b.data.toList] := by
  unfold Program.keyLits
  rw [hu]
  simp only [List.length_cons, List.length_nil, hc, List.mapM_cons, List.mapM_nil, hs, List.drop_zero, List.take_succ_cons, List.take_zero, List.drop_succ_cons, kl_S hS d h1, kl_S hS d h2]
  simp
  exact ⟨bne_iff_ne.1 e0, bne_iff_ne.1 e1⟩
theorem key2 {n0 n1 : String} {x0 x1 : Nat} {g0 g1 : Bool} {t0 t1 k0 k1 : String} (hu : P.underlying T = some (.struct #[⟨n0, S, 0, g0, t0, k0, x0⟩, ⟨n1, S, 1, g1, t1, k1, x1⟩])) (hS : P.underlying S = some .string) (e0 : (n0 != "_") = true) (e1 : (n1 != "_") = true)
    (hk : P.keyType T = true) (hc : P.cellsOf T = 2) (hs : P.cellsOf S = 1) {n : Nat} (hn : P.types.size = n + 8) {a b : ByteArray} (h1 : a.size ≤ maxLen) (h2 : b.size ≤ maxLen) :
    keyOf P T (.agg #[.string a, .string b]) = some (.string (keyBytes [.string a.data.toList, .string b.data.toList])) := by
  have hf : (Value.agg #[.string a, .string b]).formed P T = true := by unfold Value.formed; rw [hu]; simp only; rw [hc]; rfl
  unfold keyOf
  rw [hu]
  simp only [hk, hf, Bool.and_self, if_true]
  show (P.keyLits (P.types.size + 1) T [.string a, .string b]).map _ = _
  rw [hn, show n + 8 + 1 = (n + 7) + 2 by omega, kl_2 hu hS e0 e1 hc hs _ h1 h2]
  rfl
theorem key3 {m0 m1 n0 n1 : String} {x0 x1 y0 y1 : Nat} {g0 g1 i0 i1 : Bool} {t0 t1 k0 k1 u0 u1 j0 j1 : String} (hu : P.underlying T = some (.struct #[⟨m0, R, 0, i0, u0, j0, y0⟩, ⟨m1, S, 2, i1, u1, j1, y1⟩]))
    (hr : P.underlying R = some (.struct #[⟨n0, S, 0, g0, t0, k0, x0⟩, ⟨n1, S, 1, g1, t1, k1, x1⟩])) (hS : P.underlying S = some .string) (e0 : (n0 != "_") = true) (e1 : (n1 != "_") = true) (d0 : (m0 != "_") = true) (d1 : (m1 != "_") = true)
    (hk : P.keyType T = true) (hc : P.cellsOf T = 3) (hcr : P.cellsOf R = 2) (hs : P.cellsOf S = 1) {n : Nat} (hn : P.types.size = n + 8) {a b c : ByteArray} (h1 : a.size ≤ maxLen) (h2 : b.size ≤ maxLen) (h3 : c.size ≤ maxLen) :
    keyOf P T (.agg #[.string a, .string b, .string c]) = some (.string (keyBytes [.string a.data.toList, .string b.data.toList, .string c.data.toList])) := by
  have hf : (Value.agg #[.string a, .string b, .string c]).formed P T = true := by unfold Value.formed; rw [hu]; simp only; rw [hc]; rfl
  unfold keyOf
  rw [hu]
  simp only [hk, hf, Bool.and_self, if_true]
  show (P.keyLits (P.types.size + 1) T [.string a, .string b, .string c]).map _ = _
  rw [hn]
  unfold Program.keyLits
  rw [hu]
  simp only [List.length_cons, List.length_nil, hc, List.mapM_cons, List.mapM_nil, hs, hcr, List.drop_zero, List.take_succ_cons, List.take_zero, List.drop_succ_cons, kl_2 hr hS e0 e1 hcr hs (n + 6) h1 h2, kl_S hS (n + 7) h3]
  simp
  exact ⟨bne_iff_ne.1 d0, bne_iff_ne.1 d1⟩
end
def okB (s : ByteArray) : Prop := s.size ≤ maxLen
def okR (r : Rl) : Prop := okB r.1 ∧ okB r.2
def okP (p : Pr) : Prop := okR p.1 ∧ okB p.2
theorem keyR {r : Rl} (h : okR r) : keyOf Tryz.prog 33 (rV r) = some (kr r) := by
  obtain ⟨n, hn⟩ := so_types
  exact key2 Tryz.underlying33 Tryz.underlying9 rfl rfl (by kernel_rfl) (by kernel_rfl) (by kernel_rfl) hn h.1 h.2
theorem keyP {p : Pr} (h : okP p) : keyOf Tryz.prog 51 (pV p) = some (kp p) := by
  obtain ⟨n, hn⟩ := so_types
  exact key3 Tryz.underlying51 Tryz.underlying33 Tryz.underlying9 rfl rfl rfl rfl (by kernel_rfl) (by kernel_rfl) (by kernel_rfl) (by kernel_rfl) hn h.1.1 h.1.2 h.2
theorem ks_inj (a b : ByteArray) (_ : okB a) (_ : okB b) (e : ks a = ks b) : a = b := by
  unfold ks at e
  injection e with e
  exact ba_eq e
theorem kr_inj (a b : Rl) (ha : okR a) (hb : okR b) (e : kr a = kr b) : a = b := by
  have := lawR.inj (keyR ha) (e ▸ keyR hb)
  obtain ⟨a1, a2⟩ := a
  obtain ⟨b1, b2⟩ := b
  simp [rV] at this
  rw [this.1, this.2]
theorem kp_inj (a b : Pr) (ha : okP a) (hb : okP b) (e : kp a = kp b) : a = b := by
  have := lawP.inj (keyP ha) (e ▸ keyP hb)
  obtain ⟨⟨a1, a2⟩, a3⟩ := a
  obtain ⟨⟨b1, b2⟩, b3⟩ := b
  simp [pV] at this
  rw [this.1, this.2.1, this.2.2]
/-- The pairs that are known. -/
def Knw (w : World) (b : Nat) (col : Col) (kn : List Pr) : Prop :=
  ∃ D : DataW Unit, w.ownsMap Tryz.prog 51 unitElem b kn.length D ∧ (∀ p, okP p → Maps.has D (kp p) = decide (p ∈ kn)) ∧ (∀ z, Maps.has D z = true → ∃ p ∈ kn, z = kp p) ∧ col b = some (5, .nil)
structure Sz (s : St) : Prop where
  giv : ∀ x r, r ∈ s.giv x → okR r
  inc : ∀ x r, r ∈ s.inc x → okR r
  bth : ∀ x b, b ∈ s.bth x → okR b.1 ∧ okR b.2
  lnk : ∀ x k, k ∈ s.lnk x → okB k.1 ∧ okR k.2
  kn : ∀ p ∈ s.kn, okP p
  fr : ∀ p ∈ s.fr, okP p
structure Sol (w : World) (B sb b0 b1 b2 b3 b4 : Nat) (vF : Value) (col : Col) (s : St) : Prop where
  row : w.heap[sb]? = some (.cells #[.map (some b0), .map (some b1), .map (some b2), .map (some b3), .map (some b4), vF] 60 (0, 0))
  csb : col sb = some (0, .nil)
  giv : Grp Tryz.prog encR 9 33 ks okB 1 B s.ic b0 w col s.giv
  inc : Grp Tryz.prog encR 33 33 kr okR 2 B s.ic b1 w col s.inc
  bth : Grp Tryz.prog encB 33 117 kr okR 3 B s.ic b2 w col s.bth
  lnk : Grp Tryz.prog encK 33 114 kr okR 4 B s.ic b3 w col s.lnk
  kn : Knw w b4 col s.kn
  fr : Own (E := encP) w B 51 vF s.fr
  cfr : ∀ g, vF.ownBlock = some g → col g = some (6, .nil)
  low : ∀ g, g < B → col g = none
  base : B ≤ w.heap.size
  dom : ∀ g c, col g = some c → g < w.heap.size
  sz : Sz s
section
variable {w w' : World} {B sb b0 b1 b2 b3 b4 : Nat} {vF : Value} {col col' : Col} {s : St}
theorem Knw.frame {b : Nat} {kn : List Pr} (h : Knw w b col kn) (hb : ∀ g, col g = some (5, .nil) → w'.heap[g]? = w.heap[g]?) (hcol : ∀ g, g < w.heap.size → col' g = col g) : Knw w' b col' kn := by
  obtain ⟨D, h1, h2, h3, h4⟩ := h
  have hl := h1.lt
  obtain ⟨es, clock, g1, F, g2, g3⟩ := h1
  exact ⟨D, ⟨es, clock, (hb b h4).trans g1, F, g2, g3⟩, h2, h3, (hcol b hl).trans h4⟩
/-- A world in which nothing of the solver's has turned. -/
theorem Sol.frame (h : Sol w B sb b0 b1 b2 b3 b4 vF col s) (hs : w.heap.size ≤ w'.heap.size) (hb : ∀ g c, col g = some c → w'.heap[g]? = w.heap[g]?) : Sol w' B sb b0 b1 b2 b3 b4 vF col s :=
  ⟨(hb sb _ h.csb).trans h.row, h.csb, h.giv.frame (fun g c hc _ => hb g c hc) (fun _ _ => rfl) (Nat.le_refl _), h.inc.frame (fun g c hc _ => hb g c hc) (fun _ _ => rfl) (Nat.le_refl _),
    h.bth.frame (fun g c hc _ => hb g c hc) (fun _ _ => rfl) (Nat.le_refl _), h.lnk.frame (fun g c hc _ => hb g c hc) (fun _ _ => rfl) (Nat.le_refl _), h.kn.frame (fun g hc => hb g _ hc) (fun _ _ => rfl),
    h.fr.kept (fun g hg => hb g _ (h.cfr g hg)), h.cfr, h.low, Nat.le_trans h.base hs, fun g c e => Nat.lt_of_lt_of_le (h.dom g c e) hs, h.sz⟩
theorem Sol.below (h : Sol w B sb b0 b1 b2 b3 b4 vF col s) (hb : Below w.heap.size w w') : Sol w' B sb b0 b1 b2 b3 b4 vF col s :=
  h.frame hb.size fun g c e => hb.block g (h.dom g c e)
theorem Sol.cell (h : Sol w B sb b0 b1 b2 b3 b4 vF col s) : w.cell? ⟨sb, 0, none⟩ = some (.map (some b0)) ∧ w.cell? ⟨sb, 1, none⟩ = some (.map (some b1)) ∧ w.cell? ⟨sb, 2, none⟩ = some (.map (some b2)) ∧ w.cell? ⟨sb, 3, none⟩ = some (.map (some b3)) ∧
    w.cell? ⟨sb, 4, none⟩ = some (.map (some b4)) ∧ w.cell? ⟨sb, 5, none⟩ = some vF :=
  ⟨by rw [cell_of_row w sb 0 _ _ (0, 0) h.row]; rfl, by rw [cell_of_row w sb 1 _ _ (0, 0) h.row]; rfl, by rw [cell_of_row w sb 2 _ _ (0, 0) h.row]; rfl, by rw [cell_of_row w sb 3 _ _ (0, 0) h.row]; rfl, by rw [cell_of_row w sb 4 _ _ (0, 0) h.row]; rfl,
    by rw [cell_of_row w sb 5 _ _ (0, 0) h.row]; rfl⟩
theorem Sol.frz (h : Sol w B sb b0 b1 b2 b3 b4 vF col s) (k : Nat) : w.frozen? ⟨sb, k, none⟩ = false := frozen_of_row w sb k _ _ h.row
end
end Go.Proofs.YtcligogmmjdobaaGreatDoor.Sh
/-
  append of one element to a row of the call's own; worlds that are as they were but for some blocks.
-/
namespace Go.Proofs.YtcligogmmjdobaaGreatDoor.Sh
open Go Go.RowKit
open Go.Maps (Keyed)

section
variable {α : Type} {E : Enc α} {P : Program} {w : World}
theorem wp_app1 {o : Oper} {a : Act} {K : Act → World → Prop} {Q : Exit → Act → World → Prop} {T S : TypeId} {bytes : Nat} (hT : SlN P T S E.k bytes) (s x : Operand)
    (ho : o.op = .call { callee := .builtin .append, args := #[s, x], argTypes := #[T, T] })
    {B : Nat} {v : Value} {l : List α} (hown : Own (E := E) w B S v l) (hs : a.eval s = v)
    {ad : Addr} {c : Nat} (y : α) (hx : a.eval x = .slice (some ad) 1 c) (hr : Reads w (some ad) (E.cells y))
    (hl : l.length ≤ 1000000000000) (hby : bytes ≤ 64) (hbase : B ≤ w.heap.size)
    (h : ∀ A' c' w', Own (E := E) w' B S (.slice A' (l.length + 1) c') (l ++ [y]) → w.grownBy w' v.ownBlock → ((Value.slice A' (l.length + 1) c').ownBlock = v.ownBlock ∨ (Value.slice A' (l.length + 1) c').ownBlock = some w.heap.size) → K (a.put o.dst (.slice A' (l.length + 1) c')) w') : o.wp P a w K Q := by
  have hm : (l.length + 1) * bytes ≤ (l.length + 1) * 64 := Nat.mul_le_mul_left _ hby
  obtain ⟨A', c', w', hrun, h2, h3, h4⟩ := run_appN (ty := o.type) hT hown (A := some ad) (m := 1) (c := c) (news := E.cells y) (by rw [E.len]; omega) hr (E.one y) (by omega) (by unfold maxLen; omega) hbase
  have h5 : Own (E := E) w' B S (.slice A' (l.length + 1) c') (l ++ [y]) := by
    unfold Own
    rw [ev_append, List.length_append, List.length_singleton]
    simpa [ev] using h2
  unfold Oper.wp execOp
  simp only [ho, resolve, invoke, builtin, Sem.run_bind, Sem.run_pure, Result.andThen_ok, List.map_toArray, List.map_cons, List.map_nil, hs, hx, hrun]
  exact h A' c' w' h5 h3 h4
theorem wpList_app1 {ops : Array Oper} {rest : List Oper} {o : Oper} {a : Act} {Q : Exit → Act → World → Prop} (hgd : o.guard = none) {T S : TypeId} {bytes : Nat} (hT : SlN P T S E.k bytes) (s x : Operand)
    (ho : o.op = .call { callee := .builtin .append, args := #[s, x], argTypes := #[T, T] })
    {B : Nat} {v : Value} {l : List α} (hown : Own (E := E) w B S v l) (hs : a.eval s = v)
    {ad : Addr} {c : Nat} (y : α) (hx : a.eval x = .slice (some ad) 1 c) (hr : Reads w (some ad) (E.cells y))
    (hl : l.length ≤ 1000000000000) (hby : bytes ≤ 64) (hbase : B ≤ w.heap.size)
    (h : ∀ A' c' w', Own (E := E) w' B S (.slice A' (l.length + 1) c') (l ++ [y]) → w.grownBy w' v.ownBlock → ((Value.slice A' (l.length + 1) c').ownBlock = v.ownBlock ∨ (Value.slice A' (l.length + 1) c').ownBlock = some w.heap.size) → wpList P ops Q rest (a.put o.dst (.slice A' (l.length + 1) c')) w') : wpList P ops Q (o :: rest) a w :=
  wpList_plain hgd fun _ hK => wp_app1 hT s x ho hown hs y hx hr hl hby hbase fun A' c' w' h2 h3 h4 => hK _ _ (h A' c' w' h2 h3 h4)
theorem step_app1 {ops : Array Oper} {o : Oper} {a : Act} {K : Act → World → Prop} {Q : Exit → Act → World → Prop} {F : Prop} (hgd : o.guard = none) {T S : TypeId} {bytes : Nat} (hT : SlN P T S E.k bytes) (s x : Operand)
    (ho : o.op = .call { callee := .builtin .append, args := #[s, x], argTypes := #[T, T] })
    {B : Nat} {v : Value} {l : List α} (hown : Own (E := E) w B S v l) (hs : a.eval s = v)
    {ad : Addr} {c : Nat} (y : α) (hx : a.eval x = .slice (some ad) 1 c) (hr : Reads w (some ad) (E.cells y))
    (hl : l.length ≤ 1000000000000) (hby : bytes ≤ 64) (hbase : B ≤ w.heap.size)
    (h : ∀ A' c' w', Own (E := E) w' B S (.slice A' (l.length + 1) c') (l ++ [y]) → w.grownBy w' v.ownBlock → ((Value.slice A' (l.length + 1) c').ownBlock = v.ownBlock ∨ (Value.slice A' (l.length + 1) c').ownBlock = some w.heap.size) → K (a.put o.dst (.slice A' (l.length + 1) c')) w') :
    if Region.wanted o (yielded ops a.tmps) = true then Oper.wp P o a w K Q else F := by
  have hw : Region.wanted o (yielded ops a.tmps) = true := by simp [Region.wanted, hgd]
  rw [if_pos hw]
  exact wp_app1 hT s x ho hown hs y hx hr hl hby hbase h
end
theorem slR : SlN Tryz.prog 111 33 2 32 := by
  obtain ⟨i0, hi0, hz0, hz1, hz2⟩ := info_parts (P := Tryz.prog) (e := 33) (z := .agg #[.string E0, .string E0]) (size := 2) (bytes := 32) (by kernel_rfl)
  exact ⟨Tryz.underlying111, ⟨i0, _, hi0, hz0, hz1, hz2, rfl⟩, by omega⟩
theorem slBo : SlN Tryz.prog 115 117 4 64 := by
  obtain ⟨i0, hi0, hz0, hz1, hz2⟩ := info_parts (P := Tryz.prog) (e := 117) (z := .agg #[.string E0, .string E0, .string E0, .string E0]) (size := 4) (bytes := 64) (by kernel_rfl)
  exact ⟨Tryz.underlying115, ⟨i0, _, hi0, hz0, hz1, hz2, rfl⟩, by omega⟩
theorem slK : SlN Tryz.prog 112 114 3 48 := by
  obtain ⟨i0, hi0, hz0, hz1, hz2⟩ := info_parts (P := Tryz.prog) (e := 114) (z := .agg #[.string E0, .string E0, .string E0]) (size := 3) (bytes := 48) (by kernel_rfl)
  exact ⟨Tryz.underlying112, ⟨i0, _, hi0, hz0, hz1, hz2, rfl⟩, by omega⟩
theorem slP : SlN Tryz.prog 27 51 3 48 := by
  obtain ⟨i0, hi0, hz0, hz1, hz2⟩ := info_parts (P := Tryz.prog) (e := 51) (z := .agg #[.string E0, .string E0, .string E0]) (size := 3) (bytes := 48) (by kernel_rfl)
  exact ⟨Tryz.underlying27, ⟨i0, _, hi0, hz0, hz1, hz2, rfl⟩, by omega⟩
theorem slS : SlN Tryz.prog 37 9 1 16 := by
  obtain ⟨i0, hi0, hz0, hz1, hz2⟩ := info_parts (P := Tryz.prog) (e := 9) (z := .string E0) (size := 1) (bytes := 16) (by kernel_rfl)
  exact ⟨Tryz.underlying37, ⟨i0, _, hi0, hz0, hz1, hz2, rfl⟩, by omega⟩

/-! ### a world that is another but for some blocks -/
structure But (X : Nat → Prop) (w w' : World) : Prop where
  os : w'.os = w.os
  tape : w'.tape = w.tape
  output : w'.output = w.output
  size : w.heap.size ≤ w'.heap.size
  block : ∀ g, g < w.heap.size → ¬ X g → w'.heap[g]? = w.heap[g]?
section
variable {X X' : Nat → Prop} {w w' w'' : World}
theorem But.refl (X : Nat → Prop) (w : World) : But X w w := ⟨rfl, rfl, rfl, Nat.le_refl _, fun _ _ _ => rfl⟩
theorem But.trans (h : But X w w') (k : But X' w' w'') (hX : ∀ g, g < w.heap.size → X' g → X g) : But X w w'' :=
  ⟨k.os.trans h.os, k.tape.trans h.tape, k.output.trans h.output, Nat.le_trans h.size k.size, fun g hg hx => (k.block g (Nat.lt_of_lt_of_le hg h.size) fun h' => hx (hX g hg h')).trans (h.block g hg hx)⟩
theorem But.mono (h : But X w w') (hX : ∀ g, g < w.heap.size → X g → X' g) : But X' w w' := ⟨h.os, h.tape, h.output, h.size, fun g hg hx => h.block g hg fun h' => hx (hX g hg h')⟩
theorem But.grown {r : Option Nat} (h : w.grownBy w' r) : But (fun g => r = some g) w w' := ⟨h.os, h.tape, h.output, h.size, fun g hg hx => h.block g hg fun e => hx e.symm⟩
theorem But.below (h : Below w.heap.size w w') : But (fun _ => False) w w' := ⟨h.os, h.tape, h.output, h.size, fun g hg _ => h.block g hg⟩
theorem But.then_below (h : But X w w') (k : Below w'.heap.size w' w'') : But X w w'' := h.trans (.below k) fun _ _ h' => h'.elim
theorem But.drew (h : But X w w') : But X w w'.drew := ⟨h.os, h.tape, h.output, h.size, h.block⟩
theorem But.alloc (h : But X w w') (o : Obj) : But X w (w'.alloc o) := h.then_below ((Below.refl _ _).alloc (Nat.le_refl _) _)
theorem But.set (h : But X w w') {b k : Nat} (u : Value) (hb : w.heap.size ≤ b ∨ X b) : But X w (w'.setCell ⟨b, k, none⟩ u) :=
  h.trans (.grown (grown_set w' b k u)) fun g hg e => by
    simp only [Option.some.injEq] at e
    rcases hb with hb | hb
    · omega
    · exact e ▸ hb
theorem But.then_grown {r : Option Nat} (h : But X w w') (k : w'.grownBy w'' r) (hr : ∀ g, r = some g → w.heap.size ≤ g ∨ X g) : But X w w'' :=
  h.trans (.grown k) fun g hg e => (hr g e).resolve_left (by omega)
end
/-- What add may turn. -/
def Ma (i : Nat) : Prop := i = 0 ∨ i = 5 ∨ i = 6
theorem row6 {w : World} {sb : Nat} {u0 u1 u2 u3 u4 u5 v : Value} {t : TypeId} (h : w.heap[sb]? = some (.cells #[u0, u1, u2, u3, u4, u5] t (0, 0))) : (w.setCell ⟨sb, 5, none⟩ v).heap[sb]? = some (.cells #[u0, u1, u2, u3, u4, v] t (0, 0)) :=
  heap_setCell_same w sb 5 _ _ v h
theorem row5 {w : World} {sb : Nat} {u0 u1 u2 u3 u4 u5 v : Value} {t : TypeId} (h : w.heap[sb]? = some (.cells #[u0, u1, u2, u3, u4, u5] t (0, 0))) : (w.setCell ⟨sb, 4, none⟩ v).heap[sb]? = some (.cells #[u0, u1, u2, u3, v, u5] t (0, 0)) :=
  heap_setCell_same w sb 4 _ _ v h
section
variable {w w' : World} {B sb b0 b1 b2 b3 b4 : Nat} {vF vF' : Value} {col : Col} {s : St} {p : Pr}
theorem paint_old {col : Col} {v : Value} {c : Nat × Lit} {n : Nat} (hl : ∀ g, v.ownBlock = some g → col g = some c ∨ n ≤ g) {g : Nat} (hg : g < n) : paint col v c g = col g := by
  unfold paint
  split
  · rename_i e
    rcases hl g e with h | h
    · exact h.symm
    · omega
  · rfl
theorem Knw.add {kn : List Pr} (h : Knw w b4 col kn) (hp : okP p) (hl : kn.length < maxLen) : ∃ w', (Instr.mapUpdate 58 (.map (some b4)) (pV p) (.agg #[])).run Tryz.prog w = .ok () w' ∧ Knw w' b4 col (kn ++ [p]) ∧ w.grownBy w' (some b4) := by
  obtain ⟨D, h1, h2, h3, h4⟩ := h
  obtain ⟨w', hrun, ho, hg⟩ := h1.update lawP Tryz.underlying58 hl (keyP hp) (unitElem_mk (H := Unit))
  refine ⟨w', hrun, ⟨_, by rw [List.length_append, List.length_singleton]; exact ho, fun q hq => ?_, fun z hz => ?_, h4⟩, hg⟩
  · by_cases e : q = p
    · subst e
      rw [Maps.has_put_same h1.isMap (lawP.key (keyP hp))]
      simp
    · rw [Maps.has_put_other (fun e' => e (kp_inj _ _ hq hp e')), h2 q hq]
      simp [e]
  · by_cases e : z = kp p
    · exact ⟨p, by simp, e⟩
    · rw [Maps.has_put_other e] at hz
      obtain ⟨q, hq, e'⟩ := h3 z hz
      exact ⟨q, by simp [hq], e'⟩
/-- A pair that was not known, made known. -/
theorem Sol.added (h : Sol w B sb b0 b1 b2 b3 b4 vF col s) (hp : okP p) (hk : p ∉ s.kn)
    (hrow : w'.heap[sb]? = some (.cells #[.map (some b0), .map (some b1), .map (some b2), .map (some b3), .map (some b4), vF'] 60 (0, 0)))
    (hkn : Knw w' b4 col (s.kn ++ [p])) (hfr : Own (E := encP) w' B 51 vF' (s.fr ++ [p])) (hb : But (fun g => g = sb ∨ g = b4 ∨ some g = vF.ownBlock) w w')
    (hl : vF'.ownBlock = vF.ownBlock ∨ ∃ g, vF'.ownBlock = some g ∧ w.heap.size ≤ g) : ∃ col', Sol w' B sb b0 b1 b2 b3 b4 vF' col' (s.add p) ∧ Ext Ma w w' col col' := by
  have hlc : ∀ g, vF'.ownBlock = some g → col g = some (6, .nil) ∨ w.heap.size ≤ g := fun g hg => by
    rcases hl with hl | ⟨g', e, hl⟩
    · exact .inl (h.cfr g (hl ▸ hg))
    · rw [e] at hg; injection hg with hg; exact .inr (hg ▸ hl)
  have hc : ∀ g, g < w.heap.size → paint col vF' (6, .nil) g = col g := fun g hg => paint_old hlc hg
  have hkc : col b4 = some (5, .nil) := by obtain ⟨_, _, _, _, e⟩ := h.kn; exact e
  have hfar : ∀ g c, col g = some c → ¬ Ma c.1 → w'.heap[g]? = w.heap[g]? := fun g c e hm => hb.block g (h.dom g c e) fun hx => hm (by
    rcases hx with rfl | rfl | hx
    · rw [h.csb] at e; cases e; exact .inl rfl
    · rw [hkc] at e; cases e; exact .inr (.inl rfl)
    · rw [h.cfr g hx.symm] at e; cases e; exact .inr (.inr rfl))
  have hG : ∀ (i : Nat), i = 1 ∨ i = 2 ∨ i = 3 ∨ i = 4 → ∀ g c, col g = some c → c.1 = i ∨ c.1 = i + 10 → w'.heap[g]? = w.heap[g]? := fun i hi g c e hci => hfar g c e (by unfold Ma; omega)
  refine ⟨paint col vF' (6, .nil), ⟨hrow, (hc sb (h.dom _ _ h.csb)).trans h.csb, ?_, ?_, ?_, ?_, ?_, ?_, fun g hg => if_pos hg, ?_, Nat.le_trans h.base hb.size, ?_, ?_⟩, ⟨hb.os, hb.tape, hb.output, hb.size, fun g hg hcg => hb.block g hg fun hx => ?_, hc⟩⟩
  · rw [(add_same s p).giv, add_ic]; exact h.giv.frame (hG 1 (by omega)) hc (Nat.le_refl _)
  · rw [add_inc, add_ic]; exact h.inc.frame (hG 2 (by omega)) hc (Nat.le_refl _)
  · rw [(add_same s p).bth, add_ic]; exact h.bth.frame (hG 3 (by omega)) hc (Nat.le_refl _)
  · rw [(add_same s p).lnk, add_ic]; exact h.lnk.frame (hG 4 (by omega)) hc (Nat.le_refl _)
  · rw [add_new hk]
    obtain ⟨D, k1, k2, k3, k4⟩ := hkn
    exact ⟨D, k1, k2, k3, (hc b4 (h.dom _ _ k4)).trans k4⟩
  · rw [add_new hk]; exact hfr
  · intro g hg
    rw [hc g (by have := h.base; omega)]
    exact h.low g hg
  · intro g c e
    unfold paint at e
    split at e
    · rename_i e1; exact (hfr.lt g e1).2
    · exact Nat.lt_of_lt_of_le (h.dom g c e) hb.size
  · refine ⟨?_, ?_, ?_, ?_, ?_, ?_⟩
    · rw [(add_same s p).giv]; exact h.sz.giv
    · rw [add_inc]; exact h.sz.inc
    · rw [(add_same s p).bth]; exact h.sz.bth
    · rw [(add_same s p).lnk]; exact h.sz.lnk
    · rw [add_new hk]
      intro q hq
      rcases List.mem_append.1 hq with hq | hq
      · exact h.sz.kn q hq
      · rw [List.mem_singleton.1 hq]; exact hp
    · rw [add_new hk]
      intro q hq
      rcases List.mem_append.1 hq with hq | hq
      · exact h.sz.fr q hq
      · rw [List.mem_singleton.1 hq]; exact hp
  · rcases hx with rfl | rfl | hx
    · exact hcg _ h.csb (.inl rfl)
    · exact hcg _ hkc (.inr (.inl rfl))
    · exact hcg _ (h.cfr g hx.symm) (.inr (.inr rfl))
end
end Go.Proofs.YtcligogmmjdobaaGreatDoor.Sh
