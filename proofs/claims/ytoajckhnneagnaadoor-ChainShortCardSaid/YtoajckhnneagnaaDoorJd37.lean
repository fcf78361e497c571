/-
  A place being filled: what stays beside it; a row's last element stored into.
-/
import Derived.Test.YtoajckhnneagnaaDoorJd36
import Derived.Test.YtoajckhnneagnaaDoorJd30
import Derived.Test.YtoajckhnneagnaaDoorJd24
import Derived.KernelRfl
import Derived.Test.YtoajckhnneagnaaDoorJd5
set_option linter.unusedVariables false
set_option linter.unusedSimpArgs false
namespace Go.Proofs.YtoajckhnneagnaaDoor.Sh
open Go Go.RowKit

set_option linter.unusedVariables false
set_option linter.unusedSimpArgs false
structure MidP (gp : Nat) (w w0 wr : World) (g o : Nat) (cur0 : Array Value) (T0 : TypeId) (D Q : Int) (vR : Value) : Prop where
  bel : Below gp w wr
  size : w0.heap.size ≤ wr.heap.size
  oth : ∀ b, b < w0.heap.size → b ≠ g → wr.heap[b]? = w0.heap[b]?
  blk : ∃ cur, wr.heap[g]? = some (.cells cur T0 (0, 0)) ∧ cur.size = cur0.size ∧ cur[o + 3]? = some (.int .i64 D) ∧ cur[o + 4]? = some (.int .i64 Q) ∧ cur[o + 5]? = some vR ∧ ∀ k, k ≠ o + 3 → k ≠ o + 4 → k ≠ o + 5 → cur[k]? = cur0[k]?
section
variable {gp : Nat} {w w0 wr W : World} {g o : Nat} {cur0 : Array Value} {T0 : TypeId} {D Q : Int} {vR v' : Value}
theorem MidP.keep (h : MidP gp w w0 wr g o cur0 T0 D Q vR) (hgp : gp ≤ w0.heap.size) (hg : g < w0.heap.size) (hB : Below w0.heap.size wr W) : MidP gp w w0 W g o cur0 T0 D Q vR := by
  refine ⟨h.bel.trans (hB.mono hgp), Nat.le_trans h.size hB.size, fun b hb hne => (hB.block b hb).trans (h.oth b hb hne), ?_⟩
  obtain ⟨cur, h1, h2⟩ := h.blk
  exact ⟨cur, (hB.block g hg).trans h1, h2⟩
theorem MidP.setR (h : MidP gp w w0 wr g o cur0 T0 D Q vR) (hgp : gp ≤ g) (ho : o + 6 ≤ cur0.size) : MidP gp w w0 (wr.setCell ⟨g, o + 5, none⟩ v') g o cur0 T0 D Q v' := by
  obtain ⟨cur, h1, h2, h3, h4, h5, h6⟩ := h.blk
  refine ⟨h.bel.setCell (by simpa using hgp) _, by simpa using h.size, fun b hb hne => (Below.heap_setCell wr ⟨g, o + 5, none⟩ v' b hne).trans (h.oth b hb hne), cur.setIfInBounds (o + 5) v', heap_setCell_same wr g (o + 5) cur T0 v' h1, by simpa using h2, ?_, ?_, ?_, fun k k1 k2 k3 => ?_⟩
  · rw [Array.getElem?_setIfInBounds, if_neg (by omega)]; exact h3
  · rw [Array.getElem?_setIfInBounds, if_neg (by omega)]; exact h4
  · rw [Array.getElem?_setIfInBounds, if_pos rfl, if_pos (by omega)]
  · rw [Array.getElem?_setIfInBounds, if_neg (by omega)]; exact h6 k k1 k2 k3
theorem MidP.start (hbel : Below gp w wr) (hgp : gp ≤ g) (h : wr.heap[g]? = some (.cells cur0 T0 (0, 0))) (ho : o + 6 ≤ cur0.size) (h5 : cur0[o + 5]? = some (.slice none 0 0)) : MidP gp w wr ((wr.setCell ⟨g, o + 3, none⟩ (.int .i64 D)).setCell ⟨g, o + 4, none⟩ (.int .i64 Q)) g o cur0 T0 D Q (.slice none 0 0) := by
  have h1 := heap_setCell_same wr g (o + 3) cur0 T0 (.int .i64 D) h
  have h2 := heap_setCell_same _ g (o + 4) _ T0 (.int .i64 Q) h1
  refine ⟨(hbel.setCell (by simpa using hgp) _).setCell (by simpa using hgp) _, by simp, fun b hb hne => (Below.heap_setCell _ ⟨g, o + 4, none⟩ _ b hne).trans (Below.heap_setCell wr ⟨g, o + 3, none⟩ _ b hne), _, h2, by simp, ?_, ?_, ?_, fun k k1 k2 k3 => ?_⟩
  · rw [Array.getElem?_setIfInBounds, if_neg (by omega), Array.getElem?_setIfInBounds, if_pos rfl, if_pos (by omega)]
  · rw [Array.getElem?_setIfInBounds, if_pos rfl, if_pos (by simp; omega)]
  · rw [Array.getElem?_setIfInBounds, if_neg (by omega), Array.getElem?_setIfInBounds, if_neg (by omega)]; exact h5
  · rw [Array.getElem?_setIfInBounds, if_neg (by omega), Array.getElem?_setIfInBounds, if_neg (by omega)]
theorem MidP.cell (h : MidP gp w w0 wr g o cur0 T0 D Q vR) : wr.cell? ⟨g, o + 5, none⟩ = some vR ∧ wr.frozen? ⟨g, o + 5, none⟩ = false := by
  obtain ⟨cur, h1, h2, h3, h4, h5, h6⟩ := h.blk
  exact ⟨by rw [cell_of_row wr g (o + 5) cur T0 (0, 0) h1]; exact h5, frozen_of_row wr g (o + 5) cur T0 h1⟩
end
def zeroT : PT := .mk ⟨#[]⟩ ⟨#[]⟩ ⟨#[]⟩ 0 0 none 0 []
theorem own_six {w : World} {B : Nat} {T : TypeId} {A : Option Addr} {c k : Nat} {l : List PT} (h : Own (E := encT) w B T (.slice A (k + 1) c) (l ++ [zeroT])) (hk : l.length = k) (p : Pr) :
    ∃ gr k6, A = some ⟨gr, 0, none⟩ ∧ k6 = k * 6 ∧ B ≤ gr ∧ gr < w.heap.size ∧ w.cell? ⟨gr, k6, none⟩ = some (.string ⟨#[]⟩) ∧ w.cell? ⟨gr, k6 + 1, none⟩ = some (.string ⟨#[]⟩) ∧ w.cell? ⟨gr, k6 + 2, none⟩ = some (.string ⟨#[]⟩) ∧ w.cell? ⟨gr, k6 + 3, none⟩ = some (.int .i64 0) ∧ w.cell? ⟨gr, k6 + 4, none⟩ = some (.int .i64 0) ∧ w.cell? ⟨gr, k6 + 5, none⟩ = some (.slice none 0 0) ∧
      (∀ i, w.frozen? ⟨gr, i, none⟩ = false) ∧ Own (E := encT) ((((((w.setCell ⟨gr, k6, none⟩ (.string p.1.1)).setCell ⟨gr, k6 + 1, none⟩ (.string p.1.2)).setCell ⟨gr, k6 + 2, none⟩ (.string p.2)).setCell ⟨gr, k6 + 3, none⟩ (.int .i64 0)).setCell ⟨gr, k6 + 4, none⟩ (.int .i64 0)).setCell ⟨gr, k6 + 5, none⟩ (.slice none 0 0)) B T (.slice A (k + 1) c) (l ++ [leafT p]) := by
  obtain ⟨h0, hr⟩ := h
  have hl1 : (l ++ [zeroT]).length = k + 1 := by simp [hk]
  rw [hl1] at hr
  rcases hr with ⟨-, h1⟩ | ⟨gr, cp, cur, e1, hB, hh, hle, hmx, hcs, htk⟩
  · omega
  · simp only [Value.slice.injEq] at e1
    obtain ⟨rfl, -, rfl⟩ := e1
    have hk6 : encT.k = 6 := rfl
    rw [hk6] at hcs htk
    have hsz : (k + 1) * 6 ≤ cur.size := by rw [hcs]; exact Nat.mul_le_mul_right _ hle
    have hcell : ∀ i v, i < 6 → zeroT.cells[i]? = some v → cur[k * 6 + i]? = some v := fun i v hi hv => by
      have hg : (l ++ [zeroT])[k]? = some zeroT := by rw [List.getElem?_append_right (by omega)]; simp [hk]
      have h2 := ev_get encT hg (i := i) (by rw [hk6]; exact hi)
      rw [hk6, ← htk, List.getElem?_take, if_pos (by omega), Array.getElem?_toList] at h2
      exact h2.trans hv
    have hcl : ∀ i v, i < 6 → zeroT.cells[i]? = some v → w.cell? ⟨gr, k * 6 + i, none⟩ = some v := fun i v hi hv => by
      rw [cell_of_row w gr (k * 6 + i) cur T (0, 0) hh]; exact hcell i v hi hv
    refine ⟨gr, k * 6, rfl, rfl, hB, (Array.getElem?_eq_some_iff.1 hh).1, hcl 0 _ (by omega) rfl, hcl 1 _ (by omega) rfl, hcl 2 _ (by omega) rfl, hcl 3 _ (by omega) rfl, hcl 4 _ (by omega) rfl, hcl 5 _ (by omega) rfl, fun i => frozen_of_row w gr i cur T hh, ?_⟩
    have g1 := heap_setCell_same w gr (k * 6) cur T (.string p.1.1) hh
    have g2 := heap_setCell_same _ gr (k * 6 + 1) _ T (.string p.1.2) g1
    have g3 := heap_setCell_same _ gr (k * 6 + 2) _ T (.string p.2) g2
    have g4 := heap_setCell_same _ gr (k * 6 + 3) _ T (.int .i64 0) g3
    have g5 := heap_setCell_same _ gr (k * 6 + 4) _ T (.int .i64 0) g4
    have g6 := heap_setCell_same _ gr (k * 6 + 5) _ T (.slice none 0 0) g5
    have hl2 : (l ++ [leafT p]).length = k + 1 := by simp [hk]
    refine ⟨by rw [ev_length, hl2], .inr ⟨gr, c, _, by rw [hl2], hB, g6, by rw [hl2]; exact hle, hmx, by rw [hk6]; simpa using hcs, ?_⟩⟩
    rw [hl2, hk6]
    refine List.ext_getElem? fun i => ?_
    rw [List.getElem?_take]
    by_cases hi : i < (k + 1) * 6
    · rw [if_pos hi, Array.getElem?_toList]
      rcases Nat.lt_or_ge i (k * 6) with hi2 | hi2
      · rw [Array.getElem?_setIfInBounds, if_neg (by omega), Array.getElem?_setIfInBounds, if_neg (by omega), Array.getElem?_setIfInBounds, if_neg (by omega), Array.getElem?_setIfInBounds, if_neg (by omega), Array.getElem?_setIfInBounds, if_neg (by omega), Array.getElem?_setIfInBounds, if_neg (by omega)]
        have h2 : (ev encT (l ++ [zeroT]))[i]? = cur[i]? := by rw [← htk, List.getElem?_take, if_pos (by omega), Array.getElem?_toList]
        have hel : i < (ev encT l).length := by rw [ev_length, hk, hk6]; exact hi2
        rw [← h2, ev_append, ev_append, List.getElem?_append_left hel, List.getElem?_append_left hel]
      · obtain ⟨r, rfl⟩ : ∃ r, i = k * 6 + r := ⟨i - k * 6, by omega⟩
        have hg : (l ++ [leafT p])[k]? = some (leafT p) := by rw [List.getElem?_append_right (by omega)]; simp [hk]
        have h2 := ev_get encT hg (i := r) (by rw [hk6]; omega)
        rw [hk6] at h2
        rw [h2]
        show _ = (leafT p).cells[r]?
        rw [leaf_cells]
        have : r = 0 ∨ r = 1 ∨ r = 2 ∨ r = 3 ∨ r = 4 ∨ r = 5 := by omega
        rcases this with rfl | rfl | rfl | rfl | rfl | rfl
        · rw [Array.getElem?_setIfInBounds, if_neg (by omega), Array.getElem?_setIfInBounds, if_neg (by omega), Array.getElem?_setIfInBounds, if_neg (by omega), Array.getElem?_setIfInBounds, if_neg (by omega), Array.getElem?_setIfInBounds, if_neg (by omega), Array.getElem?_setIfInBounds, if_pos (by omega), if_pos (by (try simp); omega)]; rfl
        · rw [Array.getElem?_setIfInBounds, if_neg (by omega), Array.getElem?_setIfInBounds, if_neg (by omega), Array.getElem?_setIfInBounds, if_neg (by omega), Array.getElem?_setIfInBounds, if_neg (by omega), Array.getElem?_setIfInBounds, if_pos (by omega), if_pos (by (try simp); omega)]; rfl
        · rw [Array.getElem?_setIfInBounds, if_neg (by omega), Array.getElem?_setIfInBounds, if_neg (by omega), Array.getElem?_setIfInBounds, if_neg (by omega), Array.getElem?_setIfInBounds, if_pos (by omega), if_pos (by (try simp); omega)]; rfl
        · rw [Array.getElem?_setIfInBounds, if_neg (by omega), Array.getElem?_setIfInBounds, if_neg (by omega), Array.getElem?_setIfInBounds, if_pos (by omega), if_pos (by (try simp); omega)]; rfl
        · rw [Array.getElem?_setIfInBounds, if_neg (by omega), Array.getElem?_setIfInBounds, if_pos (by omega), if_pos (by (try simp); omega)]; rfl
        · rw [Array.getElem?_setIfInBounds, if_pos (by omega), if_pos (by (try simp); omega)]; rfl
    · rw [if_neg hi, List.getElem?_eq_none (by rw [ev_length, hl2, hk6]; omega)]
end Go.Proofs.YtoajckhnneagnaaDoor.Sh
namespace Go.Proofs.YtoajckhnneagnaaDoor.Sh
open Go Go.RowKit

set_option linter.unusedVariables false
set_option linter.unusedSimpArgs false
open Go.Maps (Keyed)
theorem pr_laidOut : laidOutB Tryd.prog = true := by kernel_rfl
theorem pr_types : ∃ n, Tryd.prog.types.size = n + 8 := ⟨Tryd.prog.types.size - 8, by kernel_rfl⟩
theorem rowI : (27 : TypeId) < Tryd.prog.types.size := of_decide_eq_true (by kernel_rfl)
theorem wideI : (match Tryd.prog.underlying 27 with | some (.array _ _) | some (.struct _) => true | _ => false) = true := by kernel_rfl
set_option maxRecDepth 100000 in
theorem klI : WideMaps.KeyLaw Tryd.prog 27 := deep_law_laid pr_laidOut (m := 2) (by omega) rowI (by kernel_rfl) wideI
theorem lawI : Keyed Tryd.prog 27 := Keyed.of_law klI
def iV (i : Int × Int) : Value := .agg #[.int .i64 i.1, .int .i64 i.2]
def ki (i : Int × Int) : Lit := .string (keyBytes [.int .i64 i.1, .int .i64 i.2])
section
variable {P : Program} {T S : TypeId}
theorem kl_I (hS : P.underlying S = some (.int .i64)) (d : Nat) {a : Int} (h : (Lit.int .i64 a).wf = true) : P.keyLits (d + 1) S [.int .i64 a] = some [.int .i64 a] := by
  unfold Program.keyLits
  rw [hS]
  exact if_pos ⟨rfl, h⟩
theorem kl_2I {n0 n1 : String} {x0 x1 : Nat} {g0 g1 : Bool} {t0 t1 k0 k1 : String} (hu : P.underlying T = some (.struct #[⟨n0, S, 0, g0, t0, k0, x0⟩, ⟨n1, S, 1, g1, t1, k1, x1⟩])) (hS : P.underlying S = some (.int .i64)) (e0 : (n0 != "_") = true) (e1 : (n1 != "_") = true)
    (hc : P.cellsOf T = 2) (hs : P.cellsOf S = 1) (d : Nat) {a b : Int} (h1 : (Lit.int .i64 a).wf = true) (h2 : (Lit.int .i64 b).wf = true) :
    P.keyLits (d + 2) T [.int .i64 a, .int .i64 b] = some [.int .i64 a, .int .i64 b] := by
  unfold Program.keyLits
  rw [hu]
  simp only [List.length_cons, List.length_nil, hc, List.mapM_cons, List.mapM_nil, hs, List.drop_zero, List.take_succ_cons, List.take_zero, List.drop_succ_cons, kl_I hS d h1, kl_I hS d h2]
  simp
  exact ⟨bne_iff_ne.1 e0, bne_iff_ne.1 e1⟩
theorem key2I {n0 n1 : String} {x0 x1 : Nat} {g0 g1 : Bool} {t0 t1 k0 k1 : String} (hu : P.underlying T = some (.struct #[⟨n0, S, 0, g0, t0, k0, x0⟩, ⟨n1, S, 1, g1, t1, k1, x1⟩])) (hS : P.underlying S = some (.int .i64)) (e0 : (n0 != "_") = true) (e1 : (n1 != "_") = true)
    (hk : P.keyType T = true) (hc : P.cellsOf T = 2) (hs : P.cellsOf S = 1) {n : Nat} (hn : P.types.size = n + 8) {a b : Int} (h1 : (Lit.int .i64 a).wf = true) (h2 : (Lit.int .i64 b).wf = true) :
    keyOf P T (.agg #[.int .i64 a, .int .i64 b]) = some (.string (keyBytes [.int .i64 a, .int .i64 b])) := by
  have hf : (Value.agg #[.int .i64 a, .int .i64 b]).formed P T = true := by unfold Value.formed; rw [hu]; simp only; rw [hc]; rfl
  unfold keyOf
  rw [hu]
  simp only [hk, hf, Bool.and_self, if_true]
  show (P.keyLits (P.types.size + 1) T [.int .i64 a, .int .i64 b]).map _ = _
  rw [hn, show n + 8 + 1 = (n + 7) + 2 by omega, kl_2I hu hS e0 e1 hc hs _ h1 h2]
  rfl
end
theorem wfI {n : Int} (h : -9223372036854775808 ≤ n ∧ n ≤ 9223372036854775807) : (Lit.int .i64 n).wf = true := by
  simp [Lit.wf, IntKind.min, IntKind.max, IntKind.signed, IntKind.bits]
  omega
theorem keyI {i : Int × Int} (h : okI i) : keyOf Tryd.prog 27 (iV i) = some (ki i) := by
  obtain ⟨n, hn⟩ := pr_types
  exact key2I Tryd.underlying27 Tryd.underlying3 rfl rfl (by kernel_rfl) (by kernel_rfl) (by kernel_rfl) hn (wfI h.1) (wfI h.2)
theorem ki_inj {a b : Int × Int} (ha : okI a) (hb : okI b) (e : ki a = ki b) : a = b := by
  have := lawI.inj (keyI ha) (e ▸ keyI hb)
  obtain ⟨a1, a2⟩ := a
  obtain ⟨b1, b2⟩ := b
  simp [iV] at this
  rw [this.1, this.2]
def look (cs : List Crd) (i : Int × Int) : Option Crd := cs.find? fun c => decide ((c.d, c.q) = i)
theorem look_mem {cs : List Crd} {i : Int × Int} {c : Crd} (h : look cs i = some c) : c ∈ cs ∧ (c.d, c.q) = i := by
  unfold look at h
  exact ⟨List.mem_of_find?_eq_some h, by simpa using List.find?_some h⟩
theorem look_none {cs : List Crd} {i : Int × Int} (h : look cs i = none) : ∀ c ∈ cs, (c.d, c.q) ≠ i := fun c hc e => by
  unfold look at h
  have := List.find?_eq_none.1 h c hc
  simp [e] at this
def OnceI (cs : List Crd) : Prop := ∀ c ∈ cs, ∀ c' ∈ cs, (c.d, c.q) = (c'.d, c'.q) → c = c'
theorem look_of {cs : List Crd} (h : OnceI cs) {c : Crd} (hc : c ∈ cs) : look cs (c.d, c.q) = some c := by
  cases hl : look cs (c.d, c.q) with
  | none => exact absurd rfl (look_none hl c hc)
  | some c' =>
    obtain ⟨h1, h2⟩ := look_mem hl
    rw [h c' h1 c hc h2]
theorem look_snoc {cs : List Crd} {c : Crd} (i : Int × Int) : look (cs ++ [c]) i = (look cs i).or (if (c.d, c.q) = i then some c else none) := by
  unfold look
  rw [List.find?_append]
  congr 1
  by_cases h : (c.d, c.q) = i
  · rw [if_pos h]; simp [h]
  · rw [if_neg h]; simp [h]
def CMap (w : World) (b n : Nat) (cs : List Crd) : Prop := ∃ D : DataW Value, w.ownsMap Tryd.prog 27 tokR b n D ∧ ∀ i, okI i → mget D (ki i) = (look cs i).map fun c => .agg c.cells.toArray
theorem CMap.new (w : World) : CMap (w.alloc (.map #[] 0)) w.heap.size 0 [] := ⟨_, World.ownsMap_made w _ _ _, fun i _ => rfl⟩
theorem CMap.at' {w w' : World} {b n : Nat} {cs : List Crd} (h : CMap w b n cs) (hb : w'.heap[b]? = w.heap[b]?) : CMap w' b n cs := by
  obtain ⟨D, ⟨es, clock, h1, r⟩, h2⟩ := h
  exact ⟨D, ⟨es, clock, hb.trans h1, r⟩, h2⟩
theorem CMap.lt {w : World} {b n : Nat} {cs : List Crd} (h : CMap w b n cs) : b < w.heap.size := by obtain ⟨D, h1, _⟩ := h; exact h1.lt
theorem CMap.kept {w w' : World} {b n : Nat} {cs : List Crd} (h : CMap w b n cs) (hb : Below w.heap.size w w') : CMap w' b n cs := h.at' (hb.block b h.lt)
set_option maxRecDepth 100000 in
theorem zeroC (w : World) : (zeroValue 55).run Tryd.prog w = .ok (.agg #[.int .i64 0, .int .i64 0, .string ⟨#[]⟩, .int .i64 0, .string ⟨#[]⟩, .string ⟨#[]⟩, .string ⟨#[]⟩, .string ⟨#[]⟩, .string ⟨#[]⟩]) w := by kernel_rfl
theorem CMap.look {w : World} {b n : Nat} {cs : List Crd} (h : CMap w b n cs) {i : Int × Int} (hi : okI i) :
    (Instr.lookup 77 (.map (some b)) (.agg #[.int .i64 i.1, .int .i64 i.2]) true).run Tryd.prog w = .ok (.tuple #[((Sh.look cs i).map fun c => Value.agg c.cells.toArray).getD (.agg #[.int .i64 0, .int .i64 0, .string ⟨#[]⟩, .int .i64 0, .string ⟨#[]⟩, .string ⟨#[]⟩, .string ⟨#[]⟩, .string ⟨#[]⟩, .string ⟨#[]⟩]), .bool (Sh.look cs i).isSome]) w := by
  obtain ⟨D, h1, h2⟩ := h
  have h3 := h2 i hi
  rcases map_cases h1 lawI Tryd.underlying77 (zeroC w) (keyI hi) true with ⟨h4, h5⟩ | ⟨v, h4, h5⟩
  · rw [h4] at h3
    have e : Sh.look cs i = none := by
      cases hl : Sh.look cs i with
      | none => rfl
      | some c => rw [hl] at h3; cases h3
    rw [e]
    exact h5
  · rw [h4] at h3
    cases hl : Sh.look cs i with
    | none => rw [hl] at h3; cases h3
    | some c =>
      rw [hl] at h3
      have e : v = .agg c.cells.toArray := Option.some.inj h3
      rw [e] at h5
      exact h5
theorem CMap.store {w : World} {b n : Nat} {cs : List Crd} (h : CMap w b n cs) (hn : n < 1000000) {c : Crd} (hi : okI (c.d, c.q)) (hno : Sh.look cs (c.d, c.q) = none) :
    ∃ w', (Instr.mapUpdate 77 (.map (some b)) (.agg #[.int .i64 c.d, .int .i64 c.q]) (.agg c.cells.toArray)).run Tryd.prog w = .ok () w' ∧ CMap w' b (n + 1) (cs ++ [c]) ∧ w.grownBy w' (some b) := by
  obtain ⟨D, h1, h2⟩ := h
  obtain ⟨w', e1, e2, e3⟩ := map_store (val := .agg c.cells.toArray) h1 lawI Tryd.underlying77 (by unfold maxLen; omega) (keyI hi)
  refine ⟨w', e1, ⟨_, e2, fun i hoi => ?_⟩, e3⟩
  rw [look_snoc]
  by_cases h : (c.d, c.q) = i
  · subst h
    rw [mget_same h1 lawI (keyI hi), if_pos rfl, hno]
    rfl
  · rw [mget_other (fun e => h (ki_inj hoi hi e).symm), h2 i hoi, if_neg h, Option.or_none]
end Go.Proofs.YtoajckhnneagnaaDoor.Sh
namespace Go.Proofs.YtoajckhnneagnaaDoor.Sh
open Go Go.RowKit

set_option linter.unusedVariables false
set_option linter.unusedSimpArgs false

def LinkP (c : Crd) (p : PT) : Prop := ∃ a b, p.ps = [a, b] ∧ a.pr = (firstOf c, a.x) ∧ isD a.x ∧ b.pr = ((a.x, c.bn), p.x)
theorem linkP_iff {c : Crd} {o n x : ByteArray} {d q : Int} {A : Option Addr} {cp : Nat} {a : PT} {ps : List PT} :
    LinkP c (.mk o n x d q A cp (a :: ps)) ↔ isD a.x ∧ (a :: ps).map PT.pr = [(firstOf c, a.x), ((a.x, c.bn), x)] := by
  unfold LinkP
  constructor
  · rintro ⟨a', b', h1, h2, h3, h4⟩
    simp only [PT.ps, List.cons.injEq] at h1
    obtain ⟨rfl, rfl⟩ := h1
    exact ⟨h3, by simp only [List.map_cons, List.map_nil]; rw [h2, h4]; rfl⟩
  · rintro ⟨h1, h2⟩
    simp only [List.map_cons, List.cons.injEq] at h2
    obtain ⟨h3, h4⟩ := h2
    cases ps with
    | nil => cases h4
    | cons b t =>
      simp only [List.map_cons, List.cons.injEq, List.map_eq_nil_iff] at h4
      obtain ⟨h5, rfl⟩ := h4
      exact ⟨a, b, rfl, h3, h1, h5⟩
theorem linkP_nil {c : Crd} {o n x : ByteArray} {d q : Int} {A : Option Addr} {cp : Nat} : ¬ LinkP c (.mk o n x d q A cp []) := by
  rintro ⟨a, b, h, _⟩
  cases h
theorem zrow (w : World) {w' : World} (hb : Below (w.alloc (.cells #[.string ⟨#[]⟩, .string ⟨#[]⟩, .string ⟨#[]⟩] 58)).drew.heap.size (w.alloc (.cells #[.string ⟨#[]⟩, .string ⟨#[]⟩, .string ⟨#[]⟩] 58)).drew w') :
    w'.heap[w.heap.size]? = some (.cells #[.string ⟨#[]⟩, .string ⟨#[]⟩, .string ⟨#[]⟩] 58 (0, 0)) := by
  rw [hb.block w.heap.size (by show _ < (w.alloc _).heap.size; rw [World.size_alloc]; exact Nat.lt_succ_self _)]
  exact heap_alloc_new w _
theorem zrow_cells {w : World} {g : Nat} (h : w.heap[g]? = some (.cells #[.string ⟨#[]⟩, .string ⟨#[]⟩, .string ⟨#[]⟩] 58 (0, 0))) :
    (w.cell? ⟨g, 0, none⟩ = some (.string ⟨#[]⟩) ∧ w.cell? ⟨g, 1, none⟩ = some (.string ⟨#[]⟩) ∧ w.cell? ⟨g, 2, none⟩ = some (.string ⟨#[]⟩)) ∧ w.frozen? ⟨g, 0, none⟩ = false ∧ w.frozen? ⟨g, 1, none⟩ = false ∧ w.frozen? ⟨g, 2, none⟩ = false := by
  refine ⟨⟨?_, ?_, ?_⟩, ?_, ?_, ?_⟩
  · rw [cell_of_row w g 0 _ _ (0, 0) h]; rfl
  · rw [cell_of_row w g 1 _ _ (0, 0) h]; rfl
  · rw [cell_of_row w g 2 _ _ (0, 0) h]; rfl
  · simp [World.frozen?, h]
  · simp [World.frozen?, h]
  · simp [World.frozen?, h]
theorem set3 {w : World} {g : Nat} {a b c x y z : Value} {T : TypeId} {fr : Nat × Nat} (h : w.heap[g]? = some (.cells #[a, b, c] T fr)) :
    (((w.setCell ⟨g, 0, none⟩ x).setCell ⟨g, 1, none⟩ y).setCell ⟨g, 2, none⟩ z).heap[g]? = some (.cells #[x, y, z] T fr) := by
  simp [World.setCell, Array.getElem?_modify, h]
theorem cells3 {w : World} {g : Nat} {a b c : Value} {T : TypeId} (h : w.heap[g]? = some (.cells #[a, b, c] T (0, 0))) : w.cell? ⟨g, 0, none⟩ = some a ∧ w.cell? ⟨g, 1, none⟩ = some b ∧ w.cell? ⟨g, 2, none⟩ = some c := by
  refine ⟨?_, ?_, ?_⟩
  · rw [cell_of_row w g 0 _ _ (0, 0) h]; rfl
  · rw [cell_of_row w g 1 _ _ (0, 0) h]; rfl
  · rw [cell_of_row w g 2 _ _ (0, 0) h]; rfl
theorem els_new (w : World) {α : Type} (E : Enc α) (l : List α) (T : TypeId) : Els E (w.alloc (.cells (ev E l).toArray T)) (w.alloc (.cells (ev E l).toArray T)).heap.size (some ⟨w.heap.size, 0, none⟩) l := fun hn => by
  obtain ⟨ad, e, hc⟩ := reads_new w (ev E l).toArray T (0, 0) (by
    have := E.pos
    show 0 < (ev E l).length
    rw [ev_length]
    exact Nat.mul_pos hn this)
  injection e with e
  subst e
  exact ⟨_, rfl, by rw [World.size_alloc]; exact Nat.lt_succ_self _, hc⟩
set_option maxHeartbeats 4000000 in
set_option maxRecDepth 100000 in
theorem linked_any (c : Crd) (h0 : -9223372036854775808 ≤ c.d) (h1 : c.d < 9223372036854775808) (p : PT) (w : World) (hp : PIn w w.heap.size p) :
    Calls Tryd.prog 60 #[.agg c.cells.toArray, .agg p.cells.toArray] w fun e w' => e = .returned (.bool (dc (LinkP c p))) ∧ Below w.heap.size w w' := by
  obtain ⟨cd, cq, nm, kd, wh, ao, an, bo, bn⟩ := c
  obtain ⟨o, n, x, d, q, A, cp, ps⟩ := p
  simp only at h0 h1
  obtain ⟨g1, g2, g3, g4⟩ := hp.open'
  obtain ⟨w1, hw1⟩ : ∃ w1, w1 = (w.alloc (.cells (Crd.cells ⟨cd, cq, nm, kd, wh, ao, an, bo, bn⟩).toArray 55)).alloc (.cells (PT.mk o n x d q A cp ps).cells.toArray 30) := ⟨_, rfl⟩
  have HQ1 : Hid (Below w.heap.size w w1) := hid (by rw [hw1]; exact (below_cr w _).alloc (by rw [World.size_alloc]; exact Nat.le_succ _) _)
  have HCA : Hid (CrAt w1 w.heap.size ⟨cd, cq, nm, kd, wh, ao, an, bo, bn⟩) := hid (by rw [hw1]; exact (CrAt.new w _).kept (below_pr _ _))
  have HPA : Hid (PrAt w1 (w.heap.size + 1) (.mk o n x d q A cp ps)) := hid (by rw [hw1]; have := PrAt.new (w.alloc (.cells (Crd.cells ⟨cd, cq, nm, kd, wh, ao, an, bo, bn⟩).toArray 55)) (.mk o n x d q A cp ps); rwa [World.size_alloc] at this)
  have HEL := hid (fun W (hW : Below w1.heap.size w1 W) => (g3.below (HQ1.out.trans (hW.mono HQ1.out.size))).more (Nat.le_trans HQ1.out.size hW.size))
  have HDO := hid (fun W => domain_any cd h0 h1 W)
  obtain ⟨D, hD⟩ : ∃ D : ByteArray, domB cd = D := ⟨_, rfl⟩
  have hD2 : (⟨(domL cd).toArray⟩ : ByteArray) = D := hD
  rw [hD2] at HDO
  obtain ⟨Z, hZ⟩ : ∃ Z, dc (LinkP ⟨cd, cq, nm, kd, wh, ao, an, bo, bn⟩ (.mk o n x d q A cp ps)) = Z := ⟨_, rfl⟩
  rw [hZ]
  have HK := hid (fun W (hW : Below w1.heap.size w1 W) => (⟨(HCA.out.kept hW).all, (HPA.out.kept hW).all⟩ : _ ∧ _))
  obtain ⟨np, hnp⟩ : ∃ np, ps.length = np := ⟨_, rfl⟩
  have HNP := hid hnp
  have hnp63 : np ≤ 9223372036854775807 := by omega
  rw [hnp] at HK
  obtain ⟨⟨c0, c1, c2, c3, c4, c5, c6, c7, c8⟩, k0, k1, k2, k3, k4, k5⟩ := HK.out _ (Below.refl _ _)
  cases ps with
  | nil =>
    have HF : Hid (Z = false) := hid (by rw [← hZ]; exact dc_false linkP_nil)
    simp only [List.length_nil] at hnp
    subst hnp
    unfold PT.cells Crd.cells at hw1 ⊢
    simp only [List.length_nil] at hw1 ⊢
    clear hp g1 g2 g3 g4 hD hD2 hZ
    go_enter Tryd.func60, Tryd.ntmps60
    go_wp2_with fail
    go_ret
    exact ⟨by rw [HF.out]; rfl, by rw [← hw1]; exact HQ1.out⟩
  | cons a ps =>
    have HZI : Hid (Z = true ↔ isD a.x ∧ (a :: ps).map PT.pr = [((D, an), a.x), ((a.x, bn), x)]) := hid (by
      rw [← hZ, dc_iff, linkP_iff, ← hD]
      rfl)
    obtain ⟨o2, n2, y, d2, q2, A2, c2', ps2⟩ := a
    have HZI := hid (show Z = true ↔ isD y ∧ (PT.mk o2 n2 y d2 q2 A2 c2' ps2 :: ps).map PT.pr = [((D, an), y), ((y, bn), x)] from HZI.out)
    obtain ⟨ad, aj, rfl, hab, ea, hbj, a0, a1, a2, a3, a4, a5⟩ := PIn.get (HEL.out _ (Below.refl _ _)) (j := 0) rfl
    have ea : ad = aj := by rw [← ea]; exact (add_zero ad).symm
    subst ea
    have hpos : (0 : Int) < (np : Int) := by rw [← hnp, List.length_cons]; omega
    have hne : ¬ (np : Int) = 0 := by omega
    have HNU := hid (fun W => nnum_any y W)
    obtain ⟨N, hN⟩ : ∃ N, numL y.data.toList = N := ⟨_, rfl⟩
    have HNN : Hid (isD y ↔ N ≠ 0) := hid (by unfold isD; rw [hN])
    rw [hN] at HNU
    have HPV := hid (fun (B : Option Addr) (W : World) (hW : Below w1.heap.size w1 W) (hB : Els encP W W.heap.size B [((D, an), y), ((y, bn), x)]) => prove_any (PT.mk o2 n2 y d2 q2 A2 c2' ps2 :: ps) [((D, an), y), ((y, bn), x)] (some ad) B np 2 cp 2 hnp rfl hnp63 W (HEL.out W hW) hB)
    unfold PT.cells Crd.cells at hw1 ⊢
    simp only [hnp] at hw1 ⊢
    obtain ⟨T, hT⟩ : ∃ T, dc ((PT.mk o2 n2 y d2 q2 A2 c2' ps2 :: ps).map PT.pr = [((D, an), y), ((y, bn), x)]) = T := ⟨_, rfl⟩
    have HTI : Hid (T = true ↔ (PT.mk o2 n2 y d2 q2 A2 c2' ps2 :: ps).map PT.pr = [((D, an), y), ((y, bn), x)]) := hid (by rw [← hT, dc_iff])
    rw [hT] at HPV
    rw [hw1] at a0 a1 a2 a3 a4 a5
    clear hp g1 g2 g3 g4 hD hD2 hZ hab hbj hnp hN hT
    go_enter Tryd.func60, Tryd.ntmps60
    go_wp2_with fail
    rw [← hw1]
    clear hw1 a0 a1 a2 a3 a4 a5
    have HDR := hid (Below.refl w1.heap.size w1).drew
    have HDA := hid ((Below.refl w1.heap.size w1).alloc (Nat.le_refl _) (.cells #[.string ⟨#[]⟩, .string ⟨#[]⟩, .string ⟨#[]⟩] 58)).drew
    have HS0 := hid (fun W (hW : Below w1.heap.size w1 W) => (⟨(HK.out W hW).1.1, (HK.out W hW).1.2.2.2.2.2.2.1⟩ : W.cell? ⟨w.heap.size, 0, none⟩ = some (.int .i64 cd) ∧ W.cell? ⟨w.heap.size, 6, none⟩ = some (.string an)))
    clear c0 c1 c2 c3 c4 c5 c6 c7 c8 k0 k1 k2 k3 k4 k5
    go_region_held3 (fun w' => w'.cell? ⟨w.heap.size, 0, none⟩ = some (.int .i64 cd) ∧ w'.cell? ⟨w.heap.size, 6, none⟩ = some (.string an))
      (first | exact HS0.out _ HDR.out | exact HS0.out _ HDA.out | exact HS0.out _ B5.out | exact HS0.out _ (B5.out.alloc B5.out.size _) | exact HS0.out _ ((B5.out.alloc B5.out.size _).setCell B5.out.size _) | exact HS0.out _ (((B5.out.setCell (Nat.le_refl _) _).setCell (Nat.le_refl _) _).setCell (Nat.le_refl _) _))
      ((first | (go_at_call 43; (refine (HDO.out _).mono ?_); rintro er w5 ⟨rfl, bb⟩; (first | (have zz := zrow_cells (zrow w1 bb)) | skip); have B5 : Hid (Below w1.heap.size w1 w5) := (hid (by first | exact (kept_trans HDR.out HDR.out.size bb) | exact (kept_trans HDA.out HDA.out.size bb))))))
    all_goals
      first
        | (obtain ⟨w6, hw6⟩ : ∃ w6, w6 = w5.alloc (.cells #[.string D, .string an, .string y] 58) := ⟨_, rfl⟩
           have HR6 : Hid (w6.heap[w5.heap.size]? = some (.cells #[.string D, .string an, .string y] 58 (0, 0))) := hid (by rw [hw6]; exact heap_alloc_new w5 _)
           have HB6 : Hid (Below w1.heap.size w1 w6) := hid (by rw [hw6]; exact B5.out.alloc B5.out.size _)
           rw [← hw6]
           generalize w5.heap.size = g6 at HR6 ⊢)
        | (obtain ⟨w6, hw6⟩ : ∃ w6, w6 = (((w5.setCell ⟨w1.heap.size, 0, none⟩ (.string D)).setCell ⟨w1.heap.size, 1, none⟩ (.string an)).setCell ⟨w1.heap.size, 2, none⟩ (.string y)) := ⟨_, rfl⟩
           have HR6 : Hid (w6.heap[w1.heap.size]? = some (.cells #[.string D, .string an, .string y] 58 (0, 0))) := hid (by rw [hw6]; exact set3 (zrow w1 bb))
           have HB6 : Hid (Below w1.heap.size w1 w6) := hid (by rw [hw6]; exact ((B5.out.setCell (Nat.le_refl _) _).setCell (Nat.le_refl _) _).setCell (Nat.le_refl _) _)
           rw [← hw6]
           clear zz
           generalize w1.heap.size = g6 at HR6 ⊢)
      clear hw6 bb B5
      have H6 := hid (fun W (hW : Below w6.heap.size w6 W) => cells3 ((hW.block _ (Array.getElem?_eq_some_iff.1 HR6.out).1).trans HR6.out))
      obtain ⟨⟨c0, c1, c2, c3, c4, c5, c6, c7, c8⟩, k0, k1, k2, k3, k4, k5⟩ := HK.out _ HB6.out
      obtain ⟨f0, f1, f2⟩ := H6.out _ (Below.refl _ _)
      obtain ⟨w7, hw7⟩ : ∃ w7, w7 = w6.alloc (.cells #[.string y, .string bn, .string x] 58) := ⟨_, rfl⟩
      have HB7 : Hid (Below w6.heap.size w6 w7) := hid (by rw [hw7]; exact (Below.refl _ _).alloc (Nat.le_refl _) _)
      have HR7 : Hid (w7.heap[w6.heap.size]? = some (.cells #[.string y, .string bn, .string x] 58 (0, 0))) := hid (by rw [hw7]; exact heap_alloc_new w6 _)
      go_wp2_with fail
      rw [← hw7]
      clear hw7 c0 c1 c2 c3 c4 c5 c6 c7 c8 k0 k1 k2 k3 k4 k5 f0 f1 f2
      refine (HNU.out _).mono ?_
      rintro er w8 ⟨rfl, hb8⟩
      have HB8 := hid (HB7.out.trans (hb8.mono HB7.out.size))
      have HB18 := hid (HB6.out.trans (HB8.out.mono HB6.out.size))
      have HR8 := hid (cells3 ((hb8.block _ (Array.getElem?_eq_some_iff.1 HR7.out).1).trans HR7.out))
      obtain ⟨⟨c0, c1, c2, c3, c4, c5, c6, c7, c8⟩, k0, k1, k2, k3, k4, k5⟩ := HK.out _ HB18.out
      obtain ⟨f0, f1, f2⟩ := H6.out _ HB8.out
      obtain ⟨e0, e1, e2⟩ := HR8.out
      clear hb8
      by_cases hN0 : N = 0
      · subst hN0
        have HF : Hid (Z = false) := hid (Bool.eq_false_iff.2 fun e => absurd rfl (HNN.out.1 (HZI.out.1 e).1))
        clear HZI HNN
        go_wp2_with fail
        go_ret
        exact ⟨by rw [HF.out]; rfl, HQ1.out.trans (HB18.out.mono HQ1.out.size)⟩
      · have hNi : ¬ (N : Int) = 0 := by omega
        have hNb : ((N : Int) != 0) = true := bne_iff_ne.2 hNi
        have HF : Hid (Z = T) := hid (Bool.eq_iff_iff.2 (by rw [HZI.out, HTI.out]; exact ⟨fun h => h.2, fun h => ⟨HNN.out.2 hN0, h⟩⟩))
        obtain ⟨w9, hw9⟩ : ∃ w9, w9 = w8.alloc (.cells (ev encP [((D, an), y), ((y, bn), x)]).toArray 58) := ⟨_, rfl⟩
        have HB9 : Hid (Below w1.heap.size w1 w9) := hid (by rw [hw9]; exact HB18.out.alloc HB18.out.size _)
        have HPC := hid (HPV.out (some ⟨w8.heap.size, 0, none⟩) w9 HB9.out (by rw [hw9]; exact els_new w8 encP _ _))
        have hw9' : w9 = w8.alloc (.cells #[.string D, .string an, .string y, .string y, .string bn, .string x] 58) := hw9
        clear hN0 HZI HNN HTI hw9
        go_wp2_with fail
        rw [← hw9']
        refine HPC.out.mono ?_
        rintro er w10 ⟨rfl, hb10⟩
        cases T <;>
        · go_wp2_with fail
          go_ret
          exact ⟨by rw [HF.out]; rfl, HQ1.out.trans ((HB9.out.trans (hb10.mono HB9.out.size)).mono HQ1.out.size)⟩
end Go.Proofs.YtoajckhnneagnaaDoor.Sh
