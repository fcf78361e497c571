/-
  A place being filled: what stays beside it; a row's last element stored into.
-/
import Derived.Test.YtoajckhnneagnaaDoorJc38
import Derived.Test.YtoajckhnneagnaaDoorJc32
import Derived.Test.YtoajckhnneagnaaDoorJc24
import Derived.KernelRfl
import Derived.Test.YtoajckhnneagnaaDoorJc5
import Derived.Test.YtoajckhnneagnaaDoorJc14
set_option linter.unusedVariables false
set_option linter.unusedSimpArgs false
namespace Go.Proofs.YtoajckhnneagnaaDoor.Sh
open Go Go.RowKit

set_option linter.unusedVariables false
set_option linter.unusedSimpArgs false
structure MidP (gp : Nat) (w w0 wr : World) (g o : Nat) (cur0 : Array Value) (T0 : TypeId) (D Q : Int) (vR : Value) : Prop where
  bel : Below gp w wr
  size : w0.heap.size ≤ wr.heap.size
  oth : ∀ b, b < w0.heap.size → b ≠ g → wr.heap[b]? = w0.heap[b]?
  blk : ∃ cur, wr.heap[g]? = some (.cells cur T0 (0, 0)) ∧ cur.size = cur0.size ∧ cur[o + 3]? = some (.int .i64 D) ∧ cur[o + 4]? = some (.int .i64 Q) ∧ cur[o + 5]? = some vR ∧ ∀ k, k ≠ o + 3 → k ≠ o + 4 → k ≠ o + 5 → cur[k]? = cur0[k]?
section
variable {gp : Nat} {w w0 wr W : World} {g o : Nat} {cur0 : Array Value} {T0 : TypeId} {D Q : Int} {vR v' : Value}
theorem MidP.keep (h : MidP gp w w0 wr g o cur0 T0 D Q vR) (hgp : gp ≤ w0.heap.size) (hg : g < w0.heap.size) (hB : Below w0.heap.size wr W) : MidP gp w w0 W g o cur0 T0 D Q vR := by
  refine ⟨h.bel.trans (hB.mono hgp), Nat.le_trans h.size hB.size, fun b hb hne => (hB.block b hb).trans (h.oth b hb hne), ?_⟩
  obtain ⟨cur, h1, h2⟩ := h.blk
  exact ⟨cur, (hB.block g hg).trans h1, h2⟩
theorem MidP.setR (h : MidP gp w w0 wr g o cur0 T0 D Q vR) (hgp : gp ≤ g) (ho : o + 6 ≤ cur0.size) : MidP gp w w0 (wr.setCell ⟨g, o + 5, none⟩ v') g o cur0 T0 D Q v' := by
  obtain ⟨cur, h1, h2, h3, h4, h5, h6⟩ := h.blk
  refine ⟨h.bel.setCell (by simpa using hgp) _, by simpa using h.size, fun b hb hne => (Below.heap_setCell wr ⟨g, o + 5, none⟩ v' b hne).trans (h.oth b hb hne), cur.setIfInBounds (o + 5) v', heap_setCell_same wr g (o + 5) cur T0 v' h1, by simpa using h2, ?_, ?_, ?_, fun k k1 k2 k3 => ?_⟩
  · rw [Array.getElem?_setIfInBounds, if_neg (by omega)]; exact h3
  · rw [Array.getElem?_setIfInBounds, if_neg (by omega)]; exact h4
  · rw [Array.getElem?_setIfInBounds, if_pos rfl, if_pos (by omega)]
  · rw [Array.getElem?_setIfInBounds, if_neg (by omega)]; exact h6 k k1 k2 k3
theorem MidP.start (hbel : Below gp w wr) (hgp : gp ≤ g) (h : wr.heap[g]? = some (.cells cur0 T0 (0, 0))) (ho : o + 6 ≤ cur0.size) (h5 : cur0[o + 5]? = some (.slice none 0 0)) : MidP gp w wr ((wr.setCell ⟨g, o + 3, none⟩ (.int .i64 D)).setCell ⟨g, o + 4, none⟩ (.int .i64 Q)) g o cur0 T0 D Q (.slice none 0 0) := by
  have h1 := heap_setCell_same wr g (o + 3) cur0 T0 (.int .i64 D) h
  have h2 := heap_setCell_same _ g (o + 4) _ T0 (.int .i64 Q) h1
  refine ⟨(hbel.setCell (by simpa using hgp) _).setCell (by simpa using hgp) _, by simp, fun b hb hne => (Below.heap_setCell _ ⟨g, o + 4, none⟩ _ b hne).trans (Below.heap_setCell wr ⟨g, o + 3, none⟩ _ b hne), _, h2, by simp, ?_, ?_, ?_, fun k k1 k2 k3 => ?_⟩
  · rw [Array.getElem?_setIfInBounds, if_neg (by omega), Array.getElem?_setIfInBounds, if_pos rfl, if_pos (by omega)]
  · rw [Array.getElem?_setIfInBounds, if_pos rfl, if_pos (by simp; omega)]
  · rw [Array.getElem?_setIfInBounds, if_neg (by omega), Array.getElem?_setIfInBounds, if_neg (by omega)]; exact h5
  · rw [Array.getElem?_setIfInBounds, if_neg (by omega), Array.getElem?_setIfInBounds, if_neg (by omega)]
theorem MidP.cell (h : MidP gp w w0 wr g o cur0 T0 D Q vR) : wr.cell? ⟨g, o + 5, none⟩ = some vR ∧ wr.frozen? ⟨g, o + 5, none⟩ = false := by
  obtain ⟨cur, h1, h2, h3, h4, h5, h6⟩ := h.blk
  exact ⟨by rw [cell_of_row wr g (o + 5) cur T0 (0, 0) h1]; exact h5, frozen_of_row wr g (o + 5) cur T0 h1⟩
end
def zeroT : PT := .mk ⟨#[]⟩ ⟨#[]⟩ ⟨#[]⟩ 0 0 none 0 []
theorem own_six {w : World} {B : Nat} {T : TypeId} {A : Option Addr} {c k : Nat} {l : List PT} (h : Own (E := encT) w B T (.slice A (k + 1) c) (l ++ [zeroT])) (hk : l.length = k) (p : Pr) :
    ∃ gr k6, A = some ⟨gr, 0, none⟩ ∧ k6 = k * 6 ∧ B ≤ gr ∧ gr < w.heap.size ∧ w.cell? ⟨gr, k6, none⟩ = some (.string ⟨#[]⟩) ∧ w.cell? ⟨gr, k6 + 1, none⟩ = some (.string ⟨#[]⟩) ∧ w.cell? ⟨gr, k6 + 2, none⟩ = some (.string ⟨#[]⟩) ∧ w.cell? ⟨gr, k6 + 3, none⟩ = some (.int .i64 0) ∧ w.cell? ⟨gr, k6 + 4, none⟩ = some (.int .i64 0) ∧ w.cell? ⟨gr, k6 + 5, none⟩ = some (.slice none 0 0) ∧
      (∀ i, w.frozen? ⟨gr, i, none⟩ = false) ∧ Own (E := encT) ((((((w.setCell ⟨gr, k6, none⟩ (.string p.1.1)).setCell ⟨gr, k6 + 1, none⟩ (.string p.1.2)).setCell ⟨gr, k6 + 2, none⟩ (.string p.2)).setCell ⟨gr, k6 + 3, none⟩ (.int .i64 0)).setCell ⟨gr, k6 + 4, none⟩ (.int .i64 0)).setCell ⟨gr, k6 + 5, none⟩ (.slice none 0 0)) B T (.slice A (k + 1) c) (l ++ [leafT p]) := by
  obtain ⟨h0, hr⟩ := h
  have hl1 : (l ++ [zeroT]).length = k + 1 := by simp [hk]
  rw [hl1] at hr
  rcases hr with ⟨-, h1⟩ | ⟨gr, cp, cur, e1, hB, hh, hle, hmx, hcs, htk⟩
  · omega
  · simp only [Value.slice.injEq] at e1
    obtain ⟨rfl, -, rfl⟩ := e1
    have hk6 : encT.k = 6 := rfl
    rw [hk6] at hcs htk
    have hsz : (k + 1) * 6 ≤ cur.size := by rw [hcs]; exact Nat.mul_le_mul_right _ hle
    have hcell : ∀ i v, i < 6 → zeroT.cells[i]? = some v → cur[k * 6 + i]? = some v := fun i v hi hv => by
      have hg : (l ++ [zeroT])[k]? = some zeroT := by rw [List.getElem?_append_right (by omega)]; simp [hk]
      have h2 := ev_get encT hg (i := i) (by rw [hk6]; exact hi)
      rw [hk6, ← htk, List.getElem?_take, if_pos (by omega), Array.getElem?_toList] at h2
      exact h2.trans hv
    have hcl : ∀ i v, i < 6 → zeroT.cells[i]? = some v → w.cell? ⟨gr, k * 6 + i, none⟩ = some v := fun i v hi hv => by
      rw [cell_of_row w gr (k * 6 + i) cur T (0, 0) hh]; exact hcell i v hi hv
    refine ⟨gr, k * 6, rfl, rfl, hB, (Array.getElem?_eq_some_iff.1 hh).1, hcl 0 _ (by omega) rfl, hcl 1 _ (by omega) rfl, hcl 2 _ (by omega) rfl, hcl 3 _ (by omega) rfl, hcl 4 _ (by omega) rfl, hcl 5 _ (by omega) rfl, fun i => frozen_of_row w gr i cur T hh, ?_⟩
    have g1 := heap_setCell_same w gr (k * 6) cur T (.string p.1.1) hh
    have g2 := heap_setCell_same _ gr (k * 6 + 1) _ T (.string p.1.2) g1
    have g3 := heap_setCell_same _ gr (k * 6 + 2) _ T (.string p.2) g2
    have g4 := heap_setCell_same _ gr (k * 6 + 3) _ T (.int .i64 0) g3
    have g5 := heap_setCell_same _ gr (k * 6 + 4) _ T (.int .i64 0) g4
    have g6 := heap_setCell_same _ gr (k * 6 + 5) _ T (.slice none 0 0) g5
    have hl2 : (l ++ [leafT p]).length = k + 1 := by simp [hk]
    refine ⟨by rw [ev_length, hl2], .inr ⟨gr, c, _, by rw [hl2], hB, g6, by rw [hl2]; exact hle, hmx, by rw [hk6]; simpa using hcs, ?_⟩⟩
    rw [hl2, hk6]
    refine List.ext_getElem? fun i => ?_
    rw [List.getElem?_take]
    by_cases hi : i < (k + 1) * 6
    · rw [if_pos hi, Array.getElem?_toList]
      rcases Nat.lt_or_ge i (k * 6) with hi2 | hi2
      · rw [Array.getElem?_setIfInBounds, if_neg (by omega), Array.getElem?_setIfInBounds, if_neg (by omega), Array.getElem?_setIfInBounds, if_neg (by omega), Array.getElem?_setIfInBounds, if_neg (by omega), Array.getElem?_setIfInBounds, if_neg (by omega), Array.getElem?_setIfInBounds, if_neg (by omega)]
        have h2 : (ev encT (l ++ [zeroT]))[i]? = cur[i]? := by rw [← htk, List.getElem?_take, if_pos (by omega), Array.getElem?_toList]
        have hel : i < (ev encT l).length := by rw [ev_length, hk, hk6]; exact hi2
        rw [← h2, ev_append, ev_append, List.getElem?_append_left hel, List.getElem?_append_left hel]
      · obtain ⟨r, rfl⟩ : ∃ r, i = k * 6 + r := ⟨i - k * 6, by omega⟩
        have hg : (l ++ [leafT p])[k]? = some (leafT p) := by rw [List.getElem?_append_right (by omega)]; simp [hk]
        have h2 := ev_get encT hg (i := r) (by rw [hk6]; omega)
        rw [hk6] at h2
        rw [h2]
        show _ = (leafT p).cells[r]?
        rw [leaf_cells]
        have : r = 0 ∨ r = 1 ∨ r = 2 ∨ r = 3 ∨ r = 4 ∨ r = 5 := by omega
        rcases this with rfl | rfl | rfl | rfl | rfl | rfl
        · rw [Array.getElem?_setIfInBounds, if_neg (by omega), Array.getElem?_setIfInBounds, if_neg (by omega), Array.getElem?_setIfInBounds, if_neg (by omega), Array.getElem?_setIfInBounds, if_neg (by omega), Array.getElem?_setIfInBounds, if_neg (by omega), Array.getElem?_setIfInBounds, if_pos (by omega), if_pos (by (try simp); omega)]; rfl
        · rw [Array.getElem?_setIfInBounds, if_neg (by omega), Array.getElem?_setIfInBounds, if_neg (by omega), Array.getElem?_setIfInBounds, if_neg (by omega), Array.getElem?_setIfInBounds, if_neg (by omega), Array.getElem?_setIfInBounds, if_pos (by omega), if_pos (by (try simp); omega)]; rfl
        · rw [Array.getElem?_setIfInBounds, if_neg (by omega), Array.getElem?_setIfInBounds, if_neg (by omega), Array.getElem?_setIfInBounds, if_neg (by omega), Array.getElem?_setIfInBounds, if_pos (by omega), if_pos (by (try simp); omega)]; rfl
        · rw [Array.getElem?_setIfInBounds, if_neg (by omega), Array.getElem?_setIfInBounds, if_neg (by omega), Array.getElem?_setIfInBounds, if_pos (by omega), if_pos (by (try simp); omega)]; rfl
        · rw [Array.getElem?_setIfInBounds, if_neg (by omega), Array.getElem?_setIfInBounds, if_pos (by omega), if_pos (by (try simp); omega)]; rfl
        · rw [Array.getElem?_setIfInBounds, if_pos (by omega), if_pos (by (try simp); omega)]; rfl
    · rw [if_neg hi, List.getElem?_eq_none (by rw [ev_length, hl2, hk6]; omega)]
end Go.Proofs.YtoajckhnneagnaaDoor.Sh
namespace Go.Proofs.YtoajckhnneagnaaDoor.Sh
open Go Go.RowKit

set_option linter.unusedVariables false
set_option linter.unusedSimpArgs false
open Go.Maps (Keyed)
theorem pr_laidOut : laidOutB Tryd.prog = true := by kernel_rfl
theorem pr_types : ∃ n, Tryd.prog.types.size = n + 8 := ⟨Tryd.prog.types.size - 8, by kernel_rfl⟩
theorem rowI : (27 : TypeId) < Tryd.prog.types.size := of_decide_eq_true (by kernel_rfl)
theorem wideI : (match Tryd.prog.underlying 27 with | some (.array _ _) | some (.struct _) => true | _ => false) = true := by kernel_rfl
set_option maxRecDepth 100000 in
theorem klI : WideMaps.KeyLaw Tryd.prog 27 := deep_law_laid pr_laidOut (m := 2) (by omega) rowI (by kernel_rfl) wideI
theorem lawI : Keyed Tryd.prog 27 := Keyed.of_law klI
def iV (i : Int × Int) : Value := .agg #[.int .i64 i.1, .int .i64 i.2]
def ki (i : Int × Int) : Lit := .string (keyBytes [.int .i64 i.1, .int .i64 i.2])
section
variable {P : Program} {T S : TypeId}
theorem kl_I (hS : P.underlying S = some (.int .i64)) (d : Nat) {a : Int} (h : (Lit.int .i64 a).wf = true) : P.keyLits (d + 1) S [.int .i64 a] = some [.int .i64 a] := by
  unfold Program.keyLits
  rw [hS]
  exact if_pos ⟨rfl, h⟩
theorem kl_2I {n0 n1 : String} {x0 x1 : Nat} {g0 g1 : Bool} {t0 t1 k0 k1 : String} (hu : P.underlying T = some (.struct #[⟨n0, S, 0, g0, t0, k0, x0⟩, ⟨n1, S, 1, g1, t1, k1, x1⟩])) (hS : P.underlying S = some (.int .i64)) (e0 : (n0 != "_") = true) (e1 : (n1 != "_") = true)
    (hc : P.cellsOf T = 2) (hs : P.cellsOf S = 1) (d : Nat) {a b : Int} (h1 : (Lit.int .i64 a).wf = true) (h2 : (Lit.int .i64 b).wf = true) :
    P.keyLits (d + 2) T [.int .i64 a, .int .i64 b] = some [.int .i64 a, .int .i64 b] := by
  unfold Program.keyLits
  rw [hu]
  simp only [List.length_cons, List.length_nil, hc, List.mapM_cons, List.mapM_nil, hs, List.drop_zero, List.take_succ_cons, List.take_zero, List.drop_succ_cons, kl_I hS d h1, kl_I hS d h2]
  simp
  exact ⟨bne_iff_ne.1 e0, bne_iff_ne.1 e1⟩
theorem key2I {n0 n1 : String} {x0 x1 : Nat} {g0 g1 : Bool} {t0 t1 k0 k1 : String} (hu : P.underlying T = some (.struct #[⟨n0, S, 0, g0, t0, k0, x0⟩, ⟨n1, S, 1, g1, t1, k1, x1⟩])) (hS : P.underlying S = some (.int .i64)) (e0 : (n0 != "_") = true) (e1 : (n1 != "_") = true)
    (hk : P.keyType T = true) (hc : P.cellsOf T = 2) (hs : P.cellsOf S = 1) {n : Nat} (hn : P.types.size = n + 8) {a b : Int} (h1 : (Lit.int .i64 a).wf = true) (h2 : (Lit.int .i64 b).wf = true) :
    keyOf P T (.agg #[.int .i64 a, .int .i64 b]) = some (.string (keyBytes [.int .i64 a, .int .i64 b])) := by
  have hf : (Value.agg #[.int .i64 a, .int .i64 b]).formed P T = true := by unfold Value.formed; rw [hu]; simp only; rw [hc]; rfl
  unfold keyOf
  rw [hu]
  simp only [hk, hf, Bool.and_self, if_true]
  show (P.keyLits (P.types.size + 1) T [.int .i64 a, .int .i64 b]).map _ = _
  rw [hn, show n + 8 + 1 = (n + 7) + 2 by omega, kl_2I hu hS e0 e1 hc hs _ h1 h2]
  rfl
end
theorem wfI {n : Int} (h : -9223372036854775808 ≤ n ∧ n ≤ 9223372036854775807) : (Lit.int .i64 n).wf = true := by
  simp [Lit.wf, IntKind.min, IntKind.max, IntKind.signed, IntKind.bits]
  omega
theorem keyI {i : Int × Int} (h : okI i) : keyOf Tryd.prog 27 (iV i) = some (ki i) := by
  obtain ⟨n, hn⟩ := pr_types
  exact key2I Tryd.underlying27 Tryd.underlying3 rfl rfl (by kernel_rfl) (by kernel_rfl) (by kernel_rfl) hn (wfI h.1) (wfI h.2)
theorem ki_inj {a b : Int × Int} (ha : okI a) (hb : okI b) (e : ki a = ki b) : a = b := by
  have := lawI.inj (keyI ha) (e ▸ keyI hb)
  obtain ⟨a1, a2⟩ := a
  obtain ⟨b1, b2⟩ := b
  simp [iV] at this
  rw [this.1, this.2]
def look (cs : List Crd) (i : Int × Int) : Option Crd := cs.find? fun c => decide ((c.d, c.q) = i)
def OnceI (cs : List Crd) : Prop := ∀ c ∈ cs, ∀ c' ∈ cs, (c.d, c.q) = (c'.d, c'.q) → c = c'
end Go.Proofs.YtoajckhnneagnaaDoor.Sh
namespace Go.Proofs.YtoajckhnneagnaaDoor.Sh
open Go Go.RowKit

set_option linter.unusedVariables false
set_option linter.unusedSimpArgs false

end Go.Proofs.YtoajckhnneagnaaDoor.Sh
namespace Go.Proofs.YtoajckhnneagnaaDoor.Sh
open Go Go.RowKit

set_option linter.unusedVariables false
set_option linter.unusedSimpArgs false

end Go.Proofs.YtoajckhnneagnaaDoor.Sh
namespace Go.Proofs.YtoajckhnneagnaaDoor.Sh
open Go Go.RowKit

set_option linter.unusedVariables false
set_option linter.unusedSimpArgs false

end Go.Proofs.YtoajckhnneagnaaDoor.Sh
namespace Go.Proofs.YtoajckhnneagnaaDoor.Sh
open Go Go.RowKit

set_option linter.unusedVariables false
set_option linter.unusedSimpArgs false

theorem counts_onceI {out l : List Crd} (h : CountsOf out l) : OnceI out := fun c hc c' hc' e => by
  have h1 := counts_one h hc
  have h2 := counts_one h hc'
  simp only [Prod.mk.injEq] at e
  rw [← e.1, ← e.2, h1] at h2
  exact (List.cons.inj h2).1
theorem counts_nodup {out l : List Crd} (h : CountsOf out l) : out.Nodup := by
  have : ∀ (a : List Crd), (∀ c ∈ a, a.filter (idIs c.d c.q) = [c]) → a.Nodup := by
    intro a
    induction a with
    | nil => intro _; exact List.nodup_nil
    | cons x t ih =>
      intro ha
      have hx := ha x (by simp)
      rw [List.filter_cons_of_pos (by simp [idIs])] at hx
      have hx0 : t.filter (idIs x.d x.q) = [] := (List.cons.inj hx).2
      have hnot : ∀ c ∈ t, ¬ (c.d = x.d ∧ c.q = x.q) := fun c hc hh => by
        have : c ∈ t.filter (idIs x.d x.q) := List.mem_filter.2 ⟨hc, idIs_iff.2 hh⟩
        rw [hx0] at this
        cases this
      refine List.nodup_cons.2 ⟨fun hh => hnot x hh ⟨rfl, rfl⟩, ih fun c hc => ?_⟩
      have hc1 := ha c (by simp [hc])
      rwa [List.filter_cons_of_neg (by rw [idIs_iff]; intro hh; exact hnot c hc ⟨hh.1.symm, hh.2.symm⟩)] at hc1
  exact this out fun c hc => counts_one h hc
theorem may_okI {c : Crd} (h : mayC c = true) : okI (c.d, c.q) := by
  unfold mayC headOk at h
  simp only [Bool.and_eq_true, decide_eq_true_eq] at h
  obtain ⟨⟨⟨h1, h2, h3, h4⟩, _⟩, _⟩ := h
  refine ⟨⟨?_, ?_⟩, ⟨?_, ?_⟩⟩ <;> simp only <;> omega
end Go.Proofs.YtoajckhnneagnaaDoor.Sh
