/-
  Books of leases in memory: the program's (a map of stamps, a map of what is held), the document's (two lists).
-/
import Derived.Test.YtkimhdcngagmaaaJa5
import Derived.Test.YtkimhdcngagmaaaJa6
import Derived.Test.YtkimhdcngagmaaaJa7
import Derived.Test.YtkimhdcngagmaaaJa8
import Derived.Test.YtkimhdcngagmaaaJa4
set_option linter.unusedVariables false
set_option linter.unusedSimpArgs false
namespace Go.Proofs.Ytkimhdcngagmaaa.Sh
open Go Go.RowKit
open Go.Maps (Keyed)

set_option linter.unusedSimpArgs false
set_option linter.unusedVariables false
def Hl.cells (h : Hl) : List Value := [.int .i64 h.c.d, .int .i64 h.c.q, .string h.c.nm, .int .i64 h.c.kd, .string h.c.wh, .string h.c.ao, .string h.c.an, .string h.c.bo, .string h.c.bn, .int .i64 h.u]
theorem Hl.cells_eq (h : Hl) : h.cells = h.c.cells ++ [.int .i64 h.u] := rfl
def encL : Enc Hl := ⟨10, Hl.cells, by omega, fun _ => rfl, fun x u hu => by
  unfold Hl.cells at hu
  simp only [List.mem_cons, List.not_mem_nil, or_false] at hu
  rcases hu with rfl | rfl | rfl | rfl | rfl | rfl | rfl | rfl | rfl | rfl <;> rfl⟩
theorem slL : SlN Try.prog 29 55 10 128 := by
  obtain ⟨i0, hi0, hz0, hz1, hz2⟩ := info_parts (P := Try.prog) (e := 55) (z := .agg (Hl.cells ⟨Crd.zero, 0⟩).toArray) (size := 10) (bytes := 128) (by kernel_rfl)
  exact ⟨Try.underlying29, ⟨i0, _, hi0, hz0, hz1, hz2, rfl⟩, by omega⟩
theorem slS : SlN Try.prog 30 73 2 16 := by
  obtain ⟨i0, hi0, hz0, hz1, hz2⟩ := info_parts (P := Try.prog) (e := 73) (z := .agg #[.int .i64 0, .int .i64 0]) (size := 2) (bytes := 16) (by kernel_rfl)
  exact ⟨Try.underlying30, ⟨i0, _, hi0, hz0, hz1, hz2, rfl⟩, by omega⟩
/-- The stamps, in a map at block b. -/
def StM (w : World) (b k : Nat) (f : Int → Option Int) : Prop := ∃ D : DataW Value, w.ownsMap Try.prog 3 tokR b k D ∧ ∀ z, In64 z → mget D (.int .i64 z) = (f z).map (Value.int .i64)
theorem StM.at' {w w' : World} {b k : Nat} {f : Int → Option Int} (h : StM w b k f) (hb : w'.heap[b]? = w.heap[b]?) : StM w' b k f := by
  obtain ⟨D, ⟨es, clock, h1, r⟩, h2⟩ := h
  exact ⟨D, ⟨es, clock, hb.trans h1, r⟩, h2⟩
theorem StM.lt {w : World} {b k : Nat} {f : Int → Option Int} (h : StM w b k f) : b < w.heap.size := by obtain ⟨D, h1, _⟩ := h; exact h1.lt
theorem StM.mono {w : World} {b k k' : Nat} {f : Int → Option Int} (h : StM w b k f) (hk : k ≤ k') : StM w b k' f := by
  obtain ⟨D, ⟨es, clock, h1, F, h2, h3⟩, h4⟩ := h
  exact ⟨D, ⟨es, clock, h1, F, Nat.le_trans h2 hk, h3⟩, h4⟩
theorem zeroI (w : World) : (zeroValue 3).run Try.prog w = .ok (.int .i64 0) w := by kernel_rfl
theorem zeroLs (w : World) : (zeroValue 29).run Try.prog w = .ok (.slice none 0 0) w := by kernel_rfl
theorem StM.look {w : World} {b k : Nat} {f : Int → Option Int} (h : StM w b k f) {z : Int} (hz : In64 z) : (Instr.lookup 59 (.map (some b)) (.int .i64 z) false).run Try.prog w = .ok (.int .i64 ((f z).getD 0)) w := by
  obtain ⟨D, h1, h2⟩ := h
  rcases map_cases h1 lawN Try.underlying59 (zeroI w) (keyN hz) false with ⟨e, hrun⟩ | ⟨v, e, hrun⟩
  · rw [h2 z hz] at e
    rw [hrun]
    cases hf : f z with
    | none => rfl
    | some y => rw [hf] at e; cases e
  · rw [h2 z hz] at e
    rw [hrun]
    cases hf : f z with
    | none => rw [hf] at e; cases e
    | some y => rw [hf] at e; injection e with e; subst e; rfl
theorem StM.look2 {w : World} {b k : Nat} {f : Int → Option Int} (h : StM w b k f) {z : Int} (hz : In64 z) : (Instr.lookup 59 (.map (some b)) (.int .i64 z) true).run Try.prog w = .ok (.tuple #[.int .i64 ((f z).getD 0), .bool (f z).isSome]) w := by
  obtain ⟨D, h1, h2⟩ := h
  rcases map_cases h1 lawN Try.underlying59 (zeroI w) (keyN hz) true with ⟨e, hrun⟩ | ⟨v, e, hrun⟩
  · rw [h2 z hz] at e
    rw [hrun]
    cases hf : f z with
    | none => rfl
    | some y => rw [hf] at e; cases e
  · rw [h2 z hz] at e
    rw [hrun]
    cases hf : f z with
    | none => rw [hf] at e; cases e
    | some y => rw [hf] at e; injection e with e; subst e; rfl
theorem StM.put {w : World} {b k : Nat} {f : Int → Option Int} (h : StM w b k f) {z : Int} (hz : In64 z) (y : Int) (hk : k < 1000000) :
    ∃ w', (Instr.mapUpdate 59 (.map (some b)) (.int .i64 z) (.int .i64 y)).run Try.prog w = .ok () w' ∧ StM w' b (k + 1) (updF f z (some y)) ∧ w.grownBy w' (some b) := by
  obtain ⟨D, h1, h2⟩ := h
  obtain ⟨w', hrun, ho, hg⟩ := map_store (val := .int .i64 y) h1 lawN Try.underlying59 (by unfold maxLen; omega) (keyN hz)
  refine ⟨w', hrun, ⟨_, ho, fun q hq => ?_⟩, hg⟩
  by_cases e : q = z
  · subst e
    rw [mget_same h1 lawN (keyN hz), updF_at]; rfl
  · rw [mget_other (fun e' => e (by injection e')), h2 q hq, updF_ne _ _ e]
/-- What is held, in a map at block b, whose rows lie in blocks Q. -/
def HlM (w : World) (b k : Nat) (Q : Nat → Prop) (f : Int → List Hl) : Prop := ∃ D : DataW Value, w.ownsMap Try.prog 3 tokR b k D ∧ ∀ z, In64 z → ∃ A c, (mget D (.int .i64 z)).getD (.slice none 0 0) = .slice A (f z).length c ∧ (f z).length ≤ c ∧ c ≤ 9223372036854775807 ∧ ElsQ encL w Q A (f z)
theorem HlM.kept {w w' : World} {b k : Nat} {Q : Nat → Prop} {f : Int → List Hl} (h : HlM w b k Q f) (hb : w'.heap[b]? = w.heap[b]?) (hk : ∀ b, Q b → b < w.heap.size → w'.heap[b]? = w.heap[b]?) (hs : w.heap.size ≤ w'.heap.size) : HlM w' b k Q f := by
  obtain ⟨D, ⟨es, clock, h1, r⟩, h2⟩ := h
  exact ⟨D, ⟨es, clock, hb.trans h1, r⟩, fun z hz => by obtain ⟨A, c, a1, a2, a3, a4⟩ := h2 z hz; exact ⟨A, c, a1, a2, a3, a4.kept hk hs⟩⟩
theorem HlM.imp {w : World} {b k : Nat} {Q R : Nat → Prop} {f : Int → List Hl} (h : HlM w b k Q f) (hq : ∀ b, Q b → b < w.heap.size → R b) : HlM w b k R f := by
  obtain ⟨D, h1, h2⟩ := h
  exact ⟨D, h1, fun z hz => by obtain ⟨A, c, a1, a2, a3, a4⟩ := h2 z hz; exact ⟨A, c, a1, a2, a3, a4.imp hq⟩⟩
theorem HlM.lt {w : World} {b k : Nat} {Q : Nat → Prop} {f : Int → List Hl} (h : HlM w b k Q f) : b < w.heap.size := by obtain ⟨D, h1, _⟩ := h; exact h1.lt
theorem HlM.mono {w : World} {b k k' : Nat} {Q : Nat → Prop} {f : Int → List Hl} (h : HlM w b k Q f) (hk : k ≤ k') : HlM w b k' Q f := by
  obtain ⟨D, ⟨es, clock, h1, F, h2, h3⟩, h4⟩ := h
  exact ⟨D, ⟨es, clock, h1, F, Nat.le_trans h2 hk, h3⟩, h4⟩
theorem HlM.look {w : World} {b k : Nat} {Q : Nat → Prop} {f : Int → List Hl} (h : HlM w b k Q f) {z : Int} (hz : In64 z) : ∃ A c, (Instr.lookup 60 (.map (some b)) (.int .i64 z) false).run Try.prog w = .ok (.slice A (f z).length c) w ∧ (f z).length ≤ c ∧ c ≤ 9223372036854775807 ∧ ElsQ encL w Q A (f z) := by
  obtain ⟨D, h1, h2⟩ := h
  obtain ⟨A, c, a1, a2, a3, a4⟩ := h2 z hz
  refine ⟨A, c, ?_, a2, a3, a4⟩
  rcases map_cases h1 lawN Try.underlying60 (zeroLs w) (keyN hz) false with ⟨e, hrun⟩ | ⟨v, e, hrun⟩
  · rw [e] at a1
    rw [hrun, ← a1]; rfl
  · rw [e] at a1
    rw [hrun, ← a1]; rfl
theorem HlM.put {w : World} {b k : Nat} {Q : Nat → Prop} {f : Int → List Hl} (h : HlM w b k Q f) (hQ : ¬ Q b) {z : Int} (hz : In64 z) (l : List Hl) {A : Option Addr} {n c : Nat} (hn : l.length = n) (h1 : n ≤ c) (h2 : c ≤ 9223372036854775807) (he : ElsQ encL w Q A l) (hk : k < 1000000) :
    ∃ w', (Instr.mapUpdate 60 (.map (some b)) (.int .i64 z) (.slice A n c)).run Try.prog w = .ok () w' ∧ HlM w' b (k + 1) Q (updF f z l) ∧ w.grownBy w' (some b) := by
  obtain ⟨D, g1, g2⟩ := h
  obtain ⟨w', hrun, ho, hg⟩ := map_store (val := .slice A n c) g1 lawN Try.underlying60 (by unfold maxLen; omega) (keyN hz)
  have hkq : ∀ b', Q b' → b' < w.heap.size → w'.heap[b']? = w.heap[b']? := kept_gro hg hQ
  refine ⟨w', hrun, ⟨_, ho, fun q hq => ?_⟩, hg⟩
  by_cases e : q = z
  · subst e
    rw [mget_same g1 lawN (keyN hz), updF_at]
    exact ⟨A, c, by rw [hn]; rfl, by omega, h2, he.kept hkq hg.size⟩
  · rw [mget_other (fun e' => e (by injection e')), updF_ne _ _ e]
    obtain ⟨A', c', a1, a2, a3, a4⟩ := g2 q hq
    exact ⟨A', c', a1, a2, a3, a4.kept hkq hg.size⟩
/-- The program's book b at block g: all its blocks are among P. -/
structure BookP (w : World) (P : Nat → Prop) (g k : Nat) (b : LB) : Prop where
  ex : ∃ h1 h2 : Nat, P g ∧ P h1 ∧ P h2 ∧ g ≠ h1 ∧ g ≠ h2 ∧ h1 ≠ h2 ∧ w.heap[g]? = some (.cells #[.int .i64 b.own, .map (some h1), .map (some h2)] 62 (0, 0)) ∧ StM w h1 k b.st ∧ HlM w h2 k (fun x => P x ∧ x ≠ g ∧ x ≠ h1 ∧ x ≠ h2) b.hl
  dom : ∀ x, P x → x < w.heap.size
theorem BookP.kept {w w' : World} {P : Nat → Prop} {g k : Nat} {b : LB} (h : BookP w P g k b) (hk : ∀ x, P x → x < w.heap.size → w'.heap[x]? = w.heap[x]?) (hs : w.heap.size ≤ w'.heap.size) : BookP w' P g k b := by
  obtain ⟨⟨h1, h2, p0, p1, p2, n1, n2, n3, hr, hst, hhl⟩, hd⟩ := h
  exact ⟨⟨h1, h2, p0, p1, p2, n1, n2, n3, (hk g p0 (hd g p0)).trans hr, hst.at' (hk h1 p1 (hd h1 p1)), hhl.kept (hk h2 p2 (hd h2 p2)) (fun x hx hl => hk x hx.1 hl) hs⟩, fun x hx => Nat.lt_of_lt_of_le (hd x hx) hs⟩
theorem BookP.below {w w' : World} {P : Nat → Prop} {g k : Nat} {b : LB} (h : BookP w P g k b) (hb : Below w.heap.size w w') : BookP w' P g k b := h.kept (fun x _ hl => hb.block x hl) hb.size
theorem BookP.grew {w w' : World} {P X : Nat → Prop} {g k : Nat} {b : LB} (h : BookP w P g k b) (hg : Grew w w' X) (hx : ∀ x, X x → ¬ P x) : BookP w' P g k b := h.kept (fun x hp hl => hg.block x hl (fun hX => hx x hX hp)) hg.size
theorem BookP.mono {w : World} {P : Nat → Prop} {g k k' : Nat} {b : LB} (h : BookP w P g k b) (hk : k ≤ k') : BookP w P g k' b := by
  obtain ⟨⟨h1, h2, p0, p1, p2, n1, n2, n3, hr, hst, hhl⟩, hd⟩ := h
  exact ⟨⟨h1, h2, p0, p1, p2, n1, n2, n3, hr, hst.mono hk, hhl.mono hk⟩, hd⟩
/-- The document's book r at block g. -/
structure BookR (w : World) (P : Nat → Prop) (g : Nat) (r : RB) : Prop where
  ex : ∃ (LA SA : Option Addr) (lc sc : Nat), P g ∧ w.heap[g]? = some (.cells #[.int .i64 r.own, .slice LA r.L.length lc, .slice SA r.S.length sc] 32 (0, 0)) ∧
    r.L.length ≤ lc ∧ lc ≤ 9223372036854775807 ∧ ElsQ encL w (fun x => P x ∧ x ≠ g) LA r.L ∧ r.S.length ≤ sc ∧ sc ≤ 9223372036854775807 ∧ ElsQ encI w (fun x => P x ∧ x ≠ g) SA r.S
  dom : ∀ x, P x → x < w.heap.size
theorem BookR.kept {w w' : World} {P : Nat → Prop} {g : Nat} {r : RB} (h : BookR w P g r) (hk : ∀ x, P x → x < w.heap.size → w'.heap[x]? = w.heap[x]?) (hs : w.heap.size ≤ w'.heap.size) : BookR w' P g r := by
  obtain ⟨⟨LA, SA, lc, sc, p0, hr, a1, a2, a3, b1, b2, b3⟩, hd⟩ := h
  exact ⟨⟨LA, SA, lc, sc, p0, (hk g p0 (hd g p0)).trans hr, a1, a2, a3.kept (fun x hx hl => hk x hx.1 hl) hs, b1, b2, b3.kept (fun x hx hl => hk x hx.1 hl) hs⟩, fun x hx => Nat.lt_of_lt_of_le (hd x hx) hs⟩
theorem BookR.below {w w' : World} {P : Nat → Prop} {g : Nat} {r : RB} (h : BookR w P g r) (hb : Below w.heap.size w w') : BookR w' P g r := h.kept (fun x _ hl => hb.block x hl) hb.size
theorem BookR.grew {w w' : World} {P X : Nat → Prop} {g : Nat} {r : RB} (h : BookR w P g r) (hg : Grew w w' X) (hx : ∀ x, X x → ¬ P x) : BookR w' P g r := h.kept (fun x hp hl => hg.block x hl (fun hX => hx x hX hp)) hg.size
/-- What it owned, and what was made since. -/
def plusP (P : Nat → Prop) (n m : Nat) : Nat → Prop := fun x => P x ∨ (n ≤ x ∧ x < m)
theorem plusP_dom {P : Nat → Prop} {n m : Nat} (h : ∀ x, P x → x < n) (hm : n ≤ m) : ∀ x, plusP P n m x → x < m := fun x hx => hx.elim (fun h1 => Nat.lt_of_lt_of_le (h x h1) hm) (·.2)
theorem BookP.imp {w : World} {P Q : Nat → Prop} {g k : Nat} {b : LB} (h : BookP w P g k b) (hq : ∀ x, P x → Q x) (hd : ∀ x, Q x → x < w.heap.size) : BookP w Q g k b := by
  obtain ⟨⟨h1, h2, p0, p1, p2, n1, n2, n3, hr, hst, hhl⟩, _⟩ := h
  exact ⟨⟨h1, h2, hq _ p0, hq _ p1, hq _ p2, n1, n2, n3, hr, hst, hhl.imp fun x hx _ => ⟨hq x hx.1, hx.2⟩⟩, hd⟩
theorem BookR.imp {w : World} {P Q : Nat → Prop} {g : Nat} {r : RB} (h : BookR w P g r) (hq : ∀ x, P x → Q x) (hd : ∀ x, Q x → x < w.heap.size) : BookR w Q g r := by
  obtain ⟨⟨LA, SA, lc, sc, p0, hr, a1, a2, a3, b1, b2, b3⟩, _⟩ := h
  exact ⟨⟨LA, SA, lc, sc, hq _ p0, hr, a1, a2, a3.imp (fun x hx _ => ⟨hq x hx.1, hx.2⟩), b1, b2, b3.imp (fun x hx _ => ⟨hq x hx.1, hx.2⟩)⟩, hd⟩
theorem BookP.plus {w : World} {P : Nat → Prop} {g k n : Nat} {b : LB} (h : BookP w P g k b) : BookP w (plusP P n w.heap.size) g k b := h.imp (fun _ hx => .inl hx) (fun x hx => hx.elim (h.dom x) (·.2))
theorem BookR.plus {w : World} {P : Nat → Prop} {g n : Nat} {r : RB} (h : BookR w P g r) : BookR w (plusP P n w.heap.size) g r := h.imp (fun _ hx => .inl hx) (fun x hx => hx.elim (h.dom x) (·.2))
theorem size_setCell' (w : World) (p : Addr) (u : Value) : (w.setCell p u).heap.size = w.heap.size := by simp
/-- A new list of stamps. -/
theorem BookR.putS {w w9 : World} {P : Nat → Prop} {g : Nat} {r : RB} (h : BookR w P g r) (hb : Below w.heap.size w w9) {T : TypeId} {A : Option Addr} {n c : Nat} {l : List (Int × Int)} (ho : Own (E := encI) w9 w.heap.size T (.slice A n c) l) (hn : l.length = n) :
    BookR (w9.setCell ⟨g, 2, none⟩ (.slice A n c)) (plusP P w.heap.size w9.heap.size) g ⟨r.own, r.L, l⟩ ∧ Grew w (w9.setCell ⟨g, 2, none⟩ (.slice A n c)) (fun x => x = g) := by
  have h9 := h.below hb
  have hd := h.dom
  obtain ⟨⟨LA, SA, lc, sc, p0, hr, a1, a2, a3, b1, b2, b3⟩, hd9⟩ := h9
  have hgl := hd g p0
  have hgr := gro_set1 w9 g 2 (.slice A n c)
  have hsz := size_setCell' w9 ⟨g, 2, none⟩ (.slice A n c)
  obtain ⟨A', c', e, k1, k2, -⟩ := ho.els
  simp only [Value.slice.injEq] at e
  obtain ⟨rfl, -, rfl⟩ := e
  have hq : ElsQ encI w9 (fun x => w.heap.size ≤ x) A l := ElsQ.of_own (by rw [← hn] at ho; exact ho) (fun b hb => hb)
  refine ⟨⟨⟨LA, A, lc, c, .inl p0, ?_, a1, a2, ?_, k1, k2, ?_⟩, fun x hx => ?_⟩, (Grew.of_below hb).trans (Grew.of_gro hgr rfl)⟩
  · rw [heap_setCell_same w9 g 2 _ _ _ hr, hn]; rfl
  · exact (a3.kept (fun x hx hl => heap_setCell_other w9 ⟨g, 2, none⟩ x _ (fun e => hx.2 e)) (by rw [hsz]; exact Nat.le_refl _)).imp fun x hx _ => ⟨.inl hx.1, hx.2⟩
  · exact (hq.kept (fun x hx hl => heap_setCell_other w9 ⟨g, 2, none⟩ x _ (fun e => by have e : x = g := e; omega)) (by rw [hsz]; exact Nat.le_refl _)).imp fun x hx hl => ⟨.inr ⟨hx, by rw [hsz] at hl; exact hl⟩, fun e => by omega⟩
  · rw [hsz]; exact plusP_dom hd hb.size x hx
/-- A new list of what is held. -/
theorem BookR.putL {w w9 : World} {P : Nat → Prop} {g : Nat} {r : RB} (h : BookR w P g r) (hb : Below w.heap.size w w9) {T : TypeId} {A : Option Addr} {n c : Nat} {l : List Hl} (ho : Own (E := encL) w9 w.heap.size T (.slice A n c) l) (hn : l.length = n) :
    BookR (w9.setCell ⟨g, 1, none⟩ (.slice A n c)) (plusP P w.heap.size w9.heap.size) g ⟨r.own, l, r.S⟩ ∧ Grew w (w9.setCell ⟨g, 1, none⟩ (.slice A n c)) (fun x => x = g) := by
  have h9 := h.below hb
  have hd := h.dom
  obtain ⟨⟨LA, SA, lc, sc, p0, hr, a1, a2, a3, b1, b2, b3⟩, hd9⟩ := h9
  have hgl := hd g p0
  have hgr := gro_set1 w9 g 1 (.slice A n c)
  have hsz := size_setCell' w9 ⟨g, 1, none⟩ (.slice A n c)
  obtain ⟨A', c', e, k1, k2, -⟩ := ho.els
  simp only [Value.slice.injEq] at e
  obtain ⟨rfl, -, rfl⟩ := e
  have hq : ElsQ encL w9 (fun x => w.heap.size ≤ x) A l := ElsQ.of_own (by rw [← hn] at ho; exact ho) (fun b hb => hb)
  refine ⟨⟨⟨A, SA, c, sc, .inl p0, ?_, k1, k2, ?_, b1, b2, ?_⟩, fun x hx => ?_⟩, (Grew.of_below hb).trans (Grew.of_gro hgr rfl)⟩
  · rw [heap_setCell_same w9 g 1 _ _ _ hr, hn]; rfl
  · exact (hq.kept (fun x hx hl => heap_setCell_other w9 ⟨g, 1, none⟩ x _ (fun e => by have e : x = g := e; omega)) (by rw [hsz]; exact Nat.le_refl _)).imp fun x hx hl => ⟨.inr ⟨hx, by rw [hsz] at hl; exact hl⟩, fun e => by omega⟩
  · exact (b3.kept (fun x hx hl => heap_setCell_other w9 ⟨g, 1, none⟩ x _ (fun e => hx.2 e)) (by rw [hsz]; exact Nat.le_refl _)).imp fun x hx _ => ⟨.inl hx.1, hx.2⟩
  · rw [hsz]; exact plusP_dom hd hb.size x hx
end Go.Proofs.Ytkimhdcngagmaaa.Sh
/-
  The program's ticks and the document's own, by contract.
-/
namespace Go.Proofs.Ytkimhdcngagmaaa.Sh
open Go Go.RowKit
set_option linter.unusedVariables false
set_option linter.unusedSimpArgs false
theorem lim_any (n a b : Int) (w : World) (hab : a ≤ b) :
    Calls Try.prog 43 #[.int .i64 n, .int .i64 a, .int .i64 b] w fun e w' => e = .returned (.int .i64 (cl n a b)) ∧ w = w' := by
  have HA := hid hab
  clear hab
  go_enter Try.func43, Try.ntmps43
  go_wp2
  all_goals
    go_ret
    refine ⟨?_, rfl⟩
    refine ret_int (?_ : _ = cl n a b)
    have := HA.out
    unfold cl
    split <;> (try split) <;> omega
theorem tick_any (n : Int) (w : World) :
    Calls Try.prog 37 #[.int .i64 n] w fun e w' => e = .returned (.int .i64 (tk n)) ∧ w = w' := by
  have H := hid (lim_any n 0 1099511627776 w (by omega))
  go_enter Try.func37, Try.ntmps37
  go_wp2_with fail
  refine H.out.mono ?_
  rintro er w1 ⟨rfl, rfl⟩
  go_wp2_with fail
  go_ret
  exact ⟨rfl, rfl⟩
theorem add_any (a b : Int) (w : World) :
    Calls Try.prog 29 #[.int .i64 a, .int .i64 b] w fun e w' => e = .returned (.int .i64 (addT a b)) ∧ w = w' := by
  have HA := hid (tick_any a w)
  have HB := hid (tick_any b w)
  have HC := hid (tick_any (tk a + tk b) w)
  have ba := tk_b a
  have bb := tk_b b
  unfold addT
  generalize tk a = x at *
  generalize tk b = y at *
  obtain ⟨x0, x1⟩ := ba
  obtain ⟨y0, y1⟩ := bb
  go_enter Try.func29, Try.ntmps29
  go_wp2_with fail
  refine HA.out.mono ?_
  rintro er w1 ⟨rfl, rfl⟩
  go_wp2_with fail
  refine HB.out.mono ?_
  rintro er w1 ⟨rfl, rfl⟩
  go_wp2_with fail
  refine HC.out.mono ?_
  rintro er w1 ⟨rfl, rfl⟩
  go_wp2_with fail
  go_ret
  exact ⟨rfl, rfl⟩
theorem over_any (a b : Int) (w : World) :
    Calls Try.prog 25 #[.int .i64 a, .int .i64 b] w fun e w' => e = .returned (.bool (decide (tk b ≤ tk a))) ∧ w = w' := by
  have HA := hid (tick_any a w)
  have HB := hid (tick_any b w)
  generalize tk a = x at *
  generalize tk b = y at *
  go_enter Try.func25, Try.ntmps25
  go_wp2_with fail
  refine HA.out.mono ?_
  rintro er w1 ⟨rfl, rfl⟩
  go_wp2_with fail
  refine HB.out.mono ?_
  rintro er w1 ⟨rfl, rfl⟩
  go_wp2_with fail
  go_ret
  exact ⟨rfl, rfl⟩
/-! ### the document's own -/
theorem refTick_any (n : Int) (w : World) :
    Calls Try.prog 38 #[.int .i64 n] w fun e w' => e = .returned (.int .i64 (tk n)) ∧ w = w' := by
  by_cases h0 : n < 0
  · have HE : Hid (tk n = 0) := hid (by unfold tk; rw [if_pos h0])
    go_enter Try.func38, Try.ntmps38
    go_wp2
    go_ret
    exact ⟨ret_int HE.out.symm, rfl⟩
  · by_cases h1 : 1099511627776 < n
    · have HE : Hid (tk n = 1099511627776) := hid (by unfold tk; rw [if_neg h0, if_pos h1])
      go_enter Try.func38, Try.ntmps38
      go_wp2
      go_ret
      exact ⟨ret_int HE.out.symm, rfl⟩
    · have HE : Hid (tk n = n) := hid (by unfold tk; rw [if_neg h0, if_neg h1])
      go_enter Try.func38, Try.ntmps38
      go_wp2
      go_ret
      exact ⟨ret_int HE.out.symm, rfl⟩
theorem refAdd_any (a b : Int) (w : World) :
    Calls Try.prog 31 #[.int .i64 a, .int .i64 b] w fun e w' => e = .returned (.int .i64 (addT a b)) ∧ w = w' := by
  have HA := hid (refTick_any a w)
  have HB := hid (refTick_any b w)
  have HC := hid (refTick_any (tk a + tk b) w)
  have ba := tk_b a
  have bb := tk_b b
  unfold addT
  generalize tk a = x at *
  generalize tk b = y at *
  obtain ⟨x0, x1⟩ := ba
  obtain ⟨y0, y1⟩ := bb
  go_enter Try.func31, Try.ntmps31
  go_wp2_with fail
  refine HA.out.mono ?_
  rintro er w1 ⟨rfl, rfl⟩
  go_wp2_with fail
  refine HB.out.mono ?_
  rintro er w1 ⟨rfl, rfl⟩
  go_wp2_with fail
  refine HC.out.mono ?_
  rintro er w1 ⟨rfl, rfl⟩
  go_wp2_with fail
  go_ret
  exact ⟨rfl, rfl⟩
theorem refOver_any (a b : Int) (w : World) :
    Calls Try.prog 26 #[.int .i64 a, .int .i64 b] w fun e w' => e = .returned (.bool (decide (tk b ≤ tk a))) ∧ w = w' := by
  have HA := hid (refTick_any a w)
  have HB := hid (refTick_any b w)
  have ba := tk_b a
  have bb := tk_b b
  generalize tk a = x at *
  generalize tk b = y at *
  by_cases h : y ≤ x
  · rw [decide_eq_true h]
    go_enter Try.func26, Try.ntmps26
    go_wp2_with fail
    refine HA.out.mono ?_
    rintro er w1 ⟨rfl, rfl⟩
    go_wp2_with fail
    refine HB.out.mono ?_
    rintro er w1 ⟨rfl, rfl⟩
    go_wp2_with fail
    go_ret
    exact ⟨rfl, rfl⟩
  · rw [decide_eq_false h]
    have hx : ¬ x = 1099511627776 := by omega
    have hx2 : (x == 1099511627776) = false := beq_eq_false_iff_ne.2 hx
    go_enter Try.func26, Try.ntmps26
    go_wp2_with fail
    refine HA.out.mono ?_
    rintro er w1 ⟨rfl, rfl⟩
    go_wp2_with fail
    refine HB.out.mono ?_
    rintro er w1 ⟨rfl, rfl⟩
    go_wp2_with fail
    refine HA.out.mono ?_
    rintro er w1 ⟨rfl, rfl⟩
    go_wp2_with fail
    go_ret
    exact ⟨congrArg (fun z => Ending.returned (.bool z)) (decide_eq_false (show ¬ y ≤ x by omega)), rfl⟩
end Go.Proofs.Ytkimhdcngagmaaa.Sh
/-
  The document's book: stamp, Hear, by contract.
-/
namespace Go.Proofs.Ytkimhdcngagmaaa.Sh
open Go Go.RowKit

set_option linter.unusedSimpArgs false
set_option linter.unusedVariables false
theorem stampR_at {S : List (Int × Int)} {d : Int} {k : Nat} {x : Int × Int} (h : ∀ y ∈ S.take k, y.1 ≠ d) (hx : S[k]? = some x) (he : x.1 = d) : stampR S d = x.2 := by
  have e : S = S.take k ++ x :: S.drop (k + 1) := by
    obtain ⟨hk, hx'⟩ := List.getElem?_eq_some_iff.1 hx
    rw [← hx', List.getElem_cons_drop, List.take_append_drop]
  unfold stampR
  rw [e, List.find?_append, List.find?_eq_none.2 (fun y hy => by simpa using h y hy), List.find?_cons_of_pos (by simpa using he)]
  rfl
theorem stampR_none {S : List (Int × Int)} {d : Int} (h : ∀ y ∈ S, y.1 ≠ d) : stampR S d = -1 := by
  unfold stampR
  rw [List.find?_eq_none.2 (fun y hy => by simpa using h y hy)]
set_option maxHeartbeats 4000000 in
theorem stamp_any {w : World} {P : Nat → Prop} {g : Nat} {r : RB} (h : BookR w P g r) (hm : r.S.length ≤ 1000000) (d : Int) :
    Calls Try.prog 30 #[.pointer (some ⟨g, 0, none⟩), .int .i64 d] w fun e w' => e = .returned (.int .i64 (stampR r.S d)) ∧ w = w' := by
  obtain ⟨o, L, S⟩ := r
  obtain ⟨⟨LA, SA, lc, sc, p0, hr, a1, a2, a3, b1, b2, b3⟩, hd⟩ := h
  simp only at hm hr b1 b3 ⊢
  have hc2 : w.cell? ⟨g, 2, none⟩ = some (.slice SA S.length sc) := by rw [cell_of_row w g 2 _ _ (0, 0) hr]; rfl
  obtain ⟨n, hn⟩ : ∃ n, S.length = n := ⟨_, rfl⟩
  rw [hn] at hc2 hm b1
  have HN := hid hn
  have HY := hid b3.els
  clear hr a1 a2 a3 hd b3 hn p0
  go_enter Try.func30, Try.ntmps30
  go_wp2_with fail
  go_loopw [5] (fun i wr => ∃ k : Nat, k ≤ n ∧ i = .int .i64 (k : Int) ∧ Hid (∀ y ∈ S.take k, y.1 ≠ d) ∧ wr = w) (fun i _ => n - (intOf i).toNat)
  case atStart => exact ⟨0, Nat.zero_le _, rfl, hid (by simp), rfl⟩
  case round =>
    obtain ⟨k, hk, rfl, HP, hw⟩ := hrel
    have hw2 : w = wr := hw.symm
    subst hw2
    clear hw
    have hk0 : (0 : Int) ≤ (k : Int) := Int.natCast_nonneg _
    by_cases hlt : k < n
    · obtain ⟨x, hx⟩ : ∃ x, S[k]? = some x := ⟨_, List.getElem?_eq_getElem (by rw [HN.out]; exact hlt)⟩
      obtain ⟨ad, aj, hA, -, ea, -, a0, a1⟩ := HY.out.get hx
      subst hA
      have ea : ad.add (k * 2) = aj := ea
      have c0 := a0 _ rfl
      have c1 := a1 1 _ (by omega) rfl
      have HX := hid hx
      obtain ⟨xd, xa⟩ := x
      simp only at c0 c1
      have hk1 : (k : Int) < (n : Int) := by omega
      clear hx a0 a1
      by_cases he : xd = d
      · subst he
        have HE : Hid (stampR S xd = xa) := hid (stampR_at HP.out HX.out rfl)
        go_wp2_with fail
        go_ret
        exact ⟨by rw [HE.out]; rfl, rfl⟩
      · have h1 : (xd == d) = false := beq_eq_false_iff_ne.2 he
        have HT : Hid (∀ y ∈ S.take (k + 1), y.1 ≠ d) := hid (by
          rw [take_snoc_of HX.out]
          intro y hy
          rcases List.mem_append.1 hy with h | h
          · exact HP.out y h
          · rw [List.mem_singleton.1 h]; exact he)
        go_wp2_with fail
        go_roundw
        case rel => exact ⟨k + 1, by omega, by go_num, HT, by first | rfl | trivial⟩
        case measure => simp [intOf]; omega
    · obtain rfl : k = n := by omega
      have HE : Hid (stampR S d = -1) := hid (stampR_none (by have := HP.out; rwa [List.take_of_length_le (by rw [HN.out]; exact Nat.le_refl _)] at this))
      go_wp2_with fail
      go_ret
      exact ⟨by rw [HE.out]; rfl, rfl⟩
end Go.Proofs.Ytkimhdcngagmaaa.Sh
