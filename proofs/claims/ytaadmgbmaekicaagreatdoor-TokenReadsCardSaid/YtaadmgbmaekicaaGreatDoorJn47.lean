/-
  A token being read: the cursor, the token's variable, the result's; the rows of its parts, kept by what turns other blocks.
-/
import Derived.Test.YtaadmgbmaekicaaGreatDoorJn46
import Derived.Test.YtaadmgbmaekicaaGreatDoorJn10
set_option linter.unusedVariables false
set_option linter.unusedSimpArgs false
namespace Go.Proofs.YtaadmgbmaekicaaGreatDoor.Sh
open Go Go.RowKit

set_option linter.unusedSimpArgs false
set_option linter.unusedVariables false
/-- Blocks from B on of type T are as they were. -/
def KeptT (w w' : World) (B : Nat) (T : TypeId) : Prop := ∀ b cs, B ≤ b → w.heap[b]? = some (.cells cs T (0, 0)) → w'.heap[b]? = w.heap[b]?
theorem KeptT.gro {w w' : World} {B g : Nat} (T : TypeId) (hg : w.grownBy w' (some g)) (hb : g < B) : KeptT w w' B T := fun b cs h1 h2 =>
  hg.block b (Array.getElem?_eq_some_iff.1 h2).1 (fun e => by injection e with e; omega)
theorem KeptT.below {w w' : World} (B : Nat) (T : TypeId) (h : Below w.heap.size w w') : KeptT w w' B T := fun b cs _ h2 => h.block b (Array.getElem?_eq_some_iff.1 h2).1
theorem KeptT.row {w w' : World} {g : Nat} {T T' : TypeId} {cs : Array Value} (B : Nat) (hr : w.heap[g]? = some (.cells cs T' (0, 0))) (hg : w.grownBy w' (some g)) (hT : T ≠ T') : KeptT w w' B T := fun b cs h1 h2 =>
  hg.block b (Array.getElem?_eq_some_iff.1 h2).1 (fun e => by
    injection e with e
    subst e
    rw [hr] at h2
    simp only [Option.some.injEq, Obj.cells.injEq] at h2
    exact hT h2.2.1.symm)
theorem Own.typed {α : Type} {E : Enc α} {w : World} {B g : Nat} {T : TypeId} {v : Value} {l : List α} (h : Own (E := E) w B T v l) (hv : v.ownBlock = some g) : ∃ cs, w.heap[g]? = some (.cells cs T (0, 0)) := by
  rcases h.2 with ⟨h0, _⟩ | ⟨g', cap, cur, h0, _, hg, _⟩
  · subst h0
    cases hv
  · subst h0
    simp only [Value.ownBlock] at hv
    first
      | (injection hv with hv; subst hv; exact ⟨_, hg⟩)
      | (split at hv <;> simp_all)
theorem KeptT.own {α : Type} {E : Enc α} {w w' : World} {B0 : Nat} {T T' : TypeId} {v : Value} {l : List α} (B : Nat) (h : Own (E := E) w B0 T' v l) (hg : w.grownBy w' v.ownBlock) (hT : T ≠ T') : KeptT w w' B T := fun b cs h1 h2 =>
  hg.block b (Array.getElem?_eq_some_iff.1 h2).1 (fun e => by
    obtain ⟨cs', hc⟩ := h.typed e.symm
    rw [hc] at h2
    simp only [Option.some.injEq, Obj.cells.injEq] at h2
    exact hT h2.2.1.symm)
theorem KeptT.trans {w w' w2 : World} {B : Nat} {T : TypeId} (h : KeptT w w' B T) (k : KeptT w' w2 B T) : KeptT w w2 B T := fun b cs h1 h2 => by
  have e := h b cs h1 h2
  exact (k b cs h1 (e.trans h2)).trans e
theorem RowN.keptT {α : Type} {E : Enc α} {T : TypeId} {w w' : World} {B U n c : Nat} {A : Option Addr} {l : List α} (h : RowN E T w B U A n c l) (k : KeptT w w' B T) : RowN E T w' B U A n c l :=
  ⟨h.len, h.le, h.max, fun h0 => by
    obtain ⟨g, tl, e, h1, h2, row⟩ := h.row h0
    exact ⟨g, tl, e, h1, h2, (k g _ h1 row).trans row⟩⟩
/-- A row somewhere from B on. -/
def RowX {α : Type} (E : Enc α) (T : TypeId) (w : World) (B : Nat) (A : Option Addr) (n c : Nat) (l : List α) : Prop := ∃ U, RowN E T w B U A n c l
theorem RowX.keptT {α : Type} {E : Enc α} {T : TypeId} {w w' : World} {B n c : Nat} {A : Option Addr} {l : List α} (h : RowX E T w B A n c l) (k : KeptT w w' B T) : RowX E T w' B A n c l := by
  obtain ⟨U, h⟩ := h
  exact ⟨U, h.keptT k⟩
theorem RowX.own {α : Type} {E : Enc α} {T : TypeId} {w : World} {B B' n c : Nat} {A : Option Addr} {l : List α} (h : Own (E := E) w B' T (.slice A n c) l) (hl : l.length = n) (hb : B ≤ B') : RowX E T w B A n c l :=
  ⟨_, (RowN.of_own h hl).wide hb (Nat.le_refl _)⟩
theorem RowX.elsQ {α : Type} {E : Enc α} {T : TypeId} {w : World} {B n c : Nat} {A : Option Addr} {l : List α} {Q : Nat → Prop} (h : RowX E T w B A n c l) (hQ : ∀ b, B ≤ b → Q b) : ElsQ E w Q A l := by
  obtain ⟨U, h⟩ := h
  exact h.elsQ (fun b hb _ => hQ b hb)
theorem RowX.lens {α : Type} {E : Enc α} {T : TypeId} {w : World} {B n c : Nat} {A : Option Addr} {l : List α} (h : RowX E T w B A n c l) : l.length = n ∧ n ≤ c ∧ c ≤ 9223372036854775807 := by
  obtain ⟨U, h⟩ := h
  exact ⟨h.len, h.le, h.max⟩
theorem RowX.nil {α : Type} {E : Enc α} {T : TypeId} {w : World} {B : Nat} {A : Option Addr} : RowX E T w B A 0 0 [] := ⟨0, RowN.nil⟩
/-- What the caveats' cells say, each with roles of its own. -/
def CvR (w : World) (B : Nat) (hs : List CH) (cs : List Cav) : Prop :=
  ∀ (i : Nat) (h : CH) (c : Cav), hs[i]? = some h → cs[i]? = some c → (h.kind = c.kind ∧ h.til = c.til ∧ h.aud = c.aud) ∧ RowX encR 69 w B h.rA h.rn h.rc c.roles
theorem CvR.nil (w : World) (B : Nat) : CvR w B [] [] := fun i h c hi => by simp at hi
theorem CvR.keptT {w w' : World} {B : Nat} {hs : List CH} {cs : List Cav} (h : CvR w B hs cs) (k : KeptT w w' B 69) : CvR w' B hs cs := fun i x c hi hc => ⟨(h i x c hi hc).1, (h i x c hi hc).2.keptT k⟩
theorem CvR.snoc {w : World} {B : Nat} {hs : List CH} {cs : List Cav} (h : CvR w B hs cs) (hl : hs.length = cs.length) {x : CH} {c : Cav} (h1 : x.kind = c.kind ∧ x.til = c.til ∧ x.aud = c.aud) (h2 : RowX encR 69 w B x.rA x.rn x.rc c.roles) : CvR w B (hs ++ [x]) (cs ++ [c]) := fun i y d hi hd => by
  by_cases hlt : i < hs.length
  · rw [List.getElem?_append_left hlt] at hi
    rw [List.getElem?_append_left (by omega)] at hd
    exact h i y d hi hd
  · rw [List.getElem?_append_right (by omega)] at hi
    rw [List.getElem?_append_right (by omega), ← hl] at hd
    have e1 := (List.getElem?_eq_some_iff.1 hi).1
    simp only [List.length_singleton] at e1
    rw [show i - hs.length = 0 by omega] at hi hd
    simp only [List.getElem?_cons_zero, Option.some.injEq] at hi hd
    subst hi
    subst hd
    exact ⟨h1, h2⟩
theorem CvR.cavs {w : World} {B n c : Nat} {Q : Nat → Prop} {A : Option Addr} {hs : List CH} {cs : List Cav} (h : CvR w B hs cs) (hl : hs.length = cs.length) (hr : RowX encC 51 w B A n c hs) (hQ : ∀ b, B ≤ b → Q b) : CavsQ w Q A cs :=
  ⟨hs, hl, hr.elsQ hQ, fun i x d hi hd => by
    obtain ⟨⟨k1, k2, k3⟩, r⟩ := h i x d hi hd
    exact ⟨k1, k2, k3, r.lens.1, r.lens.2.1, r.lens.2.2, r.elsQ hQ⟩⟩
/-- Rows from B on are as they were. -/
structure Kp (w w' : World) (B : Nat) : Prop where
  r : KeptT w w' B 69
  i : KeptT w w' B 65
  c : KeptT w w' B 51
theorem Kp.gro {w w' : World} {B g : Nat} (hg : w.grownBy w' (some g)) (hb : g < B) : Kp w w' B := ⟨.gro _ hg hb, .gro _ hg hb, .gro _ hg hb⟩
theorem Kp.below {w w' : World} (B : Nat) (h : Below w.heap.size w w') : Kp w w' B := ⟨.below _ _ h, .below _ _ h, .below _ _ h⟩
theorem Kp.trans {w w' w2 : World} {B : Nat} (h : Kp w w' B) (k : Kp w' w2 B) : Kp w w2 B := ⟨h.r.trans k.r, h.i.trans k.i, h.c.trans k.c⟩
/-- A token being read. -/
structure RdT (T : TypeId) (w0 w : World) (lo hi g : Nat) (A : Option Addr) (n c : Nat) (l : List UInt8) (p : Nat) (e : Int) (th : TH) : Prop where
  cu : Cu T w lo hi g A n c l p e
  row : ThAt w (w0.heap.size + 1) th
  res : ThAt w w0.heap.size TH.zero
  gro : w0.grownBy w (some g)
  lt : g < w0.heap.size
theorem ThAt.gro {w w' : World} {X g : Nat} {h : TH} (a : ThAt w X h) (hg : w.grownBy w' (some g)) (hne : X ≠ g) : ThAt w' X h := (hg.block X a.lt (fun e => by injection e with e; exact hne e)).trans a
section
variable {T : TypeId} {w0 w w' : World} {lo hi g n c p p' : Nat} {A : Option Addr} {l : List UInt8} {e e' : Int} {th th' : TH} {er : Ending} {v : Value}
theorem RdT.stepG (h : RdT T w0 w lo hi g A n c l p e th) (hc : Cu T w' lo hi g A n c l p' e') (hg : w.grownBy w' (some g)) : RdT T w0 w' lo hi g A n c l p' e' th :=
  have := h.lt
  ⟨hc, h.row.gro hg (by omega), h.res.gro hg (by omega), gro_trans h.gro hg, h.lt⟩
theorem RdT.step (h : RdT T w0 w lo hi g A n c l p e th) (s : StepC T w w' lo hi g A n c l er v p' e') : er = .returned v ∧ RdT T w0 w' lo hi g A n c l p' e' th ∧ Kp w w' (w0.heap.size + 2) := by
  obtain ⟨rfl, X1, G1⟩ := s
  have := h.lt
  exact ⟨rfl, h.stepG X1 G1, .gro G1 (by omega)⟩
theorem kp_set (w0 w : World) (k : Nat) (u : Value) : Kp w (w.setCell ⟨w0.heap.size + 1, k, none⟩ u) (w0.heap.size + 2) := .gro (grown_set w (w0.heap.size + 1) k u) (by omega)
theorem RdT.below (h : RdT T w0 w lo hi g A n c l p e th) (b : Below w.heap.size w w') : RdT T w0 w' lo hi g A n c l p e th :=
  ⟨h.cu.below b h.cu.lt, h.row.below b, h.res.below b, gro_below h.gro b, h.lt⟩
theorem RdT.set (h : RdT T w0 w lo hi g A n c l p e th) (k : Nat) (u : Value) (hy : ThAt (w.setCell ⟨w0.heap.size + 1, k, none⟩ u) (w0.heap.size + 1) th') : RdT T w0 (w.setCell ⟨w0.heap.size + 1, k, none⟩ u) lo hi g A n c l p e th' := by
  have hl := h.lt
  have hg := grown_set w (w0.heap.size + 1) k u
  exact ⟨h.cu.other hg (by omega) (.inr (by have := h.cu.hi; omega)), hy, h.res.gro hg (by omega), gro_new h.gro hg (by omega), hl⟩
theorem RdT.far {b : Nat} (h : RdT T w0 w lo hi g A n c l p e th) (hg : w.grownBy w' (some b)) (hb : w0.heap.size + 2 ≤ b) : RdT T w0 w' lo hi g A n c l p e th := by
  have hl := h.lt
  exact ⟨h.cu.other hg (by omega) (.inr (by have := h.cu.hi; omega)), h.row.gro hg (by omega), h.res.gro hg (by omega), gro_new h.gro hg (by omega), hl⟩
theorem RdT.own (h : RdT T w0 w lo hi g A n c l p e th) (hg : w.grownBy w' v.ownBlock) (hb : ∀ b, v.ownBlock = some b → w0.heap.size + 2 ≤ b) : RdT T w0 w' lo hi g A n c l p e th := by
  cases hv : v.ownBlock with
  | none =>
    rw [hv] at hg
    exact h.far (b := w0.heap.size + 2) (hg.but _) (Nat.le_refl _)
  | some b =>
    rw [hv] at hg
    exact h.far hg (hb b hv)
theorem RdT.end_ (h : RdT T w0 w lo hi g A n c l p e th) (hg : w.grownBy w' (some w0.heap.size)) : Cu T w' lo hi g A n c l p e ∧ w0.grownBy w' (some g) := by
  have hl := h.lt
  exact ⟨h.cu.other hg (by omega) (.inr (by have := h.cu.hi; omega)), gro_new h.gro hg (Nat.le_refl _)⟩
theorem RdT.size (h : RdT T w0 w lo hi g A n c l p e th) : w0.heap.size + 2 ≤ w.heap.size := h.row.lt
end
section
variable {w : World} {g : Nat} {h : TH}
theorem ThAt.set0 (a : ThAt w g h) (v : Int) : ThAt (w.setCell ⟨g, 0, none⟩ (.int .i64 v)) g { h with d := v } := heap_setCell_same w g 0 _ _ _ a
theorem ThAt.set1 (a : ThAt w g h) (v : Int) : ThAt (w.setCell ⟨g, 1, none⟩ (.int .i64 v)) g { h with e := v } := heap_setCell_same w g 1 _ _ _ a
theorem ThAt.set2 (a : ThAt w g h) (v : Int) : ThAt (w.setCell ⟨g, 2, none⟩ (.int .i64 v)) g { h with n := v } := heap_setCell_same w g 2 _ _ _ a
theorem ThAt.set3 (a : ThAt w g h) (v : ByteArray) : ThAt (w.setCell ⟨g, 3, none⟩ (.string v)) g { h with who := v } := heap_setCell_same w g 3 _ _ _ a
theorem ThAt.set4 (a : ThAt w g h) (A : Option Addr) (n c : Nat) : ThAt (w.setCell ⟨g, 4, none⟩ (.slice A n c)) g { h with rA := A, rn := n, rc := c } := heap_setCell_same w g 4 _ _ _ a
theorem ThAt.set5 (a : ThAt w g h) (v : Int) : ThAt (w.setCell ⟨g, 5, none⟩ (.int .i64 v)) g { h with til := v } := heap_setCell_same w g 5 _ _ _ a
theorem ThAt.set6 (a : ThAt w g h) (A : Option Addr) (n c : Nat) : ThAt (w.setCell ⟨g, 6, none⟩ (.slice A n c)) g { h with sA := A, sn := n, sc := c } := heap_setCell_same w g 6 _ _ _ a
theorem ThAt.set7 (a : ThAt w g h) (A : Option Addr) (n c : Nat) : ThAt (w.setCell ⟨g, 7, none⟩ (.slice A n c)) g { h with cA := A, cn := n, cc := c } := heap_setCell_same w g 7 _ _ _ a
theorem ThAt.set8 (a : ThAt w g h) (A : Option Addr) (n c : Nat) : ThAt (w.setCell ⟨g, 8, none⟩ (.slice A n c)) g { h with tA := A, tn := n, tc := c } := heap_setCell_same w g 8 _ _ _ a
end
section
variable {w : World} {g : Nat} {h : CH}
theorem ChAt.set0 (a : ChAt w g h) (v : Int) : ChAt (w.setCell ⟨g, 0, none⟩ (.int .i64 v)) g { h with kind := v } := heap_setCell_same w g 0 _ _ _ a
theorem ChAt.set1 (a : ChAt w g h) (A : Option Addr) (n c : Nat) : ChAt (w.setCell ⟨g, 1, none⟩ (.slice A n c)) g { h with rA := A, rn := n, rc := c } := heap_setCell_same w g 1 _ _ _ a
theorem ChAt.set2 (a : ChAt w g h) (v : Int) : ChAt (w.setCell ⟨g, 2, none⟩ (.int .i64 v)) g { h with til := v } := heap_setCell_same w g 2 _ _ _ a
theorem ChAt.set3 (a : ChAt w g h) (v : ByteArray) : ChAt (w.setCell ⟨g, 3, none⟩ (.string v)) g { h with aud := v } := heap_setCell_same w g 3 _ _ _ a
theorem ChAt.gro {w' : World} {b : Nat} (a : ChAt w g h) (hg : w.grownBy w' (some b)) (hne : g ≠ b) : ChAt w' g h := (hg.block g a.lt (fun e => by injection e with e; exact hne e)).trans a
end
theorem BytQ.of_byt {w : World} {Q : Nat → Prop} {ad : Addr} {l : List UInt8} (h : Byt w w.heap.size (some ad) l) (hq : Q ad.block) : BytQ w Q (some ad) l := fun hn => by
  obtain ⟨a, e, hb, hc⟩ := h hn
  injection e with e
  subst e
  exact ⟨_, rfl, hq, hb, hc⟩
/-- The token that was read, of its rows. -/
theorem tok_rows {w : World} {B : Nat} {Q : Nat → Prop} (hQ : ∀ b, B ≤ b → Q b) {d ep m til : Int} {who : ByteArray} {rA sA cA tA : Option Addr} {rn rc sn sc cn cc tn tc : Nat} {rs : List Ro} {ss : List (Int × Int)} {cs : List Cav} {tg : List UInt8} {hs : List CH}
    (R : RowX encR 69 w B rA rn rc rs) (S : RowX encI 65 w B sA sn sc ss) (C : RowX encC 51 w B cA cn cc hs) (V : CvR w B hs cs) (hl : hs.length = cs.length)
    (tl : tg.length = tn) (t1 : tn ≤ tc) (t2 : tc ≤ 9223372036854775807) (te : BytQ w Q tA tg) :
    TokAt w Q ⟨d, ep, m, who, rA, rn, rc, til, sA, sn, sc, cA, cn, cc, tA, tn, tc⟩ ⟨d, ep, m, who, rs, til, ss, cs, tg⟩ :=
  ⟨rfl, rfl, rfl, rfl, rfl, R.lens.1, R.lens.2.1, R.lens.2.2, R.elsQ hQ, S.lens.1, S.lens.2.1, S.lens.2.2, S.elsQ hQ, by rw [← hl]; exact C.lens.1, C.lens.2.1, C.lens.2.2, V.cavs hl C hQ, tl, t1, t2, te⟩
end Go.Proofs.YtaadmgbmaekicaaGreatDoor.Sh
