/-
  The program's tape in memory.
-/
import Derived.Test.YtdigfbgjefffiaaTpRun
import Derived.Test.YtdigfbgjefffiaaTpSide
import Derived.Test.YtdigfbgjefffiaaTpSet
import Derived.Test.YtdigfbgjefffiaaTpRefB
namespace Go.Proofs.Ytdigfbgjefffiaa.Sh
open Go Go.RowKit

set_option linter.unusedSimpArgs false
set_option linter.unusedVariables false
/-- A run with where its bytes lie. -/
abbrev Ru := Rn × Option Addr × Nat
def encR : Enc Ru := ⟨3, fun x => [.int .i64 x.1.sd, .int .i64 (x.1.kp : Int), .slice x.2.1 x.1.dt.length x.2.2], by omega, fun _ => rfl, fun x u hu => by
  simp only [List.mem_cons, List.not_mem_nil, or_false] at hu
  rcases hu with rfl | rfl | rfl <;> rfl⟩
theorem slRu : SlN Try.prog 52 61 3 40 := by
  obtain ⟨i0, hi0, hz0, hz1, hz2⟩ := info_parts (P := Try.prog) (e := 61) (z := .agg #[.int .i64 0, .int .i64 0, .slice none 0 0]) (size := 3) (bytes := 40) (by kernel_rfl)
  exact ⟨Try.underlying52, ⟨i0, _, hi0, hz0, hz1, hz2, rfl⟩, by omega⟩
/-- A slice's header. -/
structure Hd where
  A : Option Addr
  n : Nat
  c : Nat
def Hd.v (h : Hd) : Value := .slice h.A h.n h.c
/-- The cells of the program's tape. -/
def rowT (V0 V1 U0 U1 : Hd) (UA : Option Addr) (un uc : Nat) (ct : Int) (bn : Bool) (lf : Int) : Obj :=
  .cells #[.slice V0.A V0.n V0.c, .slice V1.A V1.n V1.c, .slice U0.A U0.n U0.c, .slice U1.A U1.n U1.c, .slice UA un uc, .int .i64 ct, .bool bn, .int .i64 lf] 54 (0, 0)
/-- One side: what can be read, what is synchronized; in blocks Q. -/
structure SidE (w : World) (Q : Nat → Prop) (V U : Hd) (a b : List UInt8) : Prop where
  v : SdE w Q V.A V.n V.c a
  u : SdE w Q U.A U.n U.c b
  f : Fre V.A V.n V.c U.A U.n
/-- The program's tape at block q; P are its blocks, κ tells what each is for: 0 and 1 the sides, 2 the runs' bytes, 3 the runs, 4 itself. -/
structure TapF (w : World) (P : Nat → Prop) (κ : Nat → Nat) (q : Nat) (V0 V1 U0 U1 : Hd) (UA : Option Addr) (un uc : Nat) (a0 a1 b0 b1 : List UInt8) (L : List Ru) (ct : Int) (bn : Bool) (lf : Int) : Prop where
  pq : P q ∧ κ q = 4
  row : w.heap[q]? = some (rowT V0 V1 U0 U1 UA un uc ct bn lf)
  s0 : SidE w (fun g => P g ∧ κ g = 0) V0 U0 a0 b0
  s1 : SidE w (fun g => P g ∧ κ g = 1) V1 U1 a1 b1
  own : Own (E := encR) w 0 61 (.slice UA un uc) L
  ul : L.length = un
  ob : ∀ g, (Value.slice UA un uc).ownBlock = some g → P g ∧ κ g = 3
  dat : ∀ x ∈ L, x.1.dt.length ≤ x.2.2 ∧ x.2.2 ≤ 9223372036854775807 ∧ BytQ w (fun g => P g ∧ κ g = 2) x.2.1 x.1.dt
  dom : ∀ x, P x → x < w.heap.size
section
variable {w w' : World} {P Q X : Nat → Prop} {κ κ' : Nat → Nat} {q un uc : Nat} {V0 V1 U0 U1 V V' U : Hd} {UA : Option Addr} {a0 a1 b0 b1 a b : List UInt8} {L : List Ru} {ct lf : Int} {bn : Bool}
theorem SidE.kept (h : SidE w X V U a b) (hk : ∀ x, X x → x < w.heap.size → w'.heap[x]? = w.heap[x]?) : SidE w' X V U a b := ⟨h.v.kept hk, h.u.kept hk, h.f⟩
theorem SidE.imp (h : SidE w X V U a b) (hk : ∀ x, X x → x < w.heap.size → Q x) : SidE w Q V U a b := ⟨h.v.imp hk, h.u.imp hk, h.f⟩
theorem TapF.kept (e : TapF w P κ q V0 V1 U0 U1 UA un uc a0 a1 b0 b1 L ct bn lf) (hk : ∀ x, P x → x < w.heap.size → w'.heap[x]? = w.heap[x]?) (hs : w.heap.size ≤ w'.heap.size) : TapF w' P κ q V0 V1 U0 U1 UA un uc a0 a1 b0 b1 L ct bn lf :=
  ⟨e.pq, (hk q e.pq.1 (e.dom q e.pq.1)).trans e.row, e.s0.kept (fun x hx hl => hk x hx.1 hl), e.s1.kept (fun x hx hl => hk x hx.1 hl), e.own.kept (fun g hg => hk g (e.ob g hg).1 (e.dom g (e.ob g hg).1)), e.ul, e.ob,
    fun x hx => ⟨(e.dat x hx).1, (e.dat x hx).2.1, (e.dat x hx).2.2.kept (fun g hg hl => hk g hg.1 hl) hs⟩, fun x hx => Nat.lt_of_lt_of_le (e.dom x hx) hs⟩
theorem TapF.below (e : TapF w P κ q V0 V1 U0 U1 UA un uc a0 a1 b0 b1 L ct bn lf) (hb : Below w.heap.size w w') : TapF w' P κ q V0 V1 U0 U1 UA un uc a0 a1 b0 b1 L ct bn lf := e.kept (fun x _ hl => hb.block x hl) hb.size
/-- More blocks, or another word of what they are for, where it is not used. -/
theorem TapF.imp (e : TapF w P κ q V0 V1 U0 U1 UA un uc a0 a1 b0 b1 L ct bn lf) (hq : ∀ x, P x → Q x ∧ κ' x = κ x) (hd : ∀ x, Q x → x < w.heap.size) : TapF w Q κ' q V0 V1 U0 U1 UA un uc a0 a1 b0 b1 L ct bn lf := by
  have h : ∀ k x, (P x ∧ κ x = k) → Q x ∧ κ' x = k := fun k x hx => ⟨(hq x hx.1).1, (hq x hx.1).2.trans hx.2⟩
  exact ⟨h 4 q e.pq, e.row, e.s0.imp (fun x hx _ => h 0 x hx), e.s1.imp (fun x hx _ => h 1 x hx), e.own, e.ul, fun g hg => h 3 g (e.ob g hg), fun x hx => ⟨(e.dat x hx).1, (e.dat x hx).2.1, (e.dat x hx).2.2.imp (fun g hg _ => h 2 g hg)⟩, hd⟩
theorem TapF.cells (e : TapF w P κ q V0 V1 U0 U1 UA un uc a0 a1 b0 b1 L ct bn lf) : ∀ W, Below w.heap.size w W → (W.cell? ⟨q, 0, none⟩ = some (.slice V0.A V0.n V0.c) ∧ W.cell? ⟨q, 1, none⟩ = some (.slice V1.A V1.n V1.c) ∧ W.cell? ⟨q, 2, none⟩ = some (.slice U0.A U0.n U0.c) ∧ W.cell? ⟨q, 3, none⟩ = some (.slice U1.A U1.n U1.c)) ∧
    (W.cell? ⟨q, 4, none⟩ = some (.slice UA un uc) ∧ W.cell? ⟨q, 5, none⟩ = some (.int .i64 ct) ∧ W.cell? ⟨q, 6, none⟩ = some (.bool bn) ∧ W.cell? ⟨q, 7, none⟩ = some (.int .i64 lf)) ∧ ∀ j, W.frozen? ⟨q, j, none⟩ = false := fun W hW => by
  have h := (e.below hW).row
  unfold rowT at h
  refine ⟨⟨?_, ?_, ?_, ?_⟩, ⟨?_, ?_, ?_, ?_⟩, fun j => frozen_of_row W q j _ _ h⟩
  · rw [cell_of_row W q 0 _ _ (0, 0) h]; rfl
  · rw [cell_of_row W q 1 _ _ (0, 0) h]; rfl
  · rw [cell_of_row W q 2 _ _ (0, 0) h]; rfl
  · rw [cell_of_row W q 3 _ _ (0, 0) h]; rfl
  · rw [cell_of_row W q 4 _ _ (0, 0) h]; rfl
  · rw [cell_of_row W q 5 _ _ (0, 0) h]; rfl
  · rw [cell_of_row W q 6 _ _ (0, 0) h]; rfl
  · rw [cell_of_row W q 7 _ _ (0, 0) h]; rfl
/-- Its own row is written over: what the cells say is said elsewhere. -/
theorem TapF.rerow {V0' V1' U0' U1' : Hd} {UA' : Option Addr} {un' uc' : Nat} {L' : List Ru} {a0' a1' b0' b1' : List UInt8} {ct' lf' : Int} {bn' : Bool} (e : TapF w P κ q V0 V1 U0 U1 UA un uc a0 a1 b0 b1 L ct bn lf) (hg : w.grownBy w' (some q)) (hsz : w'.heap.size = w.heap.size) (hr : w'.heap[q]? = some (rowT V0' V1' U0' U1' UA' un' uc' ct' bn' lf'))
    (h0 : SidE w (fun g => P g ∧ κ g = 0) V0' U0' a0' b0') (h1 : SidE w (fun g => P g ∧ κ g = 1) V1' U1' a1' b1') (ho : Own (E := encR) w 0 61 (.slice UA' un' uc') L') (hn : L'.length = un') (hob : ∀ g, (Value.slice UA' un' uc').ownBlock = some g → P g ∧ κ g = 3)
    (hd : ∀ x ∈ L', x.1.dt.length ≤ x.2.2 ∧ x.2.2 ≤ 9223372036854775807 ∧ BytQ w (fun g => P g ∧ κ g = 2) x.2.1 x.1.dt) : TapF w' P κ q V0' V1' U0' U1' UA' un' uc' a0' a1' b0' b1' L' ct' bn' lf' := by
  have hne : ∀ x k, (P x ∧ κ x = k) → k ≠ 4 → w'.heap[x]? = w.heap[x]? := fun x k hx hk => hg.block x (e.dom x hx.1) (fun h => by
    injection h with h
    subst h
    exact hk (hx.2.symm.trans e.pq.2))
  exact ⟨e.pq, hr, h0.kept (fun x hx _ => hne x 0 hx (by omega)), h1.kept (fun x hx _ => hne x 1 hx (by omega)), ho.kept (fun g h => hne g 3 (hob g h) (by omega)), hn, hob,
    fun x hx => ⟨(hd x hx).1, (hd x hx).2.1, (hd x hx).2.2.kept (fun g h _ => hne g 2 h (by omega)) (by omega)⟩, fun x hx => by rw [hsz]; exact e.dom x hx⟩
theorem TapF.grew_set (e : TapF w P κ q V0 V1 U0 U1 UA un uc a0 a1 b0 b1 L ct bn lf) (j : Nat) (u : Value) : Grew w (w.setCell ⟨q, j, none⟩ u) P := Grew.of_gro (gro_set1 w q j u) e.pq.1
theorem TapF.setLf (e : TapF w P κ q V0 V1 U0 U1 UA un uc a0 a1 b0 b1 L ct bn lf) (lf' : Int) : TapF (w.setCell ⟨q, 7, none⟩ (.int .i64 lf')) P κ q V0 V1 U0 U1 UA un uc a0 a1 b0 b1 L ct bn lf' :=
  e.rerow (gro_set1 w q 7 _) (size_setQ _ _ _) (by rw [heap_setCell_same w q 7 _ _ _ e.row]; rfl) e.s0 e.s1 e.own e.ul e.ob e.dat
theorem TapF.setBn (e : TapF w P κ q V0 V1 U0 U1 UA un uc a0 a1 b0 b1 L ct bn lf) (bn' : Bool) : TapF (w.setCell ⟨q, 6, none⟩ (.bool bn')) P κ q V0 V1 U0 U1 UA un uc a0 a1 b0 b1 L ct bn' lf :=
  e.rerow (gro_set1 w q 6 _) (size_setQ _ _ _) (by rw [heap_setCell_same w q 6 _ _ _ e.row]; rfl) e.s0 e.s1 e.own e.ul e.ob e.dat
theorem TapF.setCt (e : TapF w P κ q V0 V1 U0 U1 UA un uc a0 a1 b0 b1 L ct bn lf) (ct' : Int) : TapF (w.setCell ⟨q, 5, none⟩ (.int .i64 ct')) P κ q V0 V1 U0 U1 UA un uc a0 a1 b0 b1 L ct' bn lf :=
  e.rerow (gro_set1 w q 5 _) (size_setQ _ _ _) (by rw [heap_setCell_same w q 5 _ _ _ e.row]; rfl) e.s0 e.s1 e.own e.ul e.ob e.dat
/-- No units. -/
theorem TapF.setNil (e : TapF w P κ q V0 V1 U0 U1 UA un uc a0 a1 b0 b1 L ct bn lf) : TapF (w.setCell ⟨q, 4, none⟩ (.slice none 0 0)) P κ q V0 V1 U0 U1 none 0 0 a0 a1 b0 b1 [] ct bn lf :=
  e.rerow (gro_set1 w q 4 _) (size_setQ _ _ _) (by rw [heap_setCell_same w q 4 _ _ _ e.row]; rfl) e.s0 e.s1 (Own.nil _ _ _) rfl (fun g h => by cases h) (fun x h => by cases h)
theorem SidE.sync (h : SidE w X V U a b) : SidE w X V V a a := ⟨h.v, h.v, Fre.self⟩
theorem SidE.back (h : SidE w X V U a b) : SidE w X U U b b := ⟨h.u, h.u, Fre.self⟩
end
end Go.Proofs.Ytdigfbgjefffiaa.Sh
