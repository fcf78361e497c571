/-
  Proofs as trees; what of them is correct; what follows. Nothing of the program's own text.
-/
import Derived.Test.YtfbapbpggicfbaaGreatDoorJz9
set_option linter.unusedVariables false
set_option linter.unusedSimpArgs false
namespace Go.Proofs.YtfbapbpggicfbaaGreatDoor.Sh
open Go Go.RowKit

set_option linter.unusedVariables false
set_option linter.unusedSimpArgs false
/-- A proof, with the place and the room of its parts. -/
inductive PT where
  | mk (o n x : ByteArray) (d q : Int) (A : Option Addr) (c : Nat) (ps : List PT) : PT
def PT.o : PT → ByteArray | .mk o _ _ _ _ _ _ _ => o
def PT.n : PT → ByteArray | .mk _ n _ _ _ _ _ _ => n
def PT.x : PT → ByteArray | .mk _ _ x _ _ _ _ _ => x
def PT.d : PT → Int | .mk _ _ _ d _ _ _ _ => d
def PT.q : PT → Int | .mk _ _ _ _ q _ _ _ => q
def PT.ps : PT → List PT | .mk _ _ _ _ _ _ _ ps => ps
/-- Its pair. -/
def PT.pr (p : PT) : Pr := ((p.o, p.n), p.x)
def PT.cells : PT → List Value | .mk o n x d q A c ps => [.string o, .string n, .string x, .int .i64 d, .int .i64 q, .slice A ps.length c]
def encT : Enc PT := ⟨6, PT.cells, by omega, fun ⟨_, _, _, _, _, _, _, _⟩ => rfl, fun ⟨o, n, x, d, q, A, c, ps⟩ u hu => by simp [PT.cells] at hu; rcases hu with rfl | rfl | rfl | rfl | rfl | rfl <;> rfl⟩
theorem PT.ind {P : PT → Prop} (h : ∀ o n x d q A c ps, (∀ p ∈ ps, P p) → P (.mk o n x d q A c ps)) (p : PT) : P p :=
  PT.rec (motive_1 := P) (motive_2 := fun l => ∀ p ∈ l, P p) (fun o n x d q A c ps ih => h o n x d q A c ps ih) (by simp) (fun a t ha ht p hp => by
    rcases List.mem_cons.1 hp with e | e
    · rw [e]; exact ha
    · exact ht p e) p
noncomputable def PT.fold {β : Type} (f : ByteArray → ByteArray → ByteArray → Int → Int → List β → β) (p : PT) : β :=
  PT.rec (motive_1 := fun _ => β) (motive_2 := fun _ => List β) (fun o n x d q _ _ _ r => f o n x d q r) [] (fun _ _ a b => a :: b) p
theorem PT.fold_eq {β : Type} (f : ByteArray → ByteArray → ByteArray → Int → Int → List β → β) (o n x : ByteArray) (d q : Int) (A : Option Addr) (c : Nat) (ps : List PT) :
    PT.fold f (.mk o n x d q A c ps) = f o n x d q (ps.map (PT.fold f)) := by
  have key : ∀ l : List PT, PT.rec_1 (motive_1 := fun _ => β) (motive_2 := fun _ => List β) (fun o n x d q _ _ _ r => f o n x d q r) [] (fun _ _ a b => a :: b) l = l.map (PT.fold f) := by
    intro l
    induction l with
    | nil => rfl
    | cons a t ih => rw [List.map_cons, ← ih]; rfl
  rw [← key]
  rfl
/-- All its IDs, as they come. -/
noncomputable def PT.ids : PT → List (Int × Int) := PT.fold fun _ _ _ d q r => (d, q) :: r.flatten
theorem PT.ids_eq (o n x : ByteArray) (d q : Int) (A : Option Addr) (c : Nat) (ps : List PT) : (PT.mk o n x d q A c ps).ids = (d, q) :: ps.flatMap PT.ids := by
  unfold PT.ids; rw [PT.fold_eq, List.flatMap_def]
noncomputable def PT.size (p : PT) : Nat := p.ids.length
theorem PT.size_eq (o n x : ByteArray) (d q : Int) (A : Option Addr) (c : Nat) (ps : List PT) : (PT.mk o n x d q A c ps).size = 1 + (ps.map PT.size).sum := by
  unfold PT.size
  rw [PT.ids_eq, List.length_cons, List.length_flatMap]
  simp [Nat.add_comm]
theorem PT.size_pos (p : PT) : 0 < p.size := by
  obtain ⟨o, n, x, d, q, A, c, ps⟩ := p
  rw [PT.size_eq]; omega
theorem sum_split {l : List PT} {j : Nat} {a : PT} (h : l[j]? = some a) : (l.map PT.size).sum = ((l.take j).map PT.size).sum + a.size + ((l.drop (j + 1)).map PT.size).sum := by
  have e : l = l.take j ++ a :: l.drop (j + 1) := by
    obtain ⟨hm, rfl⟩ := List.getElem?_eq_some_iff.1 h
    rw [← List.drop_eq_getElem_cons hm, List.take_append_drop]
  conv => lhs; rw [e]
  rw [List.map_append, List.sum_append, List.map_cons, List.sum_cons]
  omega
theorem sum_take {l : List PT} {j : Nat} {a : PT} (h : l[j]? = some a) : ((l.take (j + 1)).map PT.size).sum = ((l.take j).map PT.size).sum + a.size := by
  rw [take_snoc_of h, List.map_append, List.sum_append]; simp
theorem len_le_sum (l : List PT) : l.length ≤ (l.map PT.size).sum := by
  induction l with
  | nil => simp
  | cons a t ih => rw [List.map_cons, List.sum_cons, List.length_cons]; have := a.size_pos; omega
/-- How deep it goes. -/
noncomputable def PT.deep : PT → Nat := PT.fold fun _ _ _ _ _ r => r.foldl (fun n d => max n (d + 1)) 0
theorem PT.deep_eq (o n x : ByteArray) (d q : Int) (A : Option Addr) (c : Nat) (ps : List PT) : (PT.mk o n x d q A c ps).deep = ps.foldl (fun n p => max n (p.deep + 1)) 0 := by
  unfold PT.deep; rw [PT.fold_eq, List.foldl_map]
/-- Without its places. -/
noncomputable def PT.bare : PT → PT := PT.fold fun o n x d q r => .mk o n x d q none 0 r
theorem PT.bare_eq (o n x : ByteArray) (d q : Int) (A : Option Addr) (c : Nat) (ps : List PT) : (PT.mk o n x d q A c ps).bare = .mk o n x d q none 0 (ps.map PT.bare) := by
  unfold PT.bare; rw [PT.fold_eq]
theorem bare_same {o n x o' n' x' : ByteArray} {d q d' q' : Int} {A A' : Option Addr} {c c' : Nat} {ps ps' : List PT} :
    (PT.mk o n x d q A c ps).bare = (PT.mk o' n' x' d' q' A' c' ps').bare ↔ o = o' ∧ n = n' ∧ x = x' ∧ d = d' ∧ q = q' ∧ ps.map PT.bare = ps'.map PT.bare := by
  rw [PT.bare_eq, PT.bare_eq]
  simp
/-- What one step asks. -/
def Fol (cs : List Crd) (p : PT) : Prop := ∃ c ∈ cs, c.d = p.d ∧ c.q = p.q ∧ roleOf c = (p.o, p.n) ∧
  ((c.kd = 1 ∧ p.x = c.wh ∧ p.ps = []) ∨ (c.kd = 2 ∧ ∃ a, p.ps = [a] ∧ a.pr = ((c.ao, c.an), p.x)) ∨
   (c.kd = 3 ∧ ∃ a b, p.ps = [a, b] ∧ a.pr = (firstOf c, a.x) ∧ isD a.x ∧ b.pr = ((a.x, c.bn), p.x)) ∨
   (c.kd = 4 ∧ ∃ a b, p.ps = [a, b] ∧ a.pr = ((c.ao, c.an), p.x) ∧ b.pr = ((c.bo, c.bn), p.x)))
/-- Correct. -/
inductive Cor (cs : List Crd) : PT → Prop
  | mk {p : PT} : Fol cs p → (∀ a ∈ p.ps, Cor cs a) → Cor cs p
theorem Cor.fol {cs : List Crd} {p : PT} (h : Cor cs p) : Fol cs p := by cases h; assumption
theorem Cor.part {cs : List Crd} {p a : PT} (h : Cor cs p) (ha : a ∈ p.ps) : Cor cs a := by cases h with | mk _ h2 => exact h2 a ha
theorem cor_iff {cs : List Crd} {p : PT} : Cor cs p ↔ Fol cs p ∧ ∀ a ∈ p.ps, Cor cs a := ⟨fun h => ⟨h.fol, fun _ => h.part⟩, fun h => .mk h.1 h.2⟩
/-- P7.2. -/
theorem Cor.imp {cs : List Crd} {p : PT} (h : Cor cs p) : Imp (· ∈ cs) p.pr := by
  induction h with
  | mk hf _ ih =>
    rename_i p _
    obtain ⟨c, hc, hd, hq, hr, hk⟩ := hf
    have e0 : p.pr = (roleOf c, p.x) := by rw [hr]; rfl
    rw [e0]
    rcases hk with ⟨hk, hx, hps⟩ | ⟨hk, a, hps, ha⟩ | ⟨hk, a, b, hps, ha, hy, hb⟩ | ⟨hk, a, b, hps, ha, hb⟩
    · rw [hx]; exact Imp.mem (S := (· ∈ cs)) hc hk
    · have h1 := ih a (by rw [hps]; simp)
      rw [ha] at h1
      exact Imp.inc (S := (· ∈ cs)) hc hk h1
    · have h1 := ih a (by rw [hps]; simp)
      have h2 := ih b (by rw [hps]; simp)
      rw [ha] at h1
      rw [hb] at h2
      exact Imp.lnk (S := (· ∈ cs)) hc hk h1 hy h2
    · have h1 := ih a (by rw [hps]; simp)
      have h2 := ih b (by rw [hps]; simp)
      rw [ha] at h1
      rw [hb] at h2
      exact Imp.bth (S := (· ∈ cs)) hc hk h1 h2
/-- Correct by whatever holds the credentials that it names. -/
theorem Cor.more {cs cs' : List Crd} {p : PT} (h : Cor cs p) (hc : ∀ c ∈ cs, (c.d, c.q) ∈ p.ids → c ∈ cs') : Cor cs' p := by
  induction h with
  | mk hf hp ih =>
    rename_i p
    obtain ⟨o, n, x, d, q, A, cp, ps⟩ := p
    refine .mk ?_ fun a ha => ih a ha fun c hcs hid => hc c hcs ?_
    · obtain ⟨c, hcs, hd, hq, hr⟩ := hf
      refine ⟨c, hc c hcs ?_, hd, hq, hr⟩
      rw [PT.ids_eq]
      simp only [PT.d, PT.q] at hd hq
      rw [hd, hq]
      exact List.mem_cons_self
    · rw [PT.ids_eq]
      exact List.mem_cons_of_mem _ (List.mem_flatMap.2 ⟨a, ha, hid⟩)
/-- Each ID that a correct proof names is one of a credential. -/
theorem Cor.named {cs : List Crd} {p : PT} (h : Cor cs p) : ∀ i ∈ p.ids, ∃ c ∈ cs, (c.d, c.q) = i := by
  induction h with
  | mk hf hp ih =>
    rename_i p
    obtain ⟨o, n, x, d, q, A, cp, ps⟩ := p
    intro i hi
    rw [PT.ids_eq] at hi
    rcases List.mem_cons.1 hi with e | e
    · obtain ⟨c, hcs, hd, hq, _⟩ := hf
      exact ⟨c, hcs, by rw [e, hd, hq]; rfl⟩
    · obtain ⟨a, ha, hi2⟩ := List.mem_flatMap.1 e
      exact ih a ha i hi2
/-! ### in memory -/
def okI (i : Int × Int) : Prop := (-9223372036854775808 ≤ i.1 ∧ i.1 ≤ 9223372036854775807) ∧ (-9223372036854775808 ≤ i.2 ∧ i.2 ≤ 9223372036854775807)
inductive PIn (w : World) (B : Nat) : PT → Prop
  | mk {o n x : ByteArray} {d q : Int} {A : Option Addr} {c : Nat} {ps : List PT} : okI (d, q) → ps.length ≤ c → c ≤ 9223372036854775807 → Els encT w B A ps → (∀ p ∈ ps, PIn w B p) → PIn w B (.mk o n x d q A c ps)
section
variable {w w' : World} {B B' : Nat}
theorem PIn.into {p : PT} (h : PIn w B p) (hb : Below B w w') : PIn w' B p := by
  induction h with
  | mk h0 h1 h2 h3 _ ih => exact .mk h0 h1 h2 (h3.below hb) ih
theorem PIn.more {p : PT} (h : PIn w B p) (hB : B ≤ B') : PIn w B' p := by
  induction h with
  | mk h0 h1 h2 h3 _ ih => exact .mk h0 h1 h2 (h3.more hB) ih
theorem PIn.now {p : PT} (h : PIn w w.heap.size p) (hb : Below w.heap.size w w') : PIn w' w'.heap.size p := (h.into hb).more hb.size
theorem PIn.open' {o n x : ByteArray} {d q : Int} {A : Option Addr} {c : Nat} {ps : List PT} (h : PIn w B (.mk o n x d q A c ps)) : ps.length ≤ c ∧ c ≤ 9223372036854775807 ∧ Els encT w B A ps ∧ ∀ p ∈ ps, PIn w B p := by
  cases h with | mk h0 h1 h2 h3 h4 => exact ⟨h1, h2, h3, h4⟩
theorem PIn.ok {o n x : ByteArray} {d q : Int} {A : Option Addr} {c : Nat} {ps : List PT} (h : PIn w B (.mk o n x d q A c ps)) : okI (d, q) := by cases h; assumption
/-- A part, and where it lies. -/
theorem PIn.get {A : Option Addr} {ps : List PT} {j : Nat} {o n x : ByteArray} {d q : Int} {A' : Option Addr} {c : Nat} {qs : List PT} (h : Els encT w B A ps) (hj : ps[j]? = some (.mk o n x d q A' c qs)) :
    ∃ ad aj, A = some ad ∧ ad.block < B ∧ ad.add (j * 6) = aj ∧ aj.block = ad.block ∧ w.cell? aj = some (.string o) ∧ w.cell? ⟨aj.block, aj.off + 1, none⟩ = some (.string n) ∧ w.cell? ⟨aj.block, aj.off + 2, none⟩ = some (.string x) ∧
      w.cell? ⟨aj.block, aj.off + 3, none⟩ = some (.int .i64 d) ∧ w.cell? ⟨aj.block, aj.off + 4, none⟩ = some (.int .i64 q) ∧ w.cell? ⟨aj.block, aj.off + 5, none⟩ = some (.slice A' qs.length c) := by
  obtain ⟨ad, aj, h1, h2, h3, h4, h5, h6⟩ := h.get hj
  exact ⟨ad, aj, h1, h2, h3, h4, h5 _ rfl, h6 1 _ (by omega) rfl, h6 2 _ (by omega) rfl, h6 3 _ (by omega) rfl, h6 4 _ (by omega) rfl, h6 5 _ (by omega) rfl⟩
end
/-- A proof in a block of its own. -/
def PrAt (w : World) (g : Nat) (p : PT) : Prop := w.heap[g]? = some (.cells p.cells.toArray 29 (0, 0))
section
variable {w w' : World} {g : Nat} {p : PT}
theorem PrAt.new (w : World) (p : PT) : PrAt (w.alloc (.cells p.cells.toArray 29)) w.heap.size p := heap_alloc_new w _
theorem PrAt.lt (h : PrAt w g p) : g < w.heap.size := (Array.getElem?_eq_some_iff.1 h).1
theorem PrAt.kept (h : PrAt w g p) (hb : Below w.heap.size w w') : PrAt w' g p := (hb.block g h.lt).trans h
theorem PrAt.below {B : Nat} (h : PrAt w g p) (hb : Below B w w') (hg : g < B) : PrAt w' g p := (hb.block g hg).trans h
theorem PrAt.all {o n x : ByteArray} {d q : Int} {A : Option Addr} {c : Nat} {ps : List PT} (h : PrAt w g (.mk o n x d q A c ps)) :
    w.cell? ⟨g, 0, none⟩ = some (.string o) ∧ w.cell? ⟨g, 1, none⟩ = some (.string n) ∧ w.cell? ⟨g, 2, none⟩ = some (.string x) ∧ w.cell? ⟨g, 3, none⟩ = some (.int .i64 d) ∧ w.cell? ⟨g, 4, none⟩ = some (.int .i64 q) ∧ w.cell? ⟨g, 5, none⟩ = some (.slice A ps.length c) := by
  refine ⟨?_, ?_, ?_, ?_, ?_, ?_⟩ <;> (rw [cell_of_row w g _ _ _ (0, 0) h]; rfl)
theorem below_pr (w : World) (p : PT) : Below w.heap.size w (w.alloc (.cells p.cells.toArray 29)) := (Below.refl _ _).alloc (Nat.le_refl _) _
end
end Go.Proofs.YtfbapbpggicfbaaGreatDoor.Sh
/-
  The program's Within, the document's Deep and Few, by contract.
-/
namespace Go.Proofs.YtfbapbpggicfbaaGreatDoor.Sh
open Go Go.RowKit

set_option linter.unusedVariables false
set_option linter.unusedSimpArgs false
theorem deep_le_iff (ps : List PT) (k : Int) (hk : 0 ≤ k) : ((ps.foldl (fun n p => max n (p.deep + 1)) 0 : Nat) : Int) ≤ k ↔ ∀ p ∈ ps, (p.deep : Int) + 1 ≤ k := by
  have key : ∀ (l : List PT) (a : Nat), ((l.foldl (fun n p => max n (p.deep + 1)) a : Nat) : Int) ≤ k ↔ (a : Int) ≤ k ∧ ∀ p ∈ l, (p.deep : Int) + 1 ≤ k := by
    intro l
    induction l with
    | nil => intro a; simp
    | cons p t ih =>
      intro a
      rw [List.foldl_cons, ih]
      constructor
      · rintro ⟨h1, h2⟩
        refine ⟨by omega, fun y hy => ?_⟩
        rcases List.mem_cons.1 hy with e | e
        · rw [e]; omega
        · exact h2 y e
      · rintro ⟨h1, h2⟩
        have := h2 p (by simp)
        exact ⟨by omega, fun y hy => h2 y (List.mem_cons_of_mem _ hy)⟩
  rw [key]
  exact ⟨fun h => h.2, fun h => ⟨by omega, h⟩⟩
theorem mem_take_succ {l : List PT} {j : Nat} {a : PT} (h : l[j]? = some a) {P : PT → Prop} (h1 : ∀ p ∈ l.take j, P p) (h2 : P a) : ∀ p ∈ l.take (j + 1), P p := fun p hp => by
  rw [take_snoc_of h, List.mem_append, List.mem_singleton] at hp
  rcases hp with hp | rfl
  · exact h1 p hp
  · exact h2
set_option maxHeartbeats 4000000 in
theorem within_any (p : PT) : ∀ (k : Int) (w : World), -9223372036854775808 ≤ k → k ≤ 9223372036854775807 → PIn w w.heap.size p →
    Calls Tryz.prog 17 #[.agg p.cells.toArray, .int .i64 k] w fun e w' => e = .returned (.bool (decide ((p.deep : Int) ≤ k))) ∧ Below w.heap.size w w' := by
  induction p using PT.ind
  rename_i o n x d q A c ps ih
  intro k w hk1 hk2 hp
  have HIH := hid ih
  obtain ⟨h1, h2, h3, h4⟩ := hp.open'
  obtain ⟨w1, hw1⟩ : ∃ w1, w1 = w.alloc (.cells (PT.mk o n x d q A c ps).cells.toArray 29) := ⟨_, rfl⟩
  have HQ1 : Hid (Below w.heap.size w w1) := hid (by rw [hw1]; exact below_pr w _)
  have HPA : Hid (PrAt w1 w.heap.size (.mk o n x d q A c ps)) := hid (by rw [hw1]; exact PrAt.new w _)
  have HPI := hid h4
  have HEL := hid (h3.below HQ1.out)
  have HDE : Hid (∀ b : Bool, (b = true ↔ ∀ p ∈ ps, (p.deep : Int) + 1 ≤ k) → 0 ≤ k → decide (((PT.mk o n x d q A c ps).deep : Int) ≤ k) = b) := hid (fun b hb h0 => by
    rw [PT.deep_eq]
    apply Bool.eq_iff_iff.2
    rw [decide_eq_true_iff, deep_le_iff _ _ h0, hb])
  have HNE : Hid (k < 0 → decide (((PT.mk o n x d q A c ps).deep : Int) ≤ k) = false) := hid (fun h => decide_eq_false (by omega))
  obtain ⟨D, hD⟩ : ∃ D, decide (((PT.mk o n x d q A c ps).deep : Int) ≤ k) = D := ⟨_, rfl⟩
  rw [hD] at HDE HNE ⊢
  obtain ⟨np, hnp⟩ : ∃ np, ps.length = np := ⟨_, rfl⟩
  have HNP := hid hnp
  have hnp63 : np ≤ 9223372036854775807 := by omega
  unfold PT.cells at hw1 ⊢
  simp only [hnp] at hw1 ⊢
  obtain ⟨k0, k1, k2, k3, k4, k5⟩ := HPA.out.all
  rw [hnp] at k5
  clear ih hp h1 h2 h3 h4 hD hnp
  by_cases hneg : k < 0
  · have HN := HNE.out hneg
    go_enter Tryz.func17, Tryz.ntmps17
    go_wp2_with fail
    go_ret
    exact ⟨by rw [HN]; rfl, by rw [← hw1]; exact HQ1.out⟩
  · have hk0 : 0 ≤ k := by omega
    go_enter Tryz.func17, Tryz.ntmps17
    go_wp2_with fail
    rw [← hw1]
    clear hw1
    go_loopw [12] (fun i wr => ∃ j : Nat, j ≤ np ∧ i = .int .i64 (j : Int) ∧ Hid (∀ p ∈ ps.take j, (p.deep : Int) + 1 ≤ k) ∧ Hid (Below w1.heap.size w1 wr)) (fun i _ => np - (intOf i).toNat)
    case atStart => exact ⟨0, Nat.zero_le _, rfl, hid (by simp), hid (Below.refl _ _)⟩
    case round =>
      obtain ⟨j, hj, rfl, HAL, HB⟩ := hrel
      by_cases hlt : j < np
      · obtain ⟨⟨o2, n2, x2, d2, q2, A2, c2, ps2⟩, hx⟩ : ∃ x, ps[j]? = some x := ⟨_, List.getElem?_eq_getElem (by rw [HNP.out]; exact hlt)⟩
        have HX := hid hx
        obtain ⟨ad, aj, rfl, hab, ea, hbj, a0, a1, a2, a3, a4, a5⟩ := PIn.get (HEL.out.below (HB.out.mono HQ1.out.size)) hx
        have hj0 : (0 : Int) ≤ (j : Int) := Int.natCast_nonneg _
        have hj1 : (j : Int) < (np : Int) := by omega
        obtain ⟨wb, hwb⟩ : ∃ wb, wb = wr.alloc (.cells (PT.mk o2 n2 x2 d2 q2 A2 c2 ps2).cells.toArray 29) := ⟨_, rfl⟩
        have HBB : Hid (Below w1.heap.size w1 wb) := hid (by rw [hwb]; exact HB.out.alloc HB.out.size _)
        have HW2 := hid (HQ1.out.trans (HBB.out.mono HQ1.out.size))
        have HCA := hid (HIH.out _ (List.mem_of_getElem? hx) (k - 1) wb (by omega) (by omega) ((HPI.out _ (List.mem_of_getElem? hx)).now HW2.out))
        unfold PT.cells at HCA hwb
        simp only at HCA hwb
        obtain ⟨D2, hD2⟩ : ∃ D, decide (((PT.mk o2 n2 x2 d2 q2 A2 c2 ps2).deep : Int) ≤ k - 1) = D := ⟨_, rfl⟩
        have HD2 := hid hD2
        rw [hD2] at HCA
        clear hx hab hbj hD2
        go_wp2_with fail
        rw [← hwb]
        refine HCA.out.mono ?_
        rintro er w3 ⟨rfl, hb3⟩
        have HB3 := hid (HBB.out.trans (hb3.mono HBB.out.size))
        clear hb3 HCA hwb a0 a1 a2 a3 a4 a5
        cases D2 with
        | true =>
          have HT := hid (mem_take_succ HX.out HAL.out (by have := of_decide_eq_true HD2.out; omega))
          go_wp2_with fail
          go_roundw
          case rel => exact ⟨j + 1, by omega, by go_num, HT, HB3⟩
          case measure => simp [intOf]; omega
        | false =>
          have HF := HDE.out false ⟨(fun h => by cases h), (fun h => by
            have h1 := h _ (List.mem_of_getElem? HX.out)
            exact absurd (by omega) (of_decide_eq_false HD2.out))⟩ hk0
          go_wp2_with fail
          go_ret
          exact ⟨by rw [HF]; rfl, HQ1.out.trans (HB3.out.mono HQ1.out.size)⟩
      · obtain rfl : j = np := by omega
        have HF := HDE.out true ⟨(fun _ => (by have := HAL.out; rwa [List.take_of_length_le (by rw [HNP.out]; exact Nat.le_refl _)] at this)), fun _ => rfl⟩ hk0
        go_wp2_with fail
        go_ret
        exact ⟨by rw [HF]; rfl, HQ1.out.trans (HB.out.mono HQ1.out.size)⟩
end Go.Proofs.YtfbapbpggicfbaaGreatDoor.Sh
/-
  The document's own Few and Deep, by contract.
-/
namespace Go.Proofs.YtfbapbpggicfbaaGreatDoor.Sh
open Go Go.RowKit

set_option linter.unusedVariables false
set_option linter.unusedSimpArgs false

theorem deep_lt_size (p : PT) : p.deep < p.size := by
  induction p using PT.ind
  rename_i o n x d q A c ps ih
  rw [PT.deep_eq, PT.size_eq]
  have h := (deep_le_iff ps ((ps.map PT.size).sum : Int) (by omega)).2 (fun a ha => by
    have h1 := ih a ha
    obtain ⟨j, hj⟩ := List.getElem?_of_mem ha
    have h2 := sum_split hj
    omega)
  omega
set_option maxHeartbeats 4000000 in
theorem few7_any (p : PT) : ∀ (m : Nat) (w : World), m ≤ 1000 → PIn w w.heap.size p →
    Calls Tryz.prog 10 #[.agg p.cells.toArray, .int .i64 (m : Int)] w fun e w' => e = .returned (.int .i64 (if p.size ≤ m then (p.size : Int) else -1)) ∧ Below w.heap.size w w' := by
  induction p using PT.ind
  rename_i o n x d q A c ps ih
  intro m w hm hp
  have HIH := hid ih
  obtain ⟨S, hS⟩ : ∃ S, (PT.mk o n x d q A c ps).size = S := ⟨_, rfl⟩
  have HS : Hid (S = 1 + (ps.map PT.size).sum) := hid (by rw [← hS, PT.size_eq])
  rw [hS]
  obtain ⟨R, hR⟩ : ∃ R, (if S ≤ m then (S : Int) else -1) = R := ⟨_, rfl⟩
  have HRN : Hid (¬ S ≤ m → R = -1) := hid (fun h => by rw [← hR, if_neg h])
  have HRP : Hid (S ≤ m → R = S) := hid (fun h => by rw [← hR, if_pos h])
  rw [hR]
  obtain ⟨h1, h2, h3, h4⟩ := hp.open'
  obtain ⟨w1, hw1⟩ : ∃ w1, w1 = w.alloc (.cells (PT.mk o n x d q A c ps).cells.toArray 29) := ⟨_, rfl⟩
  have HQ1 : Hid (Below w.heap.size w w1) := hid (by rw [hw1]; exact below_pr w _)
  have HPA : Hid (PrAt w1 w.heap.size (.mk o n x d q A c ps)) := hid (by rw [hw1]; exact PrAt.new w _)
  have HPI := hid h4
  have HEL := hid (h3.below HQ1.out)
  obtain ⟨np, hnp⟩ : ∃ np, ps.length = np := ⟨_, rfl⟩
  have HNP := hid hnp
  have hnp63 : np ≤ 9223372036854775807 := by omega
  have HPA5 := hid (fun W (hW : Below w1.heap.size w1 W) => (HPA.out.kept hW).all)
  rw [hnp] at HPA5
  unfold PT.cells at hw1 ⊢
  simp only [hnp] at hw1 ⊢
  clear ih hp h1 h2 h3 h4 hnp hS hR
  have hm0 : (0 : Int) ≤ (m : Int) := by omega
  go_enter Tryz.func10, Tryz.ntmps10
  go_wp2_with fail
  rw [← hw1]
  clear hw1
  go_loopw [5, 6] (fun v i wr => ∃ s j : Nat, v = .int .i64 (s : Int) ∧ i = .int .i64 (j : Int) ∧ j ≤ np ∧ 1 ≤ s ∧ s ≤ 1001 ∧ Hid (s = 1 + ((ps.take j).map PT.size).sum) ∧ Hid (Below w1.heap.size w1 wr)) (fun _ i _ => np - (intOf i).toNat)
  case atStart => exact ⟨1, 0, rfl, rfl, Nat.zero_le _, by omega, by omega, hid (by simp), hid (Below.refl _ _)⟩
  case round =>
    obtain ⟨s, j, rfl, rfl, hj, hs1, hs2, HSU, HB⟩ := hrel
    obtain ⟨k0, k1, k2, k3, k4, k5⟩ := HPA5.out _ HB.out
    have hs0 : (1 : Int) ≤ (s : Int) := by omega
    by_cases hlt : j < np
    · by_cases hge : m ≤ s
      · have hgi : (m : Int) ≤ (s : Int) := by omega
        have HF : Hid (¬ S ≤ m) := hid (by
          have e1 := HS.out
          have e2 := HSU.out
          obtain ⟨a, ha⟩ : ∃ x, ps[j]? = some x := ⟨_, List.getElem?_eq_getElem (by rw [HNP.out]; exact hlt)⟩
          have e3 := sum_split ha
          have e4 := a.size_pos
          omega)
        have hj1 : (j : Int) < (np : Int) := by omega
        go_wp2_with fail
        go_ret
        exact ⟨by rw [HRN.out HF.out]; rfl, HQ1.out.trans (HB.out.mono HQ1.out.size)⟩
      · have hgi : ¬ (m : Int) ≤ (s : Int) := by omega
        obtain ⟨r, hr⟩ : ∃ r, m - s = r := ⟨_, rfl⟩
        have hri : (m : Int) - (s : Int) = (r : Int) := by omega
        have HR : Hid (s + r = m) := hid (by omega)
        obtain ⟨⟨o2, n2, x2, d2, q2, A2, c2, ps2⟩, hx⟩ : ∃ x, ps[j]? = some x := ⟨_, List.getElem?_eq_getElem (by rw [HNP.out]; exact hlt)⟩
        have HX := hid hx
        have HME : Hid (PT.mk o2 n2 x2 d2 q2 A2 c2 ps2 ∈ ps) := hid (List.mem_of_getElem? hx)
        obtain ⟨ad, aj, rfl, hab, ea, hbj, a0, a1, a2, a3, a4, a5⟩ := PIn.get (HEL.out.below (HB.out.mono HQ1.out.size)) hx
        have hj0 : (0 : Int) ≤ (j : Int) := Int.natCast_nonneg _
        have hj1 : (j : Int) < (np : Int) := by omega
        have HPN := hid (fun W (hW : Below w1.heap.size w1 W) => (HPI.out _ HME.out).now (HQ1.out.trans (hW.mono HQ1.out.size)))
        clear hx hab hbj
        have HCA := hid (HIH.out _ HME.out r wr (by omega) (HPN.out _ HB.out))
        unfold PT.cells at HCA
        simp only at HCA
        obtain ⟨z, hz⟩ : ∃ z, (PT.mk o2 n2 x2 d2 q2 A2 c2 ps2).size = z := ⟨_, rfl⟩
        have HZ := hid (sum_take HX.out)
        have HZ2 := hid (sum_split HX.out)
        rw [hz] at HCA HZ HZ2
        clear hz hr
        by_cases hzr : z ≤ r
        · rw [if_pos hzr] at HCA
          have hz0 : (0 : Int) ≤ (z : Int) := by omega
          have hzn : ¬ (z : Int) < 0 := by omega
          have hz1 : z ≤ 1000 := by have := HR.out; omega
          have hsz : ((s + z : Nat) : Int) = (s : Int) + (z : Int) := by omega
          obtain ⟨t, ht⟩ : ∃ t, s + z = t := ⟨_, rfl⟩
          have hst : (s : Int) + (z : Int) = (t : Int) := by omega
          have ht1 : t ≤ 1000 := by have := HR.out; omega
          have HT := hid ht
          clear hsz ht
          go_wp2_with fail
          refine HCA.out.mono ?_
          rintro er w3 ⟨rfl, hb3⟩
          have HB3 := hid (HB.out.trans (hb3.mono HB.out.size))
          clear hb3 HCA k0 k1 k2 k3 k4 k5 a0 a1 a2 a3 a4 a5
          go_wp2_with fail
          go_roundw
          case rel => exact ⟨t, j + 1, rfl, by go_num, by omega, by have := HT.out; omega, by omega, hid (by have := HZ.out; have := HSU.out; have := HT.out; omega), HB3⟩
          case measure => simp [intOf]; omega
        · rw [if_neg hzr] at HCA
          have HF : Hid (¬ S ≤ m) := hid (by have := HZ2.out; have := HSU.out; have := HS.out; have := HR.out; omega)
          go_wp2_with fail
          refine HCA.out.mono ?_
          rintro er w3 ⟨rfl, hb3⟩
          have HB3 := hid (HB.out.trans (hb3.mono HB.out.size))
          clear hb3 HCA k0 k1 k2 k3 k4 k5 a0 a1 a2 a3 a4 a5
          go_wp2_with fail
          go_ret
          exact ⟨by rw [HRN.out HF.out]; rfl, HQ1.out.trans (HB3.out.mono HQ1.out.size)⟩
    · obtain rfl : j = np := by omega
      have HE : Hid (s = S) := hid (by have e1 := HSU.out; rw [List.take_of_length_le (by rw [HNP.out]; exact Nat.le_refl _), ← HS.out] at e1; exact e1)
      by_cases hgt : m < s
      · have hgi : (m : Int) < (s : Int) := by omega
        go_wp2_with fail
        go_ret
        exact ⟨by rw [HRN.out (by rw [← HE.out]; omega)]; rfl, HQ1.out.trans (HB.out.mono HQ1.out.size)⟩
      · have hgi : ¬ (m : Int) < (s : Int) := by omega
        go_wp2_with fail
        go_ret
        exact ⟨by rw [HRP.out (by rw [← HE.out]; omega), ← HE.out]; rfl, HQ1.out.trans (HB.out.mono HQ1.out.size)⟩
theorem deep_step (l : List PT) (a : PT) : (l ++ [a]).foldl (fun n p => max n (p.deep + 1)) 0 = max (l.foldl (fun n p => max n (p.deep + 1)) 0) (a.deep + 1) := by
  rw [List.foldl_append]; rfl
end Go.Proofs.YtfbapbpggicfbaaGreatDoor.Sh
