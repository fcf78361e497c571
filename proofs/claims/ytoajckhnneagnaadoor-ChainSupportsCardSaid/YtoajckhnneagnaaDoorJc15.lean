/-
  The program's settled, by contract.
-/
import Derived.Test.YtoajckhnneagnaaDoorJc6
import Derived.Test.YtoajckhnneagnaaDoorJc14
import Derived.Test.YtoajckhnneagnaaDoorJc1
import Derived.Test.YtoajckhnneagnaaDoorJc5
import Derived.Shelf.SlSortCmp.InsertionK
import Derived.Test.YtoajckhnneagnaaDoorJc2
import Derived.Test.YtoajckhnneagnaaDoorJc3
set_option linter.unusedVariables false
set_option linter.unusedSimpArgs false
namespace Go.Proofs.YtoajckhnneagnaaDoor.Sh
open Go Go.RowKit
open Go.Maps (Keyed)

set_option linter.unusedSimpArgs false
set_option linter.unusedVariables false
end Go.Proofs.YtoajckhnneagnaaDoor.Sh
namespace Go.Proofs.YtoajckhnneagnaaDoor.Sh
open Go Go.RowKit

def lessL (o n o' n' : ByteArray) : Bool := if o.data.toList = o'.data.toList then Go.Op.bytesLess n.data.toList n'.data.toList else Go.Op.bytesLess o.data.toList o'.data.toList
theorem refLess_any (o n o' n' : ByteArray) (w : World) :
    Calls Tryd.prog 50 #[.agg #[.string o, .string n], .agg #[.string o', .string n']] w fun e w' => e = .returned (.bool (lessL o n o' n')) ∧ Below w.heap.size w w' := by
  by_cases h : o.data.toList = o'.data.toList
  · have HE : Hid (lessL o n o' n' = Go.Op.bytesLess n.toList n'.toList) := hid (by unfold lessL; rw [if_pos h, Lib.toList_data, Lib.toList_data])
    have hb : (o.toList == o'.toList) = true := by rw [Lib.toList_data, Lib.toList_data, h]; simp
    clear h
    go_enter Tryd.func50, Tryd.ntmps50
    go_wp2
    go_ret
    exact ⟨by rw [HE.out]; rfl, ((Below.refl _ _).alloc (Nat.le_refl _) _).alloc (by rw [World.size_alloc]; exact Nat.le_succ _) _⟩
  · have HE : Hid (lessL o n o' n' = Go.Op.bytesLess o.toList o'.toList) := hid (by unfold lessL; rw [if_neg h, Lib.toList_data, Lib.toList_data])
    have hb : (o.toList == o'.toList) = false := by rw [Lib.toList_data, Lib.toList_data, beq_eq_false_iff_ne]; exact h
    clear h
    go_enter Tryd.func50, Tryd.ntmps50
    go_wp2
    go_ret
    exact ⟨by rw [HE.out]; rfl, ((Below.refl _ _).alloc (Nat.le_refl _) _).alloc (by rw [World.size_alloc]; exact Nat.le_succ _) _⟩
end Go.Proofs.YtoajckhnneagnaaDoor.Sh
namespace Go.Proofs.YtoajckhnneagnaaDoor.Sh
open Go Go.RowKit

end Go.Proofs.YtoajckhnneagnaaDoor.Sh
namespace Go.Proofs.YtoajckhnneagnaaDoor.Sh
open Go Go.RowKit Go.Sort

set_option linter.unusedSimpArgs false
theorem bl_irrefl (x : List UInt8) : Op.bytesLess x x = false := by
  induction x with
  | nil => rfl
  | cons a t ih => simp [Op.bytesLess, ih]
theorem bl_asymm : ∀ (x y : List UInt8), Op.bytesLess x y = true → Op.bytesLess y x = false
  | _, [], h => by simp [Op.bytesLess] at h
  | [], _ :: _, _ => rfl
  | a :: x, b :: y, h => by
    simp only [Op.bytesLess, Bool.or_eq_true, Bool.and_eq_true, decide_eq_true_eq, beq_iff_eq] at h
    simp only [Op.bytesLess, Bool.or_eq_false_iff, Bool.and_eq_false_iff, decide_eq_false_iff_not, beq_eq_false_iff_ne]
    rcases h with h | ⟨rfl, h⟩
    · exact ⟨UInt8.lt_asymm h, .inl (fun e => by rw [e] at h; exact UInt8.lt_irrefl _ h)⟩
    · exact ⟨UInt8.lt_irrefl _, .inr (bl_asymm x y h)⟩
theorem bl_tri : ∀ (x y : List UInt8), Op.bytesLess x y = false → Op.bytesLess y x = false → x = y
  | [], [], _, _ => rfl
  | [], _ :: _, h, _ => by simp [Op.bytesLess] at h
  | _ :: _, [], _, h => by simp [Op.bytesLess] at h
  | a :: x, b :: y, h, h2 => by
    simp only [Op.bytesLess, Bool.or_eq_false_iff, Bool.and_eq_false_iff, decide_eq_false_iff_not, beq_eq_false_iff_ne] at h h2
    have e : a = b := by
      rcases UInt8.lt_or_lt_of_ne (a := a) (b := b) |> fun f => (Classical.em (a = b)).imp id f with e | e | e
      · exact e
      · exact absurd e h.1
      · exact absurd e h2.1
    subst e
    have h3 : Op.bytesLess x y = false := h.2.resolve_left (fun k => k rfl)
    have h4 : Op.bytesLess y x = false := h2.2.resolve_left (fun k => k rfl)
    rw [bl_tri x y h3 h4]
theorem bl_trans : ∀ (x y z : List UInt8), Op.bytesLess x y = true → Op.bytesLess y z = true → Op.bytesLess x z = true
  | _, [], _, h, _ => by simp [Op.bytesLess] at h
  | _, _ :: _, [], _, h => by simp [Op.bytesLess] at h
  | [], _ :: _, _ :: _, _, _ => rfl
  | a :: x, b :: y, c :: z, h, h2 => by
    simp only [Op.bytesLess, Bool.or_eq_true, Bool.and_eq_true, decide_eq_true_eq, beq_iff_eq] at h h2 ⊢
    rcases h with h | ⟨rfl, h⟩
    · rcases h2 with h2 | ⟨rfl, _⟩
      · exact .inl (UInt8.lt_trans h h2)
      · exact .inl h
    · rcases h2 with h2 | ⟨rfl, h2⟩
      · exact .inl h2
      · exact .inr ⟨rfl, bl_trans x y z h h2⟩
def bl (a b : ByteArray) : Bool := Op.bytesLess a.data.toList b.data.toList
def lt3 (a b c a' b' c' : ByteArray) : Prop := bl a a' = true ∨ (a = a' ∧ (bl b b' = true ∨ (b = b' ∧ bl c c' = true)))
theorem lt3_irrefl (a b c : ByteArray) : ¬ lt3 a b c a b c := by
  unfold lt3 bl
  simp [bl_irrefl]
theorem lt3_trans {a b c a' b' c' a2 b2 c2 : ByteArray} (h : lt3 a b c a' b' c') (k : lt3 a' b' c' a2 b2 c2) : lt3 a b c a2 b2 c2 := by
  rcases h with h | ⟨rfl, h⟩
  · rcases k with k | ⟨rfl, k⟩
    · exact .inl (bl_trans _ _ _ h k)
    · exact .inl h
  · rcases k with k | ⟨rfl, k⟩
    · exact .inl k
    · refine .inr ⟨rfl, ?_⟩
      rcases h with h | ⟨rfl, h⟩
      · rcases k with k | ⟨rfl, k⟩
        · exact .inl (bl_trans _ _ _ h k)
        · exact .inl h
      · rcases k with k | ⟨rfl, k⟩
        · exact .inl k
        · exact .inr ⟨rfl, bl_trans _ _ _ h k⟩
theorem bl_three (a b : ByteArray) : bl a b = true ∨ a = b ∨ bl b a = true := by
  unfold bl
  cases h : Op.bytesLess a.data.toList b.data.toList with
  | true => exact .inl rfl
  | false =>
    cases h' : Op.bytesLess b.data.toList a.data.toList with
    | true => exact .inr (.inr rfl)
    | false => exact .inr (.inl (ba_eq (bl_tri _ _ h h')))
theorem lt3_three (a b c a' b' c' : ByteArray) : lt3 a b c a' b' c' ∨ (a = a' ∧ b = b' ∧ c = c') ∨ lt3 a' b' c' a b c := by
  unfold lt3
  rcases bl_three a a' with h | rfl | h
  · exact .inl (.inl h)
  · rcases bl_three b b' with h | rfl | h
    · exact .inl (.inr ⟨rfl, .inl h⟩)
    · rcases bl_three c c' with h | rfl | h
      · exact .inl (.inr ⟨rfl, .inr ⟨rfl, h⟩⟩)
      · exact .inr (.inl ⟨rfl, rfl, rfl⟩)
      · exact .inr (.inr (.inr ⟨rfl, .inr ⟨rfl, h⟩⟩))
    · exact .inr (.inr (.inr ⟨rfl, .inl h⟩))
  · exact .inr (.inr (.inl h))
def ltP (x y : Pr) : Prop := lt3 x.1.1 x.1.2 x.2 y.1.1 y.1.2 y.2
theorem lessL_iff (o n o' n' : ByteArray) : lessL o n o' n' = true ↔ bl o o' = true ∨ (o = o' ∧ bl n n' = true) := by
  unfold lessL bl
  by_cases h : o = o'
  · subst h
    rw [if_pos rfl]
    simp [bl_irrefl]
  · rw [if_neg (fun e => h (ba_eq e))]
    simp [h]
def SortedP (l : List Pr) : Prop := l.Pairwise ltP
theorem SortedP.nodup {l : List Pr} (h : SortedP l) : l.Nodup := List.Pairwise.imp (fun {a b} (hab : ltP a b) (e : a = b) => by subst e; exact lt3_irrefl _ _ _ hab) h

end Go.Proofs.YtoajckhnneagnaaDoor.Sh
namespace Go.Proofs.YtoajckhnneagnaaDoor.Sh
open Go Go.RowKit

set_option linter.unusedVariables false
set_option linter.unusedSimpArgs false
def Brg (c : Crd) (l : List Pr) (p : Pr) : Prop :=
  p.1 = roleOf c ∧ ((c.kd = 1 ∧ p.2 = c.wh) ∨ (c.kd = 2 ∧ ((c.ao, c.an), p.2) ∈ l) ∨ (c.kd = 3 ∧ ∃ y, (firstOf c, y) ∈ l ∧ isD y ∧ ((y, c.bn), p.2) ∈ l) ∨ (c.kd = 4 ∧ ((c.ao, c.an), p.2) ∈ l ∧ ((c.bo, c.bn), p.2) ∈ l))
def Rnd (cs : List Crd) (l out : List Pr) : Prop := ∃ new, out = l ++ new ∧ new.Nodup ∧ (∀ p ∈ new, p ∉ l) ∧ ∀ p, p ∈ out ↔ p ∈ l ∨ ∃ c ∈ cs, Brg c l p
def Clos (cs : List Crd) (l : List Pr) : Prop := ∀ p, (∃ c ∈ cs, Brg c l p) → p ∈ l
theorem Rnd.len {cs : List Crd} {l out : List Pr} (h : Rnd cs l out) : l.length ≤ out.length := by
  obtain ⟨new, rfl, -⟩ := h
  rw [List.length_append]; omega
theorem Rnd.same {cs : List Crd} {l out : List Pr} (h : Rnd cs l out) (he : out.length = l.length) : out = l ∧ Clos cs l := by
  obtain ⟨new, rfl, -, -, hm⟩ := h
  rw [List.length_append] at he
  have : new = [] := List.eq_nil_of_length_eq_zero (by omega)
  subst this
  rw [List.append_nil] at hm ⊢
  exact ⟨rfl, fun p hp => (hm p).2 (.inr hp)⟩
theorem clos_imp {cs : List Crd} {l : List Pr} (h : Clos cs l) {p : Pr} (hp : Imp (· ∈ cs) p) : p ∈ l := by
  induction hp with
  | mem hs hk => exact h _ ⟨_, hs, rfl, .inl ⟨hk, rfl⟩⟩
  | inc hs hk _ ih => exact h _ ⟨_, hs, rfl, .inr (.inl ⟨hk, ih⟩)⟩
  | lnk hs hk _ hd _ ih1 ih2 => exact h _ ⟨_, hs, rfl, .inr (.inr (.inl ⟨hk, _, ih1, hd, ih2⟩))⟩
  | bth hs hk _ _ ih1 ih2 => exact h _ ⟨_, hs, rfl, .inr (.inr (.inr ⟨hk, ih1, ih2⟩))⟩
theorem brg_imp {cs : List Crd} {l : List Pr} (h : ∀ p ∈ l, Imp (· ∈ cs) p) {c : Crd} (hc : c ∈ cs) {p : Pr} (hb : Brg c l p) : Imp (· ∈ cs) p := by
  obtain ⟨r, x⟩ := p
  obtain ⟨h1, h2⟩ := hb
  simp only at h1 h2
  subst h1
  rcases h2 with ⟨hk, rfl⟩ | ⟨hk, h3⟩ | ⟨hk, y, h3, hd, h4⟩ | ⟨hk, h3, h4⟩
  · exact Imp.mem (S := (· ∈ cs)) hc hk
  · exact Imp.inc (S := (· ∈ cs)) hc hk (h _ h3)
  · exact Imp.lnk (S := (· ∈ cs)) hc hk (h _ h3) hd (h _ h4)
  · exact Imp.bth (S := (· ∈ cs)) hc hk (h _ h3) (h _ h4)
theorem Rnd.imp {cs : List Crd} {l out : List Pr} (h : Rnd cs l out) (hi : ∀ p ∈ l, Imp (· ∈ cs) p) : ∀ p ∈ out, Imp (· ∈ cs) p := fun p hp => by
  obtain ⟨new, rfl, -, -, hm⟩ := h
  rcases (hm p).1 hp with h1 | ⟨c, hc, h1⟩
  · exact hi p h1
  · exact brg_imp hi hc h1
def whos (cs : List Crd) (l : List Pr) : List ByteArray := cs.map (·.wh) ++ l.map (·.2)
def uniW (cs : List Crd) (ws : List ByteArray) : List Pr := (cs.map roleOf).flatMap fun r => ws.map fun x => (r, x)
theorem uniW_length (cs : List Crd) (ws : List ByteArray) : (uniW cs ws).length = cs.length * ws.length := by
  have : ∀ (a : List Rl), (a.flatMap fun r => ws.map fun x => (r, x)).length = a.length * ws.length := by
    intro a
    induction a with
    | nil => simp
    | cons r t ih => rw [List.flatMap_cons, List.length_append, ih, List.length_map, List.length_cons, Nat.succ_mul, Nat.add_comm]
  unfold uniW
  rw [this, List.length_map]
theorem brg_uni {cs : List Crd} {l : List Pr} {ws : List ByteArray} (hw : ∀ c ∈ cs, c.wh ∈ ws) (hl : ∀ p ∈ l, p.2 ∈ ws) {c : Crd} (hc : c ∈ cs) {p : Pr} (hb : Brg c l p) : p ∈ uniW cs ws ∧ p.2 ∈ ws := by
  obtain ⟨h1, h2⟩ := hb
  have hx : p.2 ∈ ws := by
    rcases h2 with ⟨_, h3⟩ | ⟨_, h3⟩ | ⟨_, y, _, _, h3⟩ | ⟨_, h3, _⟩
    · rw [h3]; exact hw c hc
    · exact hl ((c.ao, c.an), p.2) h3
    · exact hl ((y, c.bn), p.2) h3
    · exact hl ((c.ao, c.an), p.2) h3
  exact ⟨List.mem_flatMap.2 ⟨roleOf c, List.mem_map.2 ⟨c, hc, rfl⟩, List.mem_map.2 ⟨p.2, hx, by rw [← h1]⟩⟩, hx⟩
end Go.Proofs.YtoajckhnneagnaaDoor.Sh
namespace Go.Proofs.YtoajckhnneagnaaDoor.Sh
open Go Go.RowKit

set_option linter.unusedVariables false
set_option linter.unusedSimpArgs false
inductive PT where
  | mk (o n x : ByteArray) (d q : Int) (A : Option Addr) (c : Nat) (ps : List PT) : PT
def PT.o : PT → ByteArray | .mk o _ _ _ _ _ _ _ => o
def PT.n : PT → ByteArray | .mk _ n _ _ _ _ _ _ => n
def PT.x : PT → ByteArray | .mk _ _ x _ _ _ _ _ => x
def PT.d : PT → Int | .mk _ _ _ d _ _ _ _ => d
def PT.q : PT → Int | .mk _ _ _ _ q _ _ _ => q
def PT.ps : PT → List PT | .mk _ _ _ _ _ _ _ ps => ps
def PT.pr (p : PT) : Pr := ((p.o, p.n), p.x)
def PT.cells : PT → List Value | .mk o n x d q A c ps => [.string o, .string n, .string x, .int .i64 d, .int .i64 q, .slice A ps.length c]
def encT : Enc PT := ⟨6, PT.cells, by omega, fun ⟨_, _, _, _, _, _, _, _⟩ => rfl, fun ⟨o, n, x, d, q, A, c, ps⟩ u hu => by simp [PT.cells] at hu; rcases hu with rfl | rfl | rfl | rfl | rfl | rfl <;> rfl⟩
theorem PT.ind {P : PT → Prop} (h : ∀ o n x d q A c ps, (∀ p ∈ ps, P p) → P (.mk o n x d q A c ps)) (p : PT) : P p :=
  PT.rec (motive_1 := P) (motive_2 := fun l => ∀ p ∈ l, P p) (fun o n x d q A c ps ih => h o n x d q A c ps ih) (by simp) (fun a t ha ht p hp => by
    rcases List.mem_cons.1 hp with e | e
    · rw [e]; exact ha
    · exact ht p e) p
noncomputable def PT.fold {β : Type} (f : ByteArray → ByteArray → ByteArray → Int → Int → List β → β) (p : PT) : β :=
  PT.rec (motive_1 := fun _ => β) (motive_2 := fun _ => List β) (fun o n x d q _ _ _ r => f o n x d q r) [] (fun _ _ a b => a :: b) p
theorem PT.fold_eq {β : Type} (f : ByteArray → ByteArray → ByteArray → Int → Int → List β → β) (o n x : ByteArray) (d q : Int) (A : Option Addr) (c : Nat) (ps : List PT) :
    PT.fold f (.mk o n x d q A c ps) = f o n x d q (ps.map (PT.fold f)) := by
  have key : ∀ l : List PT, PT.rec_1 (motive_1 := fun _ => β) (motive_2 := fun _ => List β) (fun o n x d q _ _ _ r => f o n x d q r) [] (fun _ _ a b => a :: b) l = l.map (PT.fold f) := by
    intro l
    induction l with
    | nil => rfl
    | cons a t ih => rw [List.map_cons, ← ih]; rfl
  rw [← key]
  rfl
noncomputable def PT.bare : PT → PT := PT.fold fun o n x d q r => .mk o n x d q none 0 r
theorem PT.bare_eq (o n x : ByteArray) (d q : Int) (A : Option Addr) (c : Nat) (ps : List PT) : (PT.mk o n x d q A c ps).bare = .mk o n x d q none 0 (ps.map PT.bare) := by
  unfold PT.bare; rw [PT.fold_eq]
theorem bare_same {o n x o' n' x' : ByteArray} {d q d' q' : Int} {A A' : Option Addr} {c c' : Nat} {ps ps' : List PT} :
    (PT.mk o n x d q A c ps).bare = (PT.mk o' n' x' d' q' A' c' ps').bare ↔ o = o' ∧ n = n' ∧ x = x' ∧ d = d' ∧ q = q' ∧ ps.map PT.bare = ps'.map PT.bare := by
  rw [PT.bare_eq, PT.bare_eq]
  simp
def okI (i : Int × Int) : Prop := (-9223372036854775808 ≤ i.1 ∧ i.1 ≤ 9223372036854775807) ∧ (-9223372036854775808 ≤ i.2 ∧ i.2 ≤ 9223372036854775807)
inductive PIn (w : World) (B : Nat) : PT → Prop
  | mk {o n x : ByteArray} {d q : Int} {A : Option Addr} {c : Nat} {ps : List PT} : okI (d, q) → ps.length ≤ c → c ≤ 9223372036854775807 → Els encT w B A ps → (∀ p ∈ ps, PIn w B p) → PIn w B (.mk o n x d q A c ps)
section
variable {w w' : World} {B B' : Nat}
theorem PIn.into {p : PT} (h : PIn w B p) (hb : Below B w w') : PIn w' B p := by
  induction h with
  | mk h0 h1 h2 h3 _ ih => exact .mk h0 h1 h2 (h3.below hb) ih
theorem PIn.more {p : PT} (h : PIn w B p) (hB : B ≤ B') : PIn w B' p := by
  induction h with
  | mk h0 h1 h2 h3 _ ih => exact .mk h0 h1 h2 (h3.more hB) ih
theorem PIn.now {p : PT} (h : PIn w w.heap.size p) (hb : Below w.heap.size w w') : PIn w' w'.heap.size p := (h.into hb).more hb.size
theorem PIn.open' {o n x : ByteArray} {d q : Int} {A : Option Addr} {c : Nat} {ps : List PT} (h : PIn w B (.mk o n x d q A c ps)) : ps.length ≤ c ∧ c ≤ 9223372036854775807 ∧ Els encT w B A ps ∧ ∀ p ∈ ps, PIn w B p := by
  cases h with | mk h0 h1 h2 h3 h4 => exact ⟨h1, h2, h3, h4⟩
theorem PIn.get {A : Option Addr} {ps : List PT} {j : Nat} {o n x : ByteArray} {d q : Int} {A' : Option Addr} {c : Nat} {qs : List PT} (h : Els encT w B A ps) (hj : ps[j]? = some (.mk o n x d q A' c qs)) :
    ∃ ad aj, A = some ad ∧ ad.block < B ∧ ad.add (j * 6) = aj ∧ aj.block = ad.block ∧ w.cell? aj = some (.string o) ∧ w.cell? ⟨aj.block, aj.off + 1, none⟩ = some (.string n) ∧ w.cell? ⟨aj.block, aj.off + 2, none⟩ = some (.string x) ∧
      w.cell? ⟨aj.block, aj.off + 3, none⟩ = some (.int .i64 d) ∧ w.cell? ⟨aj.block, aj.off + 4, none⟩ = some (.int .i64 q) ∧ w.cell? ⟨aj.block, aj.off + 5, none⟩ = some (.slice A' qs.length c) := by
  obtain ⟨ad, aj, h1, h2, h3, h4, h5, h6⟩ := h.get hj
  exact ⟨ad, aj, h1, h2, h3, h4, h5 _ rfl, h6 1 _ (by omega) rfl, h6 2 _ (by omega) rfl, h6 3 _ (by omega) rfl, h6 4 _ (by omega) rfl, h6 5 _ (by omega) rfl⟩
end
def PrAt (w : World) (g : Nat) (p : PT) : Prop := w.heap[g]? = some (.cells p.cells.toArray 30 (0, 0))
section
variable {w w' : World} {g : Nat} {p : PT}
theorem PrAt.new (w : World) (p : PT) : PrAt (w.alloc (.cells p.cells.toArray 30)) w.heap.size p := heap_alloc_new w _
theorem PrAt.lt (h : PrAt w g p) : g < w.heap.size := (Array.getElem?_eq_some_iff.1 h).1
theorem PrAt.kept (h : PrAt w g p) (hb : Below w.heap.size w w') : PrAt w' g p := (hb.block g h.lt).trans h
theorem PrAt.all {o n x : ByteArray} {d q : Int} {A : Option Addr} {c : Nat} {ps : List PT} (h : PrAt w g (.mk o n x d q A c ps)) :
    w.cell? ⟨g, 0, none⟩ = some (.string o) ∧ w.cell? ⟨g, 1, none⟩ = some (.string n) ∧ w.cell? ⟨g, 2, none⟩ = some (.string x) ∧ w.cell? ⟨g, 3, none⟩ = some (.int .i64 d) ∧ w.cell? ⟨g, 4, none⟩ = some (.int .i64 q) ∧ w.cell? ⟨g, 5, none⟩ = some (.slice A ps.length c) := by
  refine ⟨?_, ?_, ?_, ?_, ?_, ?_⟩ <;> (rw [cell_of_row w g _ _ _ (0, 0) h]; rfl)
theorem below_pr (w : World) (p : PT) : Below w.heap.size w (w.alloc (.cells p.cells.toArray 30)) := (Below.refl _ _).alloc (Nat.le_refl _) _
end
end Go.Proofs.YtoajckhnneagnaaDoor.Sh
namespace Go.Proofs.YtoajckhnneagnaaDoor.Sh
open Go Go.RowKit

set_option linter.unusedVariables false
set_option linter.unusedSimpArgs false
def Der (c : Crd) (L : Pr → Prop) (p : Pr) : Prop :=
  p.1 = roleOf c ∧ ((c.kd = 1 ∧ p.2 = c.wh) ∨ (c.kd = 2 ∧ L ((c.ao, c.an), p.2)) ∨ (c.kd = 3 ∧ ∃ y, L (firstOf c, y) ∧ isD y ∧ L ((y, c.bn), p.2)) ∨ (c.kd = 4 ∧ L ((c.ao, c.an), p.2) ∧ L ((c.bo, c.bn), p.2)))
theorem brg_der {c : Crd} {l : List Pr} {p : Pr} : Brg c l p ↔ Der c (· ∈ l) p := Iff.rfl
theorem Der.imp {c : Crd} {L L' : Pr → Prop} {p : Pr} (h : Der c L p) (hL : ∀ q, q.2 = p.2 ∨ isD q.2 → L q → L' q) : Der c L' p := by
  obtain ⟨h1, h2⟩ := h
  refine ⟨h1, ?_⟩
  rcases h2 with h3 | ⟨hk, h3⟩ | ⟨hk, y, h3, hd, h4⟩ | ⟨hk, h3, h4⟩
  · exact .inl h3
  · exact .inr (.inl ⟨hk, hL _ (.inl rfl) h3⟩)
  · exact .inr (.inr (.inl ⟨hk, y, hL _ (.inr hd) h3, hd, hL _ (.inl rfl) h4⟩))
  · exact .inr (.inr (.inr ⟨hk, hL _ (.inl rfl) h3, hL _ (.inl rfl) h4⟩))
theorem Der.mono {c : Crd} {L L' : Pr → Prop} {p : Pr} (h : Der c L p) (hL : ∀ q, L q → L' q) : Der c L' p := h.imp fun q _ => hL q
def Lv (cs : List Crd) : Nat → Pr → Prop
  | 0 => fun _ => False
  | n + 1 => fun p => Lv cs n p ∨ ∃ c ∈ cs, Der c (Lv cs n) p
section
variable {cs : List Crd} {p : Pr}
theorem lv_succ {n : Nat} : Lv cs (n + 1) p ↔ Lv cs n p ∨ ∃ c ∈ cs, Der c (Lv cs n) p := Iff.rfl
theorem lv_mono {m n : Nat} (h : m ≤ n) (hp : Lv cs m p) : Lv cs n p := by
  induction n with
  | zero => obtain rfl : m = 0 := by omega
            exact hp
  | succ n ih =>
    rcases Nat.eq_or_lt_of_le h with e | e
    · subst e; exact hp
    · exact .inl (ih (by omega))
theorem lv_imp {n : Nat} (h : Lv cs n p) : Imp (· ∈ cs) p := by
  induction n generalizing p with
  | zero => exact h.elim
  | succ n ih =>
    rcases h with h | ⟨c, hc, h1, h2⟩
    · exact ih h
    · obtain ⟨r, x⟩ := p
      simp only at h1 h2
      subst h1
      rcases h2 with ⟨hk, rfl⟩ | ⟨hk, h3⟩ | ⟨hk, y, h3, hd, h4⟩ | ⟨hk, h3, h4⟩
      · exact Imp.mem (S := (· ∈ cs)) hc hk
      · exact Imp.inc (S := (· ∈ cs)) hc hk (ih h3)
      · exact Imp.lnk (S := (· ∈ cs)) hc hk (ih h3) hd (ih h4)
      · exact Imp.bth (S := (· ∈ cs)) hc hk (ih h3) (ih h4)
theorem imp_lv (h : Imp (· ∈ cs) p) : ∃ n, Lv cs n p := by
  induction h with
  | mem hs hk => exact ⟨1, .inr ⟨_, hs, rfl, .inl ⟨hk, rfl⟩⟩⟩
  | inc hs hk _ ih =>
    obtain ⟨n, hn⟩ := ih
    exact ⟨n + 1, .inr ⟨_, hs, rfl, .inr (.inl ⟨hk, hn⟩)⟩⟩
  | lnk hs hk _ hd _ ih1 ih2 =>
    obtain ⟨n, hn⟩ := ih1
    obtain ⟨m, hm⟩ := ih2
    exact ⟨max n m + 1, .inr ⟨_, hs, rfl, .inr (.inr (.inl ⟨hk, _, lv_mono (Nat.le_max_left _ _) hn, hd, lv_mono (Nat.le_max_right _ _) hm⟩))⟩⟩
  | bth hs hk _ _ ih1 ih2 =>
    obtain ⟨n, hn⟩ := ih1
    obtain ⟨m, hm⟩ := ih2
    exact ⟨max n m + 1, .inr ⟨_, hs, rfl, .inr (.inr (.inr ⟨hk, lv_mono (Nat.le_max_left _ _) hn, lv_mono (Nat.le_max_right _ _) hm⟩))⟩⟩
theorem least_of {P : Nat → Prop} : ∀ n, P n → ∃ k, P k ∧ ∀ m, m < k → ¬ P m := fun n => by
  induction n using Nat.strongRecOn with
  | ind n ih =>
    intro h
    by_cases hx : ∃ m, m < n ∧ P m
    · obtain ⟨m, hm, h2⟩ := hx
      exact ih m hm h2
    · exact ⟨n, h, fun m hm h2 => hx ⟨m, hm, h2⟩⟩
end
open Classical in
/-- The round of a pair; none: 0. -/
noncomputable def rd (cs : List Crd) (p : Pr) : Nat := if h : ∃ n, Lv cs n p ∧ ∀ m, m < n → ¬ Lv cs m p then Classical.choose h else 0
section
variable {cs : List Crd} {p : Pr}
theorem rd_lv {n : Nat} : Lv cs n p ↔ rd cs p ≠ 0 ∧ rd cs p ≤ n := by
  unfold rd
  constructor
  · intro h
    have hx : ∃ n, Lv cs n p ∧ ∀ m, m < n → ¬ Lv cs m p := least_of n h
    rw [dif_pos hx]
    have hc := Classical.choose_spec hx
    generalize Classical.choose hx = k at hc
    refine ⟨fun e => ?_, ?_⟩
    · subst e; exact hc.1.elim
    · rcases Nat.lt_or_ge n k with h1 | h1
      · exact absurd h (hc.2 n h1)
      · exact h1
  · rintro ⟨h1, h2⟩
    split at h2
    · rename_i hx
      exact lv_mono h2 (Classical.choose_spec hx).1
    · rename_i hx
      rw [dif_neg hx] at h1
      exact absurd rfl h1
theorem rd_imp : rd cs p ≠ 0 ↔ Imp (· ∈ cs) p := ⟨fun h => lv_imp (rd_lv.2 ⟨h, Nat.le_refl _⟩), fun h => by obtain ⟨n, hn⟩ := imp_lv h; exact (rd_lv.1 hn).1⟩
theorem rd_eq {n : Nat} : rd cs p = n + 1 ↔ Lv cs (n + 1) p ∧ ¬ Lv cs n p := by
  rw [rd_lv, rd_lv]; omega
theorem rd_der {n : Nat} (h : rd cs p = n + 1) : ∃ c ∈ cs, Der c (Lv cs n) p := by
  obtain ⟨h1, h2⟩ := rd_eq.1 h
  rcases h1 with h1 | h1
  · exact absurd h1 h2
  · exact h1
theorem rd_le {n : Nat} {c : Crd} (hc : c ∈ cs) (h : Der c (Lv cs n) p) : rd cs p ≠ 0 ∧ rd cs p ≤ n + 1 := rd_lv.1 (.inr ⟨c, hc, h⟩)
end
def domN (i : Nat) : ByteArray := domB ((i : Int) + 1)
theorem domN_isD {i : Nat} (h : i < 16) : isD (domN i) := (isD_iff _).2 ⟨i, h, rfl⟩
open Classical in
/-- By which pairs a credential brings a pair about. -/
noncomputable def why (c : Crd) (L : Pr → Prop) (p : Pr) : Option (List Pr) :=
  if p.1 = roleOf c then
    if c.kd = 1 then (if p.2 = c.wh then some [] else none)
    else if c.kd = 2 then (if L ((c.ao, c.an), p.2) then some [((c.ao, c.an), p.2)] else none)
    else if c.kd = 3 then ((List.range 16).find? fun i => decide (L (firstOf c, domN i) ∧ L ((domN i, c.bn), p.2))).map fun i => [(firstOf c, domN i), ((domN i, c.bn), p.2)]
    else if c.kd = 4 then (if L ((c.ao, c.an), p.2) ∧ L ((c.bo, c.bn), p.2) then some [((c.ao, c.an), p.2), ((c.bo, c.bn), p.2)] else none)
    else none
  else none
section
variable {c : Crd} {L L' : Pr → Prop} {p : Pr} {ps : List Pr}
theorem why_iff : why c L p = some ps ↔ p.1 = roleOf c ∧
    ((c.kd = 1 ∧ p.2 = c.wh ∧ ps = []) ∨ (c.kd = 2 ∧ L ((c.ao, c.an), p.2) ∧ ps = [((c.ao, c.an), p.2)]) ∨
     (c.kd = 3 ∧ ∃ i, i < 16 ∧ L (firstOf c, domN i) ∧ L ((domN i, c.bn), p.2) ∧ (∀ j, j < i → ¬ (L (firstOf c, domN j) ∧ L ((domN j, c.bn), p.2))) ∧ ps = [(firstOf c, domN i), ((domN i, c.bn), p.2)]) ∨
     (c.kd = 4 ∧ L ((c.ao, c.an), p.2) ∧ L ((c.bo, c.bn), p.2) ∧ ps = [((c.ao, c.an), p.2), ((c.bo, c.bn), p.2)])) := by
  classical
  unfold why
  by_cases h0 : p.1 = roleOf c
  · rw [if_pos h0]
    by_cases h1 : c.kd = 1
    · rw [if_pos h1]
      simp only [h0, h1, true_and]
      by_cases h2 : p.2 = c.wh
      · simp [h2, eq_comm]
      · simp [h2]
    · rw [if_neg h1]
      by_cases h2 : c.kd = 2
      · rw [if_pos h2]
        simp only [h0, h2, true_and]
        by_cases h3 : L ((c.ao, c.an), p.2)
        · simp [h3, eq_comm]
        · simp [h3]
      · rw [if_neg h2]
        by_cases h3 : c.kd = 3
        · rw [if_pos h3]
          simp only [h0, h3, true_and]
          rw [Option.map_eq_some_iff]
          constructor
          · rintro ⟨i, hi, rfl⟩
            rw [List.find?_range_eq_some] at hi
            obtain ⟨ha, hb, hc⟩ := hi
            refine .inr (.inr (.inl ⟨i, List.mem_range.1 hb, (of_decide_eq_true ha).1, (of_decide_eq_true ha).2, fun j hj hh => ?_, rfl⟩))
            have := hc j hj
            rw [decide_eq_true hh] at this
            cases this
          · rintro (h4 | h4 | ⟨i, hi, ha, hb, hc, rfl⟩ | h4)
            · exact absurd h4.1 (by decide)
            · exact absurd h4.1 (by decide)
            · refine ⟨i, ?_, rfl⟩
              rw [List.find?_range_eq_some]
              exact ⟨decide_eq_true ⟨ha, hb⟩, List.mem_range.2 hi, fun j hj => by rw [decide_eq_false (hc j hj)]; rfl⟩
            · exact absurd h4.1 (by decide)
        · rw [if_neg h3]
          by_cases h4 : c.kd = 4
          · rw [if_pos h4]
            simp only [h0, h4, true_and]
            by_cases h5 : L ((c.ao, c.an), p.2) ∧ L ((c.bo, c.bn), p.2)
            · rw [if_pos h5]; simp [h5.1, h5.2, eq_comm]
            · rw [if_neg h5]
              constructor
              · intro h6; cases h6
              · rintro (h6 | h6 | h6 | h6)
                · exact absurd h6.1 (by decide)
                · exact absurd h6.1 (by decide)
                · exact absurd h6.1 (by decide)
                · exact absurd ⟨h6.1, h6.2.1⟩ h5
          · rw [if_neg h4]
            constructor
            · intro h6; cases h6
            · rintro ⟨-, h6 | h6 | h6 | h6⟩
              · exact absurd h6.1 h1
              · exact absurd h6.1 h2
              · exact absurd h6.1 h3
              · exact absurd h6.1 h4
  · rw [if_neg h0]
    constructor
    · intro h6; cases h6
    · rintro ⟨h6, -⟩; exact absurd h6 h0
theorem why_der (h : why c L p = some ps) : Der c L p := by
  obtain ⟨h0, h1⟩ := why_iff.1 h
  refine ⟨h0, ?_⟩
  rcases h1 with ⟨hk, h2, -⟩ | ⟨hk, h2, -⟩ | ⟨hk, i, hi, h2, h3, -⟩ | ⟨hk, h2, h3, -⟩
  · exact .inl ⟨hk, h2⟩
  · exact .inr (.inl ⟨hk, h2⟩)
  · exact .inr (.inr (.inl ⟨hk, _, h2, domN_isD hi, h3⟩))
  · exact .inr (.inr (.inr ⟨hk, h2, h3⟩))
theorem der_why (h : Der c L p) : ∃ ps, why c L p = some ps := by
  obtain ⟨h0, h1⟩ := h
  rcases h1 with ⟨hk, h2⟩ | ⟨hk, h2⟩ | ⟨hk, y, h2, hd, h3⟩ | ⟨hk, h2, h3⟩
  · exact ⟨_, why_iff.2 ⟨h0, .inl ⟨hk, h2, rfl⟩⟩⟩
  · exact ⟨_, why_iff.2 ⟨h0, .inr (.inl ⟨hk, h2, rfl⟩)⟩⟩
  · obtain ⟨n, hn, rfl⟩ := (isD_iff y).1 hd
    obtain ⟨k, ⟨hk1, hk2⟩, hk3⟩ := least_of (P := fun i => L (firstOf c, domN i) ∧ L ((domN i, c.bn), p.2)) n ⟨h2, h3⟩
    have : k < 16 := by
      rcases Nat.lt_or_ge n k with h4 | h4
      · exact absurd ⟨h2, h3⟩ (hk3 n h4)
      · omega
    exact ⟨_, why_iff.2 ⟨h0, .inr (.inr (.inl ⟨hk, k, this, hk1, hk2, hk3, rfl⟩))⟩⟩
  · exact ⟨_, why_iff.2 ⟨h0, .inr (.inr (.inr ⟨hk, h2, h3, rfl⟩))⟩⟩
theorem why_none : why c L p = none ↔ ¬ Der c L p := by
  constructor
  · intro h hd
    obtain ⟨ps, h2⟩ := der_why hd
    rw [h] at h2; cases h2
  · intro h
    cases h2 : why c L p with
    | none => rfl
    | some ps => exact absurd (why_der h2) h
theorem why_mem (h : why c L p = some ps) : ∀ q ∈ ps, L q ∧ (q.2 = p.2 ∨ isD q.2) := by
  obtain ⟨-, h1⟩ := why_iff.1 h
  rcases h1 with ⟨hk, h2, rfl⟩ | ⟨hk, h2, rfl⟩ | ⟨hk, i, hi, h2, h3, -, rfl⟩ | ⟨hk, h2, h3, rfl⟩
  · simp
  · intro q hq
    rw [List.mem_singleton] at hq; subst hq
    exact ⟨h2, .inl rfl⟩
  · intro q hq
    simp only [List.mem_cons, List.not_mem_nil, or_false] at hq
    rcases hq with rfl | rfl
    · exact ⟨h2, .inr (domN_isD hi)⟩
    · exact ⟨h3, .inl rfl⟩
  · intro q hq
    simp only [List.mem_cons, List.not_mem_nil, or_false] at hq
    rcases hq with rfl | rfl
    · exact ⟨h2, .inl rfl⟩
    · exact ⟨h3, .inl rfl⟩
theorem why_len (h : why c L p = some ps) : ps.length ≤ 2 := by
  obtain ⟨-, h1⟩ := why_iff.1 h
  rcases h1 with ⟨hk, h2, rfl⟩ | ⟨hk, h2, rfl⟩ | ⟨hk, i, hi, h2, h3, -, rfl⟩ | ⟨hk, h2, h3, rfl⟩ <;> simp
theorem why_congr (hL : ∀ q, q.2 = p.2 ∨ isD q.2 → (L q ↔ L' q)) : why c L p = why c L' p := by
  classical
  unfold why
  have e1 : ∀ r, L (r, p.2) = L' (r, p.2) := fun r => propext (hL _ (.inl rfl))
  have e2 : ∀ i, i < 16 → ∀ r, L (r, domN i) = L' (r, domN i) := fun i hi r => propext (hL _ (.inr (domN_isD hi)))
  have e3 : ((List.range 16).find? fun i => decide (L (firstOf c, domN i) ∧ L ((domN i, c.bn), p.2))) = (List.range 16).find? fun i => decide (L' (firstOf c, domN i) ∧ L' ((domN i, c.bn), p.2)) := by
    have key : ∀ l : List Nat, (∀ i ∈ l, i < 16) → (l.find? fun i => decide (L (firstOf c, domN i) ∧ L ((domN i, c.bn), p.2))) = l.find? fun i => decide (L' (firstOf c, domN i) ∧ L' ((domN i, c.bn), p.2)) := by
      intro l hl
      induction l with
      | nil => rfl
      | cons a t ih =>
        rw [List.find?_cons, List.find?_cons, ih (fun i hi => hl i (List.mem_cons_of_mem _ hi))]
        simp only [e1, e2 a (hl a (by simp))]
    exact key _ fun i hi => List.mem_range.1 hi
  rw [e3]
  simp only [e1]
end
noncomputable def fst1 (cs : List Crd) (L : Pr → Prop) (p : Pr) : Option (Crd × List Pr) := cs.findSome? fun c => (why c L p).map fun ps => (c, ps)
section
variable {cs : List Crd} {L L' : Pr → Prop} {p : Pr} {c : Crd} {ps : List Pr}
theorem fst1_some (h : fst1 cs L p = some (c, ps)) : c ∈ cs ∧ why c L p = some ps := by
  unfold fst1 at h
  rw [List.findSome?_eq_some_iff] at h
  obtain ⟨l1, a, l2, h1, h2, -⟩ := h
  rw [Option.map_eq_some_iff] at h2
  obtain ⟨ps', h3, h4⟩ := h2
  cases h4
  exact ⟨by rw [h1]; simp, h3⟩
theorem fst1_ex (hc : c ∈ cs) (h : Der c L p) : ∃ c' ps, fst1 cs L p = some (c', ps) := by
  cases h2 : fst1 cs L p with
  | some x => exact ⟨x.1, x.2, rfl⟩
  | none =>
    unfold fst1 at h2
    rw [List.findSome?_eq_none_iff] at h2
    have := h2 c hc
    rw [Option.map_eq_none_iff, why_none] at this
    exact absurd h this
end
noncomputable def fs (cs : List Crd) (p : Pr) : Option (Crd × List Pr) := fst1 cs (Lv cs (rd cs p - 1)) p
section
variable {cs : List Crd} {p : Pr} {c : Crd} {ps : List Pr}
theorem fs_ex (h : rd cs p ≠ 0) : ∃ c ps, fs cs p = some (c, ps) := by
  obtain ⟨c, hc, hd⟩ := rd_der (p := p) (cs := cs) (n := rd cs p - 1) (by omega)
  exact fst1_ex hc hd
theorem fs_mem (h : fs cs p = some (c, ps)) : c ∈ cs := (fst1_some h).1
theorem fs_why (h : fs cs p = some (c, ps)) : why c (Lv cs (rd cs p - 1)) p = some ps := (fst1_some h).2
theorem fs_lt (h : fs cs p = some (c, ps)) : ∀ q ∈ ps, rd cs q ≠ 0 ∧ rd cs q < rd cs p ∧ (q.2 = p.2 ∨ isD q.2) := fun q hq => by
  obtain ⟨h1, h2⟩ := why_mem (fs_why h) q hq
  obtain ⟨h3, h4⟩ := rd_lv.1 h1
  exact ⟨h3, by omega, h2⟩
theorem fs_rd (h : fs cs p = some (c, ps)) : rd cs p ≠ 0 := by
  have h1 := why_der (fs_why h)
  exact (rd_le (fs_mem h) h1).1
theorem fs_len (h : fs cs p = some (c, ps)) : ps.length ≤ 2 := why_len (fs_why h)
end
inductive Can (cs : List Crd) : PT → Prop
  | mk {p : PT} {c : Crd} {ps : List Pr} : fs cs p.pr = some (c, ps) → p.d = c.d → p.q = c.q → p.ps.map PT.pr = ps → (∀ a ∈ p.ps, Can cs a) → Can cs p
section
variable {cs : List Crd}
theorem map_eq_of {l l' : List PT} (h : l.map PT.pr = l'.map PT.pr) (hk : ∀ a ∈ l, ∀ b ∈ l', a.pr = b.pr → a.bare = b.bare) : l.map PT.bare = l'.map PT.bare := by
  induction l generalizing l' with
  | nil =>
    cases l' with
    | nil => rfl
    | cons _ _ => simp at h
  | cons a t ih =>
    cases l' with
    | nil => simp at h
    | cons b t' =>
      simp only [List.map_cons, List.cons.injEq] at h ⊢
      exact ⟨hk a (by simp) b (by simp) h.1, ih h.2 fun x hx y hy => hk x (List.mem_cons_of_mem _ hx) y (List.mem_cons_of_mem _ hy)⟩
theorem Can.uniq {p q : PT} (h : Can cs p) (h' : Can cs q) (e : p.pr = q.pr) : p.bare = q.bare := by
  induction h generalizing q with
  | mk h1 h2 h3 h4 h5 ih =>
    rename_i p c ps
    cases h' with
    | mk g1 g2 g3 g4 g5 =>
      rw [e] at h1
      rw [h1] at g1
      cases g1
      obtain ⟨o, n, x, d, qq, A, cp, pp⟩ := p
      obtain ⟨o', n', x', d', q', A', c', pp'⟩ := q
      simp only [PT.pr, PT.o, PT.n, PT.x, Prod.mk.injEq] at e
      simp only [PT.d, PT.q, PT.ps] at h2 h3 h4 g2 g3 g4 ih g5
      rw [bare_same]
      exact ⟨e.1.1, e.1.2, e.2, h2.trans g2.symm, h3.trans g3.symm, map_eq_of (h4.trans g4.symm) fun a ha b hb hab => ih a ha (g5 b hb) hab⟩
inductive Rch (cs : List Crd) (P : Pr → Prop) : Pr → Prop
  | base {p : Pr} : P p → Rch cs P p
  | step {p q : Pr} {c : Crd} {ps : List Pr} : Rch cs P p → fs cs p = some (c, ps) → q ∈ ps → Rch cs P q
end
end Go.Proofs.YtoajckhnneagnaaDoor.Sh
