/-
  The program's settled, by contract.
-/
import Derived.Test.YtoajckhnneagnaaDoorJd6
import Derived.Test.YtoajckhnneagnaaDoorJd14
import Derived.Test.YtoajckhnneagnaaDoorJd1
import Derived.Test.YtoajckhnneagnaaDoorJd5
import Derived.Shelf.SlSortCmp.InsertionK
import Derived.Test.YtoajckhnneagnaaDoorJd2
import Derived.Test.YtoajckhnneagnaaDoorJd3
set_option linter.unusedVariables false
set_option linter.unusedSimpArgs false
namespace Go.Proofs.YtoajckhnneagnaaDoor.Sh
open Go Go.RowKit
open Go.Maps (Keyed)

set_option linter.unusedSimpArgs false
set_option linter.unusedVariables false
end Go.Proofs.YtoajckhnneagnaaDoor.Sh
namespace Go.Proofs.YtoajckhnneagnaaDoor.Sh
open Go Go.RowKit

def lessL (o n o' n' : ByteArray) : Bool := if o.data.toList = o'.data.toList then Go.Op.bytesLess n.data.toList n'.data.toList else Go.Op.bytesLess o.data.toList o'.data.toList
theorem refLess_any (o n o' n' : ByteArray) (w : World) :
    Calls Tryd.prog 50 #[.agg #[.string o, .string n], .agg #[.string o', .string n']] w fun e w' => e = .returned (.bool (lessL o n o' n')) ∧ Below w.heap.size w w' := by
  by_cases h : o.data.toList = o'.data.toList
  · have HE : Hid (lessL o n o' n' = Go.Op.bytesLess n.toList n'.toList) := hid (by unfold lessL; rw [if_pos h, Lib.toList_data, Lib.toList_data])
    have hb : (o.toList == o'.toList) = true := by rw [Lib.toList_data, Lib.toList_data, h]; simp
    clear h
    go_enter Tryd.func50, Tryd.ntmps50
    go_wp2
    go_ret
    exact ⟨by rw [HE.out]; rfl, ((Below.refl _ _).alloc (Nat.le_refl _) _).alloc (by rw [World.size_alloc]; exact Nat.le_succ _) _⟩
  · have HE : Hid (lessL o n o' n' = Go.Op.bytesLess o.toList o'.toList) := hid (by unfold lessL; rw [if_neg h, Lib.toList_data, Lib.toList_data])
    have hb : (o.toList == o'.toList) = false := by rw [Lib.toList_data, Lib.toList_data, beq_eq_false_iff_ne]; exact h
    clear h
    go_enter Tryd.func50, Tryd.ntmps50
    go_wp2
    go_ret
    exact ⟨by rw [HE.out]; rfl, ((Below.refl _ _).alloc (Nat.le_refl _) _).alloc (by rw [World.size_alloc]; exact Nat.le_succ _) _⟩
end Go.Proofs.YtoajckhnneagnaaDoor.Sh
namespace Go.Proofs.YtoajckhnneagnaaDoor.Sh
open Go Go.RowKit

end Go.Proofs.YtoajckhnneagnaaDoor.Sh
namespace Go.Proofs.YtoajckhnneagnaaDoor.Sh
open Go Go.RowKit Go.Sort

set_option linter.unusedSimpArgs false
theorem bl_irrefl (x : List UInt8) : Op.bytesLess x x = false := by
  induction x with
  | nil => rfl
  | cons a t ih => simp [Op.bytesLess, ih]
theorem bl_asymm : ∀ (x y : List UInt8), Op.bytesLess x y = true → Op.bytesLess y x = false
  | _, [], h => by simp [Op.bytesLess] at h
  | [], _ :: _, _ => rfl
  | a :: x, b :: y, h => by
    simp only [Op.bytesLess, Bool.or_eq_true, Bool.and_eq_true, decide_eq_true_eq, beq_iff_eq] at h
    simp only [Op.bytesLess, Bool.or_eq_false_iff, Bool.and_eq_false_iff, decide_eq_false_iff_not, beq_eq_false_iff_ne]
    rcases h with h | ⟨rfl, h⟩
    · exact ⟨UInt8.lt_asymm h, .inl (fun e => by rw [e] at h; exact UInt8.lt_irrefl _ h)⟩
    · exact ⟨UInt8.lt_irrefl _, .inr (bl_asymm x y h)⟩
theorem bl_tri : ∀ (x y : List UInt8), Op.bytesLess x y = false → Op.bytesLess y x = false → x = y
  | [], [], _, _ => rfl
  | [], _ :: _, h, _ => by simp [Op.bytesLess] at h
  | _ :: _, [], _, h => by simp [Op.bytesLess] at h
  | a :: x, b :: y, h, h2 => by
    simp only [Op.bytesLess, Bool.or_eq_false_iff, Bool.and_eq_false_iff, decide_eq_false_iff_not, beq_eq_false_iff_ne] at h h2
    have e : a = b := by
      rcases UInt8.lt_or_lt_of_ne (a := a) (b := b) |> fun f => (Classical.em (a = b)).imp id f with e | e | e
      · exact e
      · exact absurd e h.1
      · exact absurd e h2.1
    subst e
    have h3 : Op.bytesLess x y = false := h.2.resolve_left (fun k => k rfl)
    have h4 : Op.bytesLess y x = false := h2.2.resolve_left (fun k => k rfl)
    rw [bl_tri x y h3 h4]
theorem bl_trans : ∀ (x y z : List UInt8), Op.bytesLess x y = true → Op.bytesLess y z = true → Op.bytesLess x z = true
  | _, [], _, h, _ => by simp [Op.bytesLess] at h
  | _, _ :: _, [], _, h => by simp [Op.bytesLess] at h
  | [], _ :: _, _ :: _, _, _ => rfl
  | a :: x, b :: y, c :: z, h, h2 => by
    simp only [Op.bytesLess, Bool.or_eq_true, Bool.and_eq_true, decide_eq_true_eq, beq_iff_eq] at h h2 ⊢
    rcases h with h | ⟨rfl, h⟩
    · rcases h2 with h2 | ⟨rfl, _⟩
      · exact .inl (UInt8.lt_trans h h2)
      · exact .inl h
    · rcases h2 with h2 | ⟨rfl, h2⟩
      · exact .inl h2
      · exact .inr ⟨rfl, bl_trans x y z h h2⟩
def bl (a b : ByteArray) : Bool := Op.bytesLess a.data.toList b.data.toList
def lt3 (a b c a' b' c' : ByteArray) : Prop := bl a a' = true ∨ (a = a' ∧ (bl b b' = true ∨ (b = b' ∧ bl c c' = true)))
theorem lt3_irrefl (a b c : ByteArray) : ¬ lt3 a b c a b c := by
  unfold lt3 bl
  simp [bl_irrefl]
theorem lt3_trans {a b c a' b' c' a2 b2 c2 : ByteArray} (h : lt3 a b c a' b' c') (k : lt3 a' b' c' a2 b2 c2) : lt3 a b c a2 b2 c2 := by
  rcases h with h | ⟨rfl, h⟩
  · rcases k with k | ⟨rfl, k⟩
    · exact .inl (bl_trans _ _ _ h k)
    · exact .inl h
  · rcases k with k | ⟨rfl, k⟩
    · exact .inl k
    · refine .inr ⟨rfl, ?_⟩
      rcases h with h | ⟨rfl, h⟩
      · rcases k with k | ⟨rfl, k⟩
        · exact .inl (bl_trans _ _ _ h k)
        · exact .inl h
      · rcases k with k | ⟨rfl, k⟩
        · exact .inl k
        · exact .inr ⟨rfl, bl_trans _ _ _ h k⟩
theorem bl_three (a b : ByteArray) : bl a b = true ∨ a = b ∨ bl b a = true := by
  unfold bl
  cases h : Op.bytesLess a.data.toList b.data.toList with
  | true => exact .inl rfl
  | false =>
    cases h' : Op.bytesLess b.data.toList a.data.toList with
    | true => exact .inr (.inr rfl)
    | false => exact .inr (.inl (ba_eq (bl_tri _ _ h h')))
theorem lt3_three (a b c a' b' c' : ByteArray) : lt3 a b c a' b' c' ∨ (a = a' ∧ b = b' ∧ c = c') ∨ lt3 a' b' c' a b c := by
  unfold lt3
  rcases bl_three a a' with h | rfl | h
  · exact .inl (.inl h)
  · rcases bl_three b b' with h | rfl | h
    · exact .inl (.inr ⟨rfl, .inl h⟩)
    · rcases bl_three c c' with h | rfl | h
      · exact .inl (.inr ⟨rfl, .inr ⟨rfl, h⟩⟩)
      · exact .inr (.inl ⟨rfl, rfl, rfl⟩)
      · exact .inr (.inr (.inr ⟨rfl, .inr ⟨rfl, h⟩⟩))
    · exact .inr (.inr (.inr ⟨rfl, .inl h⟩))
  · exact .inr (.inr (.inl h))
def ltP (x y : Pr) : Prop := lt3 x.1.1 x.1.2 x.2 y.1.1 y.1.2 y.2
theorem lessL_iff (o n o' n' : ByteArray) : lessL o n o' n' = true ↔ bl o o' = true ∨ (o = o' ∧ bl n n' = true) := by
  unfold lessL bl
  by_cases h : o = o'
  · subst h
    rw [if_pos rfl]
    simp [bl_irrefl]
  · rw [if_neg (fun e => h (ba_eq e))]
    simp [h]
def SortedP (l : List Pr) : Prop := l.Pairwise ltP
theorem SortedP.nodup {l : List Pr} (h : SortedP l) : l.Nodup := List.Pairwise.imp (fun {a b} (hab : ltP a b) (e : a = b) => by subst e; exact lt3_irrefl _ _ _ hab) h

end Go.Proofs.YtoajckhnneagnaaDoor.Sh
namespace Go.Proofs.YtoajckhnneagnaaDoor.Sh
open Go Go.RowKit

set_option linter.unusedVariables false
set_option linter.unusedSimpArgs false
def Brg (c : Crd) (l : List Pr) (p : Pr) : Prop :=
  p.1 = roleOf c ∧ ((c.kd = 1 ∧ p.2 = c.wh) ∨ (c.kd = 2 ∧ ((c.ao, c.an), p.2) ∈ l) ∨ (c.kd = 3 ∧ ∃ y, (firstOf c, y) ∈ l ∧ isD y ∧ ((y, c.bn), p.2) ∈ l) ∨ (c.kd = 4 ∧ ((c.ao, c.an), p.2) ∈ l ∧ ((c.bo, c.bn), p.2) ∈ l))
def Rnd (cs : List Crd) (l out : List Pr) : Prop := ∃ new, out = l ++ new ∧ new.Nodup ∧ (∀ p ∈ new, p ∉ l) ∧ ∀ p, p ∈ out ↔ p ∈ l ∨ ∃ c ∈ cs, Brg c l p
def Clos (cs : List Crd) (l : List Pr) : Prop := ∀ p, (∃ c ∈ cs, Brg c l p) → p ∈ l
theorem Rnd.len {cs : List Crd} {l out : List Pr} (h : Rnd cs l out) : l.length ≤ out.length := by
  obtain ⟨new, rfl, -⟩ := h
  rw [List.length_append]; omega
theorem Rnd.same {cs : List Crd} {l out : List Pr} (h : Rnd cs l out) (he : out.length = l.length) : out = l ∧ Clos cs l := by
  obtain ⟨new, rfl, -, -, hm⟩ := h
  rw [List.length_append] at he
  have : new = [] := List.eq_nil_of_length_eq_zero (by omega)
  subst this
  rw [List.append_nil] at hm ⊢
  exact ⟨rfl, fun p hp => (hm p).2 (.inr hp)⟩
theorem clos_imp {cs : List Crd} {l : List Pr} (h : Clos cs l) {p : Pr} (hp : Imp (· ∈ cs) p) : p ∈ l := by
  induction hp with
  | mem hs hk => exact h _ ⟨_, hs, rfl, .inl ⟨hk, rfl⟩⟩
  | inc hs hk _ ih => exact h _ ⟨_, hs, rfl, .inr (.inl ⟨hk, ih⟩)⟩
  | lnk hs hk _ hd _ ih1 ih2 => exact h _ ⟨_, hs, rfl, .inr (.inr (.inl ⟨hk, _, ih1, hd, ih2⟩))⟩
  | bth hs hk _ _ ih1 ih2 => exact h _ ⟨_, hs, rfl, .inr (.inr (.inr ⟨hk, ih1, ih2⟩))⟩
theorem brg_imp {cs : List Crd} {l : List Pr} (h : ∀ p ∈ l, Imp (· ∈ cs) p) {c : Crd} (hc : c ∈ cs) {p : Pr} (hb : Brg c l p) : Imp (· ∈ cs) p := by
  obtain ⟨r, x⟩ := p
  obtain ⟨h1, h2⟩ := hb
  simp only at h1 h2
  subst h1
  rcases h2 with ⟨hk, rfl⟩ | ⟨hk, h3⟩ | ⟨hk, y, h3, hd, h4⟩ | ⟨hk, h3, h4⟩
  · exact Imp.mem (S := (· ∈ cs)) hc hk
  · exact Imp.inc (S := (· ∈ cs)) hc hk (h _ h3)
  · exact Imp.lnk (S := (· ∈ cs)) hc hk (h _ h3) hd (h _ h4)
  · exact Imp.bth (S := (· ∈ cs)) hc hk (h _ h3) (h _ h4)
theorem Rnd.imp {cs : List Crd} {l out : List Pr} (h : Rnd cs l out) (hi : ∀ p ∈ l, Imp (· ∈ cs) p) : ∀ p ∈ out, Imp (· ∈ cs) p := fun p hp => by
  obtain ⟨new, rfl, -, -, hm⟩ := h
  rcases (hm p).1 hp with h1 | ⟨c, hc, h1⟩
  · exact hi p h1
  · exact brg_imp hi hc h1
def whos (cs : List Crd) (l : List Pr) : List ByteArray := cs.map (·.wh) ++ l.map (·.2)
def uniW (cs : List Crd) (ws : List ByteArray) : List Pr := (cs.map roleOf).flatMap fun r => ws.map fun x => (r, x)
theorem uniW_length (cs : List Crd) (ws : List ByteArray) : (uniW cs ws).length = cs.length * ws.length := by
  have : ∀ (a : List Rl), (a.flatMap fun r => ws.map fun x => (r, x)).length = a.length * ws.length := by
    intro a
    induction a with
    | nil => simp
    | cons r t ih => rw [List.flatMap_cons, List.length_append, ih, List.length_map, List.length_cons, Nat.succ_mul, Nat.add_comm]
  unfold uniW
  rw [this, List.length_map]
theorem brg_uni {cs : List Crd} {l : List Pr} {ws : List ByteArray} (hw : ∀ c ∈ cs, c.wh ∈ ws) (hl : ∀ p ∈ l, p.2 ∈ ws) {c : Crd} (hc : c ∈ cs) {p : Pr} (hb : Brg c l p) : p ∈ uniW cs ws ∧ p.2 ∈ ws := by
  obtain ⟨h1, h2⟩ := hb
  have hx : p.2 ∈ ws := by
    rcases h2 with ⟨_, h3⟩ | ⟨_, h3⟩ | ⟨_, y, _, _, h3⟩ | ⟨_, h3, _⟩
    · rw [h3]; exact hw c hc
    · exact hl ((c.ao, c.an), p.2) h3
    · exact hl ((y, c.bn), p.2) h3
    · exact hl ((c.ao, c.an), p.2) h3
  exact ⟨List.mem_flatMap.2 ⟨roleOf c, List.mem_map.2 ⟨c, hc, rfl⟩, List.mem_map.2 ⟨p.2, hx, by rw [← h1]⟩⟩, hx⟩
end Go.Proofs.YtoajckhnneagnaaDoor.Sh
namespace Go.Proofs.YtoajckhnneagnaaDoor.Sh
open Go Go.RowKit

set_option linter.unusedVariables false
set_option linter.unusedSimpArgs false
inductive PT where
  | mk (o n x : ByteArray) (d q : Int) (A : Option Addr) (c : Nat) (ps : List PT) : PT
def PT.o : PT → ByteArray | .mk o _ _ _ _ _ _ _ => o
def PT.n : PT → ByteArray | .mk _ n _ _ _ _ _ _ => n
def PT.x : PT → ByteArray | .mk _ _ x _ _ _ _ _ => x
def PT.d : PT → Int | .mk _ _ _ d _ _ _ _ => d
def PT.q : PT → Int | .mk _ _ _ _ q _ _ _ => q
def PT.ps : PT → List PT | .mk _ _ _ _ _ _ _ ps => ps
def PT.pr (p : PT) : Pr := ((p.o, p.n), p.x)
def PT.cells : PT → List Value | .mk o n x d q A c ps => [.string o, .string n, .string x, .int .i64 d, .int .i64 q, .slice A ps.length c]
def encT : Enc PT := ⟨6, PT.cells, by omega, fun ⟨_, _, _, _, _, _, _, _⟩ => rfl, fun ⟨o, n, x, d, q, A, c, ps⟩ u hu => by simp [PT.cells] at hu; rcases hu with rfl | rfl | rfl | rfl | rfl | rfl <;> rfl⟩
theorem PT.ind {P : PT → Prop} (h : ∀ o n x d q A c ps, (∀ p ∈ ps, P p) → P (.mk o n x d q A c ps)) (p : PT) : P p :=
  PT.rec (motive_1 := P) (motive_2 := fun l => ∀ p ∈ l, P p) (fun o n x d q A c ps ih => h o n x d q A c ps ih) (by simp) (fun a t ha ht p hp => by
    rcases List.mem_cons.1 hp with e | e
    · rw [e]; exact ha
    · exact ht p e) p
noncomputable def PT.fold {β : Type} (f : ByteArray → ByteArray → ByteArray → Int → Int → List β → β) (p : PT) : β :=
  PT.rec (motive_1 := fun _ => β) (motive_2 := fun _ => List β) (fun o n x d q _ _ _ r => f o n x d q r) [] (fun _ _ a b => a :: b) p
theorem PT.fold_eq {β : Type} (f : ByteArray → ByteArray → ByteArray → Int → Int → List β → β) (o n x : ByteArray) (d q : Int) (A : Option Addr) (c : Nat) (ps : List PT) :
    PT.fold f (.mk o n x d q A c ps) = f o n x d q (ps.map (PT.fold f)) := by
  have key : ∀ l : List PT, PT.rec_1 (motive_1 := fun _ => β) (motive_2 := fun _ => List β) (fun o n x d q _ _ _ r => f o n x d q r) [] (fun _ _ a b => a :: b) l = l.map (PT.fold f) := by
    intro l
    induction l with
    | nil => rfl
    | cons a t ih => rw [List.map_cons, ← ih]; rfl
  rw [← key]
  rfl
noncomputable def PT.ids : PT → List (Int × Int) := PT.fold fun _ _ _ d q r => (d, q) :: r.flatten
theorem PT.ids_eq (o n x : ByteArray) (d q : Int) (A : Option Addr) (c : Nat) (ps : List PT) : (PT.mk o n x d q A c ps).ids = (d, q) :: ps.flatMap PT.ids := by
  unfold PT.ids; rw [PT.fold_eq, List.flatMap_def]
noncomputable def PT.size (p : PT) : Nat := p.ids.length
theorem PT.size_eq (o n x : ByteArray) (d q : Int) (A : Option Addr) (c : Nat) (ps : List PT) : (PT.mk o n x d q A c ps).size = 1 + (ps.map PT.size).sum := by
  unfold PT.size
  rw [PT.ids_eq, List.length_cons, List.length_flatMap]
  simp [Nat.add_comm]
theorem PT.size_pos (p : PT) : 0 < p.size := by
  obtain ⟨o, n, x, d, q, A, c, ps⟩ := p
  rw [PT.size_eq]; omega
theorem sum_split {l : List PT} {j : Nat} {a : PT} (h : l[j]? = some a) : (l.map PT.size).sum = ((l.take j).map PT.size).sum + a.size + ((l.drop (j + 1)).map PT.size).sum := by
  have e : l = l.take j ++ a :: l.drop (j + 1) := by
    obtain ⟨hm, rfl⟩ := List.getElem?_eq_some_iff.1 h
    rw [← List.drop_eq_getElem_cons hm, List.take_append_drop]
  conv => lhs; rw [e]
  rw [List.map_append, List.sum_append, List.map_cons, List.sum_cons]
  omega
theorem sum_take {l : List PT} {j : Nat} {a : PT} (h : l[j]? = some a) : ((l.take (j + 1)).map PT.size).sum = ((l.take j).map PT.size).sum + a.size := by
  rw [take_snoc_of h, List.map_append, List.sum_append]; simp
noncomputable def PT.deep : PT → Nat := PT.fold fun _ _ _ _ _ r => r.foldl (fun n d => max n (d + 1)) 0
theorem PT.deep_eq (o n x : ByteArray) (d q : Int) (A : Option Addr) (c : Nat) (ps : List PT) : (PT.mk o n x d q A c ps).deep = ps.foldl (fun n p => max n (p.deep + 1)) 0 := by
  unfold PT.deep; rw [PT.fold_eq, List.foldl_map]
def Fol (cs : List Crd) (p : PT) : Prop := ∃ c ∈ cs, c.d = p.d ∧ c.q = p.q ∧ roleOf c = (p.o, p.n) ∧
  ((c.kd = 1 ∧ p.x = c.wh ∧ p.ps = []) ∨ (c.kd = 2 ∧ ∃ a, p.ps = [a] ∧ a.pr = ((c.ao, c.an), p.x)) ∨
   (c.kd = 3 ∧ ∃ a b, p.ps = [a, b] ∧ a.pr = (firstOf c, a.x) ∧ isD a.x ∧ b.pr = ((a.x, c.bn), p.x)) ∨
   (c.kd = 4 ∧ ∃ a b, p.ps = [a, b] ∧ a.pr = ((c.ao, c.an), p.x) ∧ b.pr = ((c.bo, c.bn), p.x)))
inductive Cor (cs : List Crd) : PT → Prop
  | mk {p : PT} : Fol cs p → (∀ a ∈ p.ps, Cor cs a) → Cor cs p
theorem Cor.fol {cs : List Crd} {p : PT} (h : Cor cs p) : Fol cs p := by cases h; assumption
theorem Cor.part {cs : List Crd} {p a : PT} (h : Cor cs p) (ha : a ∈ p.ps) : Cor cs a := by cases h with | mk _ h2 => exact h2 a ha
theorem cor_iff {cs : List Crd} {p : PT} : Cor cs p ↔ Fol cs p ∧ ∀ a ∈ p.ps, Cor cs a := ⟨fun h => ⟨h.fol, fun _ => h.part⟩, fun h => .mk h.1 h.2⟩
theorem Cor.more {cs cs' : List Crd} {p : PT} (h : Cor cs p) (hc : ∀ c ∈ cs, (c.d, c.q) ∈ p.ids → c ∈ cs') : Cor cs' p := by
  induction h with
  | mk hf hp ih =>
    rename_i p
    obtain ⟨o, n, x, d, q, A, cp, ps⟩ := p
    refine .mk ?_ fun a ha => ih a ha fun c hcs hid => hc c hcs ?_
    · obtain ⟨c, hcs, hd, hq, hr⟩ := hf
      refine ⟨c, hc c hcs ?_, hd, hq, hr⟩
      rw [PT.ids_eq]
      simp only [PT.d, PT.q] at hd hq
      rw [hd, hq]
      exact List.mem_cons_self
    · rw [PT.ids_eq]
      exact List.mem_cons_of_mem _ (List.mem_flatMap.2 ⟨a, ha, hid⟩)
theorem Cor.named {cs : List Crd} {p : PT} (h : Cor cs p) : ∀ i ∈ p.ids, ∃ c ∈ cs, (c.d, c.q) = i := by
  induction h with
  | mk hf hp ih =>
    rename_i p
    obtain ⟨o, n, x, d, q, A, cp, ps⟩ := p
    intro i hi
    rw [PT.ids_eq] at hi
    rcases List.mem_cons.1 hi with e | e
    · obtain ⟨c, hcs, hd, hq, _⟩ := hf
      exact ⟨c, hcs, by rw [e, hd, hq]; rfl⟩
    · obtain ⟨a, ha, hi2⟩ := List.mem_flatMap.1 e
      exact ih a ha i hi2
def okI (i : Int × Int) : Prop := (-9223372036854775808 ≤ i.1 ∧ i.1 ≤ 9223372036854775807) ∧ (-9223372036854775808 ≤ i.2 ∧ i.2 ≤ 9223372036854775807)
inductive PIn (w : World) (B : Nat) : PT → Prop
  | mk {o n x : ByteArray} {d q : Int} {A : Option Addr} {c : Nat} {ps : List PT} : okI (d, q) → ps.length ≤ c → c ≤ 9223372036854775807 → Els encT w B A ps → (∀ p ∈ ps, PIn w B p) → PIn w B (.mk o n x d q A c ps)
section
variable {w w' : World} {B B' : Nat}
theorem PIn.into {p : PT} (h : PIn w B p) (hb : Below B w w') : PIn w' B p := by
  induction h with
  | mk h0 h1 h2 h3 _ ih => exact .mk h0 h1 h2 (h3.below hb) ih
theorem PIn.more {p : PT} (h : PIn w B p) (hB : B ≤ B') : PIn w B' p := by
  induction h with
  | mk h0 h1 h2 h3 _ ih => exact .mk h0 h1 h2 (h3.more hB) ih
theorem PIn.now {p : PT} (h : PIn w w.heap.size p) (hb : Below w.heap.size w w') : PIn w' w'.heap.size p := (h.into hb).more hb.size
theorem PIn.open' {o n x : ByteArray} {d q : Int} {A : Option Addr} {c : Nat} {ps : List PT} (h : PIn w B (.mk o n x d q A c ps)) : ps.length ≤ c ∧ c ≤ 9223372036854775807 ∧ Els encT w B A ps ∧ ∀ p ∈ ps, PIn w B p := by
  cases h with | mk h0 h1 h2 h3 h4 => exact ⟨h1, h2, h3, h4⟩
theorem PIn.ok {o n x : ByteArray} {d q : Int} {A : Option Addr} {c : Nat} {ps : List PT} (h : PIn w B (.mk o n x d q A c ps)) : okI (d, q) := by cases h; assumption
theorem PIn.get {A : Option Addr} {ps : List PT} {j : Nat} {o n x : ByteArray} {d q : Int} {A' : Option Addr} {c : Nat} {qs : List PT} (h : Els encT w B A ps) (hj : ps[j]? = some (.mk o n x d q A' c qs)) :
    ∃ ad aj, A = some ad ∧ ad.block < B ∧ ad.add (j * 6) = aj ∧ aj.block = ad.block ∧ w.cell? aj = some (.string o) ∧ w.cell? ⟨aj.block, aj.off + 1, none⟩ = some (.string n) ∧ w.cell? ⟨aj.block, aj.off + 2, none⟩ = some (.string x) ∧
      w.cell? ⟨aj.block, aj.off + 3, none⟩ = some (.int .i64 d) ∧ w.cell? ⟨aj.block, aj.off + 4, none⟩ = some (.int .i64 q) ∧ w.cell? ⟨aj.block, aj.off + 5, none⟩ = some (.slice A' qs.length c) := by
  obtain ⟨ad, aj, h1, h2, h3, h4, h5, h6⟩ := h.get hj
  exact ⟨ad, aj, h1, h2, h3, h4, h5 _ rfl, h6 1 _ (by omega) rfl, h6 2 _ (by omega) rfl, h6 3 _ (by omega) rfl, h6 4 _ (by omega) rfl, h6 5 _ (by omega) rfl⟩
end
def PrAt (w : World) (g : Nat) (p : PT) : Prop := w.heap[g]? = some (.cells p.cells.toArray 30 (0, 0))
section
variable {w w' : World} {g : Nat} {p : PT}
theorem PrAt.new (w : World) (p : PT) : PrAt (w.alloc (.cells p.cells.toArray 30)) w.heap.size p := heap_alloc_new w _
theorem PrAt.lt (h : PrAt w g p) : g < w.heap.size := (Array.getElem?_eq_some_iff.1 h).1
theorem PrAt.kept (h : PrAt w g p) (hb : Below w.heap.size w w') : PrAt w' g p := (hb.block g h.lt).trans h
theorem PrAt.all {o n x : ByteArray} {d q : Int} {A : Option Addr} {c : Nat} {ps : List PT} (h : PrAt w g (.mk o n x d q A c ps)) :
    w.cell? ⟨g, 0, none⟩ = some (.string o) ∧ w.cell? ⟨g, 1, none⟩ = some (.string n) ∧ w.cell? ⟨g, 2, none⟩ = some (.string x) ∧ w.cell? ⟨g, 3, none⟩ = some (.int .i64 d) ∧ w.cell? ⟨g, 4, none⟩ = some (.int .i64 q) ∧ w.cell? ⟨g, 5, none⟩ = some (.slice A ps.length c) := by
  refine ⟨?_, ?_, ?_, ?_, ?_, ?_⟩ <;> (rw [cell_of_row w g _ _ _ (0, 0) h]; rfl)
theorem below_pr (w : World) (p : PT) : Below w.heap.size w (w.alloc (.cells p.cells.toArray 30)) := (Below.refl _ _).alloc (Nat.le_refl _) _
end
end Go.Proofs.YtoajckhnneagnaaDoor.Sh
