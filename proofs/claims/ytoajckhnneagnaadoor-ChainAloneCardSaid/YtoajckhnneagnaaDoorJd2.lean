/-
  Credentials in the order of their IDs: what a list sorted is, that it is one alone. Plain lemmas.
-/
import Derived.Test.YtoajckhnneagnaaDoorJd1
set_option linter.unusedVariables false
set_option linter.unusedSimpArgs false
namespace Go.Proofs.YtoajckhnneagnaaDoor.Sh
open Go Go.RowKit

def bef (a b : Crd) : Bool := decide (a.d < b.d ∨ (a.d = b.d ∧ a.q < b.q))
def idIs (d q : Int) (c : Crd) : Bool := decide (c.d = d ∧ c.q = q)
def Sd (l : List Crd) : Prop := l.Pairwise fun a b => bef b a = false
def SortOf (out l : List Crd) : Prop := Sd out ∧ ∀ d q, out.filter (idIs d q) = l.filter (idIs d q)
def CountsOf (out l : List Crd) : Prop := Sd out ∧ ∀ d q, out.filter (idIs d q) = (l.filter fun c => idIs d q c && mayC c).take 1
theorem bef_irrefl (a : Crd) : bef a a = false := by unfold bef; simp
theorem bef_same {a b : Crd} (h : bef a b = false) (h' : bef b a = false) : a.d = b.d ∧ a.q = b.q := by
  unfold bef at h h'
  simp only [decide_eq_false_iff_not] at h h'
  omega
theorem sd_uniq : ∀ (a b : List Crd), Sd a → Sd b → (∀ d q, a.filter (idIs d q) = b.filter (idIs d q)) → a = b
  | [], [], _, _, _ => rfl
  | [], y :: t, _, _, h => by
    have := h y.d y.q
    simp [idIs] at this
  | x :: s, [], _, _, h => by
    have := h x.d x.q
    simp [idIs] at this
  | x :: s, y :: t, ha, hb, h => by
    have hx : x ∈ y :: t := by
      have h1 := h x.d x.q
      have : x ∈ (x :: s).filter (idIs x.d x.q) := by simp [idIs]
      rw [h1] at this
      exact (List.mem_filter.1 this).1
    have hy : y ∈ x :: s := by
      have h1 := h y.d y.q
      have : y ∈ (y :: t).filter (idIs y.d y.q) := by simp [idIs]
      rw [← h1] at this
      exact (List.mem_filter.1 this).1
    have h1 : bef x y = false := by
      rcases List.mem_cons.1 hx with rfl | hm
      · exact bef_irrefl _
      · exact (List.pairwise_cons.1 hb).1 x hm
    have h2 : bef y x = false := by
      rcases List.mem_cons.1 hy with rfl | hm
      · exact bef_irrefl _
      · exact (List.pairwise_cons.1 ha).1 y hm
    obtain ⟨e1, e2⟩ := bef_same h1 h2
    have h3 := h x.d x.q
    have ex : idIs x.d x.q x = true := by simp [idIs]
    have ey : idIs x.d x.q y = true := by simp [idIs, e1, e2]
    rw [List.filter_cons_of_pos ex, List.filter_cons_of_pos ey] at h3
    simp only [List.cons.injEq] at h3
    obtain ⟨rfl, _⟩ := h3
    congr 1
    refine sd_uniq s t (List.pairwise_cons.1 ha).2 (List.pairwise_cons.1 hb).2 fun d q => ?_
    have h4 := h d q
    rw [List.filter_cons, List.filter_cons] at h4
    split at h4
    · simpa using h4
    · exact h4
theorem counts_uniq {a b l : List Crd} (ha : CountsOf a l) (hb : CountsOf b l) : a = b := sd_uniq a b ha.1 hb.1 fun d q => (ha.2 d q).trans (hb.2 d q).symm
def Least (l : List Crd) (k m : Nat) : Prop := ∃ c, l[m]? = some c ∧ m < k ∧ (∀ j x, j < k → l[j]? = some x → bef x c = false) ∧ ∀ j x, j < m → l[j]? = some x → bef c x = true
theorem bef_of_not {a b c : Crd} (h1 : bef a b = true) (h2 : bef c b = false) : bef a c = true := by
  unfold bef at *
  simp only [decide_eq_true_eq, decide_eq_false_iff_not] at *
  omega
theorem not_bef_trans {a b c : Crd} (h1 : bef a b = false) (h2 : bef b c = false) : bef a c = false := by
  unfold bef at *
  simp only [decide_eq_false_iff_not] at *
  omega
theorem bef_asymm {a b : Crd} (h : bef a b = true) : bef b a = false := by
  unfold bef at *
  simp only [decide_eq_true_eq, decide_eq_false_iff_not] at *
  omega
theorem least_one {l : List Crd} {c : Crd} (h : l[0]? = some c) : Least l 1 0 := by
  refine ⟨c, h, by omega, fun j x hj hx => ?_, fun j x hj => by omega⟩
  obtain rfl : j = 0 := by omega
  rw [h] at hx
  injection hx with hx
  subst hx
  exact bef_irrefl _
theorem least_take {l : List Crd} {k m : Nat} {c x : Crd} (h : Least l k m) (hc : l[m]? = some c) (hx : l[k]? = some x) (hb : bef x c = true) : Least l (k + 1) k := by
  obtain ⟨c', h1, h2, h3, h4⟩ := h
  rw [hc] at h1; injection h1 with h1; subst h1
  refine ⟨x, hx, by omega, fun j y hj hy => ?_, fun j y hj hy => ?_⟩
  · rcases Nat.lt_or_ge j k with hlt | hge
    · exact bef_asymm (bef_of_not hb (h3 j y hlt hy))
    · obtain rfl : j = k := by omega
      rw [hx] at hy; injection hy with hy; subst hy; exact bef_irrefl _
  · exact bef_of_not hb (h3 j y hj hy)
theorem least_keep {l : List Crd} {k m : Nat} {c x : Crd} (h : Least l k m) (hc : l[m]? = some c) (hx : l[k]? = some x) (hb : bef x c = false) : Least l (k + 1) m := by
  obtain ⟨c', h1, h2, h3, h4⟩ := h
  rw [hc] at h1; injection h1 with h1; subst h1
  refine ⟨c, hc, by omega, fun j y hj hy => ?_, h4⟩
  rcases Nat.lt_or_ge j k with hlt | hge
  · exact h3 j y hlt hy
  · obtain rfl : j = k := by omega
    rw [hx] at hy; injection hy with hy; subst hy; exact hb
def Sel (out l all : List Crd) : Prop := Sd out ∧ (∀ a ∈ out, ∀ b ∈ l, bef b a = false) ∧ ∀ d q, out.filter (idIs d q) ++ l.filter (idIs d q) = all.filter (idIs d q)
theorem sel_start (all : List Crd) : Sel [] all all := ⟨List.Pairwise.nil, fun _ h => absurd h (by simp), fun d q => by simp⟩
theorem sel_end {out all : List Crd} (h : Sel out [] all) : SortOf out all := ⟨h.1, fun d q => by simpa using h.2.2 d q⟩
theorem sel_step {out l all : List Crd} {m : Nat} {c : Crd} (h : Sel out l all) (hl : Least l l.length m) (hc : l[m]? = some c) : Sel (out ++ [c]) (l.take m ++ l.drop (m + 1)) all := by
  obtain ⟨h1, h2, h3⟩ := h
  obtain ⟨c', g1, g2, g3, g4⟩ := hl
  rw [hc] at g1; injection g1 with g1; subst g1
  have hsplit : l = l.take m ++ c :: l.drop (m + 1) := by
    have h5 : l[m] = c := (List.getElem?_eq_some_iff.1 hc).2
    rw [← h5, List.getElem_cons_drop, List.take_append_drop]
  have hmem : ∀ b, b ∈ l.take m ++ l.drop (m + 1) → b ∈ l := fun b hb => by
    rw [hsplit]
    rcases List.mem_append.1 hb with hb | hb
    · exact List.mem_append.2 (.inl hb)
    · exact List.mem_append.2 (.inr (List.mem_cons_of_mem _ hb))
  have hcl : c ∈ l := List.mem_of_getElem? hc
  refine ⟨?_, ?_, fun d q => ?_⟩
  · refine List.pairwise_append.2 ⟨h1, List.pairwise_singleton _ _, fun a ha b hb => ?_⟩
    rw [List.mem_singleton.1 hb]
    exact h2 a ha c hcl
  · intro a ha b hb
    rcases List.mem_append.1 ha with ha | ha
    · exact h2 a ha b (hmem b hb)
    · rw [List.mem_singleton.1 ha]
      obtain ⟨j, hj⟩ := List.getElem?_of_mem (hmem b hb)
      exact g3 j b (List.getElem?_eq_some_iff.1 hj).1 hj
  · rw [← h3 d q]
    conv => rhs; rw [hsplit]
    simp only [List.filter_append, List.append_assoc]
    congr 1
    by_cases hi : idIs d q c = true
    · have hno : (l.take m).filter (idIs d q) = [] := by
        rw [List.filter_eq_nil_iff]
        intro x hx hxi
        obtain ⟨j, hj⟩ := List.getElem?_of_mem hx
        rw [List.getElem?_take] at hj
        split at hj
        · rename_i hjm
          have := g4 j x hjm hj
          unfold idIs at hi hxi
          unfold bef at this
          simp only [decide_eq_true_eq] at *
          omega
        · cases hj
      rw [hno, List.filter_cons_of_pos hi]
      simp [hi]
    · rw [List.filter_cons_of_neg hi]
      simp [hi]

def Kept (out : List Crd) (l : List Crd) (k : Nat) : Prop := ∀ d q, out.filter (idIs d q) = ((l.take k).filter fun c => idIs d q c && mayC c).take 1
theorem kept_start (l : List Crd) : Kept [] l 0 := fun d q => by simp
theorem kept_end {out all o2 : List Crd} (h : Kept out all all.length) (hs : SortOf o2 out) : CountsOf o2 all := ⟨hs.1, fun d q => by rw [hs.2, h d q, List.take_length]⟩
theorem kept_skip {out l : List Crd} {k : Nat} {c : Crd} (h : Kept out l k) (hc : l[k]? = some c) (hm : mayC c = false ∨ ∃ x ∈ out, x.d = c.d ∧ x.q = c.q) : Kept out l (k + 1) := fun d q => by
  rw [take_snoc_of hc, List.filter_append, h d q]
  by_cases hi : (idIs d q c && mayC c) = true
  · rcases hm with hm | ⟨x, hx, e1, e2⟩
    · rw [hm] at hi; simp at hi
    · have hne : ((l.take k).filter fun c => idIs d q c && mayC c) ≠ [] := by
        intro h0
        have h1 := h d q
        rw [h0] at h1
        have : x ∈ out.filter (idIs d q) := by
          rw [List.mem_filter]
          refine ⟨hx, ?_⟩
          simp only [Bool.and_eq_true] at hi
          unfold idIs at hi ⊢
          simp only [decide_eq_true_eq] at hi ⊢
          omega
        rw [h1] at this
        simp at this
      cases hq : ((l.take k).filter fun c => idIs d q c && mayC c) with
      | nil => exact absurd hq hne
      | cons a t => rfl
  · have : [c].filter (fun c => idIs d q c && mayC c) = [] := by simp [hi]
    rw [this, List.append_nil]
theorem kept_take {out l : List Crd} {k : Nat} {c : Crd} (h : Kept out l k) (hc : l[k]? = some c) (hm : mayC c = true) (hn : ∀ x ∈ out, ¬ (x.d = c.d ∧ x.q = c.q)) : Kept (out ++ [c]) l (k + 1) := fun d q => by
  rw [take_snoc_of hc, List.filter_append, List.filter_append, h d q]
  by_cases hi : idIs d q c = true
  · have hno : out.filter (idIs d q) = [] := by
      rw [List.filter_eq_nil_iff]
      intro x hx hxi
      refine hn x hx ?_
      unfold idIs at hi hxi
      simp only [decide_eq_true_eq] at hi hxi
      omega
    have h0 : ((l.take k).filter fun c => idIs d q c && mayC c) = [] := by
      have h1 := h d q
      rw [hno] at h1
      cases hq : ((l.take k).filter fun c => idIs d q c && mayC c) with
      | nil => rfl
      | cons a t => rw [hq] at h1; simp at h1
    rw [h0]
    simp [hi, hm]
  · simp [hi]
end Go.Proofs.YtoajckhnneagnaaDoor.Sh
namespace Go.Proofs.YtoajckhnneagnaaDoor.Sh
open Go Go.RowKit

abbrev Rl := ByteArray × ByteArray
abbrev Pr := Rl × ByteArray
def decMem {α : Type} (eq : ∀ a b : α, Decidable (a = b)) (a : α) : (l : List α) → Decidable (a ∈ l)
  | [] => .isFalse (by simp)
  | b :: l => match eq a b, decMem eq a l with
    | .isTrue h, _ => .isTrue (by simp [h])
    | .isFalse _, .isTrue h => .isTrue (by simp [h])
    | .isFalse h1, .isFalse h2 => .isFalse (by simp [h1, h2])
instance decPr (p : Pr) (l : List Pr) : Decidable (p ∈ l) := decMem (fun a b => inferInstance) p l
instance decBy (p : ByteArray) (l : List ByteArray) : Decidable (p ∈ l) := decMem (fun a b => inferInstance) p l
def roleOf (c : Crd) : Rl := (domB c.d, c.nm)
def firstOf (c : Crd) : Rl := (domB c.d, c.an)
def isD (y : ByteArray) : Prop := numL y.data.toList ≠ 0
inductive Imp (S : Crd → Prop) : Pr → Prop
  | mem {c : Crd} : S c → c.kd = 1 → Imp S (roleOf c, c.wh)
  | inc {c : Crd} {x : ByteArray} : S c → c.kd = 2 → Imp S ((c.ao, c.an), x) → Imp S (roleOf c, x)
  | lnk {c : Crd} {x y : ByteArray} : S c → c.kd = 3 → Imp S (firstOf c, y) → isD y → Imp S ((y, c.bn), x) → Imp S (roleOf c, x)
  | bth {c : Crd} {x : ByteArray} : S c → c.kd = 4 → Imp S ((c.ao, c.an), x) → Imp S ((c.bo, c.bn), x) → Imp S (roleOf c, x)
theorem imp_who {S : Crd → Prop} {p : Pr} (hp : Imp S p) : ∃ c, S c ∧ c.kd = 1 ∧ c.wh = p.2 := by
  induction hp with
  | mem hs hk => exact ⟨_, hs, hk, rfl⟩
  | inc _ _ _ ih => exact ih
  | lnk _ _ _ _ _ _ ih2 => exact ih2
  | bth _ _ _ _ ih1 _ => exact ih1
theorem imp_role {S : Crd → Prop} {p : Pr} (hp : Imp S p) : ∃ c, S c ∧ roleOf c = p.1 := by
  cases hp with
  | mem hs _ => exact ⟨_, hs, rfl⟩
  | inc hs _ _ => exact ⟨_, hs, rfl⟩
  | lnk hs _ _ _ _ => exact ⟨_, hs, rfl⟩
  | bth hs _ _ _ => exact ⟨_, hs, rfl⟩
theorem isD_iff (y : ByteArray) : isD y ↔ ∃ n : Nat, n < 16 ∧ y = domB ((n : Int) + 1) := by
  constructor
  · intro h
    obtain ⟨e, h1, h2⟩ := domL_numL _ h
    refine ⟨numL y.data.toList - 1, by omega, ba_eq ?_⟩
    show y.data.toList = domL _
    rw [← e]
    congr 1
    rw [e]
    omega
  · rintro ⟨n, hn, rfl⟩
    show numL (domL _) ≠ 0
    rw [numL_domL _ (by omega) (by omega)]
    omega

def upd {κ α : Type} [DecidableEq κ] (f : κ → List α) (k : κ) (x : α) : κ → List α := fun j => if j = k then f j ++ [x] else f j
theorem upd_mem {κ α : Type} [DecidableEq κ] {f : κ → List α} {j k : κ} {x y : α} : y ∈ upd f k x j ↔ y ∈ f j ∨ (j = k ∧ y = x) := by
  unfold upd
  split
  · rename_i h; simp [h]
  · rename_i h; simp [h]
structure St where
  giv : ByteArray → List Rl
  inc : Rl → List Rl
  bth : Rl → List (Rl × Rl)
  lnk : Rl → List (ByteArray × Rl)
  kn : List Pr
  fr : List Pr
  /-- how many stores -/
  ic : Nat
  keys : List ByteArray
end Go.Proofs.YtoajckhnneagnaaDoor.Sh
namespace Go.Proofs.YtoajckhnneagnaaDoor.Sh
open Go Go.RowKit

section
variable {S : Crd → Prop} {X : ByteArray → Prop} {EI EB EL : Pr → Prop} {s : St}
end
section
variable {S : Crd → Prop} {X : ByteArray → Prop} {EI EB EL : Pr → Prop}
end
section
variable {S : Crd → Prop} {EB EL : Pr → Prop}
end
section
variable {S : Crd → Prop} {X : ByteArray → Prop} {EL : Pr → Prop} {s : St} {q : Pr} {f0 : List Pr}
end
section
variable {S : Crd → Prop} {s : St} {q : Pr} {f0 : List Pr}
end
end Go.Proofs.YtoajckhnneagnaaDoor.Sh
namespace Go.Proofs.YtoajckhnneagnaaDoor.Sh
open Go Go.RowKit

def uni (l : List Crd) : List Pr := (l.map roleOf).flatMap fun r => l.map fun c => (r, c.wh)
theorem uni_length (l : List Crd) : (uni l).length = l.length * l.length := by
  have : ∀ (a : List Rl), (a.flatMap fun r => l.map fun c => (r, c.wh)).length = a.length * l.length := by
    intro a
    induction a with
    | nil => simp
    | cons x t ih => simp only [List.flatMap_cons, List.length_append, List.length_map, ih, List.length_cons, Nat.add_mul, Nat.one_mul]; omega
  rw [uni, this, List.length_map]
theorem imp_uni {l : List Crd} {p : Pr} (h : Imp (· ∈ l) p) : p ∈ uni l := by
  obtain ⟨c, hc, e⟩ := imp_role h
  obtain ⟨c', hc', _, e'⟩ := imp_who h
  exact List.mem_flatMap.2 ⟨roleOf c, List.mem_map.2 ⟨c, hc, rfl⟩, List.mem_map.2 ⟨c', hc', by rw [e, e']⟩⟩
theorem nodup_length {α : Type} [DecidableEq α] : ∀ {a b : List α}, a.Nodup → (∀ x ∈ a, x ∈ b) → a.length ≤ b.length
  | [], _, _, _ => Nat.zero_le _
  | x :: t, b, hn, hs => by
    obtain ⟨h1, h2⟩ := List.nodup_cons.1 hn
    have hx := hs x (by simp)
    have := nodup_length (b := b.erase x) h2 fun y hy => (List.mem_erase_of_ne (fun e => h1 (by rw [← e]; exact hy))).2 (hs y (by simp [hy]))
    rw [List.length_erase_of_mem hx] at this
    have : 0 < b.length := List.length_pos_of_mem hx
    simp only [List.length_cons]
    omega
end Go.Proofs.YtoajckhnneagnaaDoor.Sh
namespace Go.Proofs.YtoajckhnneagnaaDoor.Sh
open Go Go.RowKit

def RoleAt (w : World) (g : Nat) (o n : ByteArray) : Prop := w.heap[g]? = some (.cells #[.string o, .string n] 24 (0, 0))
theorem RoleAt.new (w : World) (o n : ByteArray) : RoleAt (w.alloc (.cells #[.string o, .string n] 24)) w.heap.size o n := heap_alloc_new w _
theorem RoleAt.c0 {w : World} {g : Nat} {o n : ByteArray} (h : RoleAt w g o n) : w.cell? ⟨g, 0, none⟩ = some (.string o) := by rw [cell_of_row w g 0 _ _ (0, 0) h]; rfl
theorem RoleAt.c1 {w : World} {g : Nat} {o n : ByteArray} (h : RoleAt w g o n) : w.cell? ⟨g, 1, none⟩ = some (.string n) := by rw [cell_of_row w g 1 _ _ (0, 0) h]; rfl
theorem RoleAt.lt {w : World} {g : Nat} {o n : ByteArray} (h : RoleAt w g o n) : g < w.heap.size := (Array.getElem?_eq_some_iff.1 h).1
theorem RoleAt.below {w w' : World} {B g : Nat} {o n : ByteArray} (h : RoleAt w g o n) (hb : Below B w w') (hg : g < B) : RoleAt w' g o n := (hb.block g hg).trans h
theorem RoleAt.kept {w w' : World} {g : Nat} {o n : ByteArray} (h : RoleAt w g o n) (hb : Below w.heap.size w w') : RoleAt w' g o n := h.below hb h.lt
theorem below_box (w : World) (o n : ByteArray) : Below w.heap.size w (w.alloc (.cells #[.string o, .string n] 24)) := (Below.refl _ _).alloc (Nat.le_refl _) _
theorem results_cell_tmp {P : Program} {fn : Func} {p q : Tmp} {ty : TypeId} (h : fn.results = #[.cell p ty, .tmp q]) (tmps : Array Value) (w : World) (b o : Nat) (cs : List Value) (d : TypeDesc)
    (hp : tmps.getD p undef = .pointer (some ⟨b, o, none⟩)) (hc : w.rangeAt b o cs) (hu : P.underlying ty = some d) (hd : d.isRow = true) (hi : (P.info? ty).map (·.size) = some cs.length) :
    (results fn tmps).run P w = .ok (.tuple #[.agg cs.toArray, tmps.getD q undef]) w := by
  have hp' : tmps[p]?.getD undef = .pointer (some ⟨b, o, none⟩) := by simpa using hp
  simp [results, h, hp', asAddr, run_loadVar_mid w b o ty cs d hc hu hd hi]
theorem pair_set {w : World} {g : Nat} {u v x y : Value} {t : TypeId} (h : w.heap[g]? = some (.cells #[u, v] t (0, 0))) : ((w.setCell ⟨g, 0, none⟩ x).setCell ⟨g, 1, none⟩ y).heap[g]? = some (.cells #[x, y] t (0, 0)) :=
  heap_setCell_same _ g 1 _ _ y (heap_setCell_same w g 0 _ _ x h)
theorem info_role : (Tryd.prog.info? 24).map (·.size) = some 2 := by kernel_rfl
theorem kept_trans {W w' W' : World} {B : Nat} (h : Below B W w') (hB : B ≤ w'.heap.size) (bb : Below w'.heap.size w' W') : Below B W W' := h.trans (bb.mono hB)
end Go.Proofs.YtoajckhnneagnaaDoor.Sh
namespace Go.Proofs.YtoajckhnneagnaaDoor.Sh
open Go Go.RowKit

def CrAt (w : World) (g : Nat) (c : Crd) : Prop := w.heap[g]? = some (.cells c.cells.toArray 55 (0, 0))
theorem CrAt.new (w : World) (c : Crd) : CrAt (w.alloc (.cells c.cells.toArray 55)) w.heap.size c := heap_alloc_new w _
theorem CrAt.lt {w : World} {g : Nat} {c : Crd} (h : CrAt w g c) : g < w.heap.size := (Array.getElem?_eq_some_iff.1 h).1
theorem CrAt.kept {w w' : World} {g : Nat} {c : Crd} (h : CrAt w g c) (hb : Below w.heap.size w w') : CrAt w' g c := (hb.block g h.lt).trans h
theorem CrAt.cell {w : World} {g : Nat} {c : Crd} (h : CrAt w g c) (k : Nat) (v : Value) (hk : c.cells[k]? = some v) : w.cell? ⟨g, k, none⟩ = some v := by
  rw [cell_of_row w g k _ _ (0, 0) h]
  simpa using hk
section
variable {w : World} {g : Nat} {d q kd : Int} {nm wh ao an bo bn : ByteArray}
theorem CrAt.all (h : CrAt w g ⟨d, q, nm, kd, wh, ao, an, bo, bn⟩) :
    w.cell? ⟨g, 0, none⟩ = some (.int .i64 d) ∧ w.cell? ⟨g, 1, none⟩ = some (.int .i64 q) ∧ w.cell? ⟨g, 2, none⟩ = some (.string nm) ∧ w.cell? ⟨g, 3, none⟩ = some (.int .i64 kd) ∧ w.cell? ⟨g, 4, none⟩ = some (.string wh) ∧
      w.cell? ⟨g, 5, none⟩ = some (.string ao) ∧ w.cell? ⟨g, 6, none⟩ = some (.string an) ∧ w.cell? ⟨g, 7, none⟩ = some (.string bo) ∧ w.cell? ⟨g, 8, none⟩ = some (.string bn) :=
  ⟨h.cell 0 _ rfl, h.cell 1 _ rfl, h.cell 2 _ rfl, h.cell 3 _ rfl, h.cell 4 _ rfl, h.cell 5 _ rfl, h.cell 6 _ rfl, h.cell 7 _ rfl, h.cell 8 _ rfl⟩
end
theorem below_cr (w : World) (c : Crd) : Below w.heap.size w (w.alloc (.cells c.cells.toArray 55)) := (Below.refl _ _).alloc (Nat.le_refl _) _
theorem sne {s : ByteArray} (h : s ≠ E0) : ¬ s.toList = [] ∧ (s.toList == []) = false ∧ s.toList.isEmpty = false ∧ ¬ s = ⟨#[]⟩ := by
  have h5 : ¬ s.toList = [] := fun e => h (ba_eq (by rw [← Lib.toList_data, e]; rfl))
  exact ⟨h5, beq_eq_false_iff_ne.2 h5, by cases hs : s.toList with | nil => exact absurd hs h5 | cons _ _ => rfl, h⟩

theorem refBare_any (o n : ByteArray) (w : World) :
    Calls Tryd.prog 63 #[.agg #[.string o, .string n]] w fun e w' => e = .returned (.bool (mayB n && decide (o = E0))) ∧ Below w.heap.size w w' := by
  have HM := hid (fun w => refMay_any n w)
  obtain ⟨m, hm⟩ : ∃ m, mayL n.data.toList = m := ⟨_, rfl⟩
  rw [hm] at HM
  have hm' : mayB n = m := hm
  rw [hm']
  clear hm hm'
  go_enter Tryd.func63, Tryd.ntmps63
  go_wp2_with fail
  refine (HM.out _).mono ?_
  rintro er w2 ⟨rfl, rfl⟩
  cases m with
  | false =>
    go_wp2
    go_ret
    exact ⟨rfl, (Below.refl _ _).alloc (Nat.le_refl _) _⟩
  | true =>
    by_cases ho : o = E0
    · subst ho
      have HE : Hid (decide (E0 = E0) = true) := hid (by simp)
      unfold E0
      go_wp2
      go_ret
      exact ⟨rfl, (Below.refl _ _).alloc (Nat.le_refl _) _⟩
    · obtain ⟨s1, s2, s3, s4⟩ := sne ho
      have HE : Hid (decide (o = E0) = false) := hid (by simp [ho])
      clear ho
      go_wp2
      go_ret
      exact ⟨by rw [HE.out]; rfl, (Below.refl _ _).alloc (Nat.le_refl _) _⟩

set_option maxHeartbeats 4000000 in
theorem refMayC_any (c : Crd) (w : World) :
    Calls Tryd.prog 41 #[.agg c.cells.toArray] w fun e w' => e = .returned (.bool (mayC c)) ∧ Below w.heap.size w w' := by
  obtain ⟨d, q, nm, kd, wh, ao, an, bo, bn⟩ := c
  have HM1 := hid (fun w => refMay_any nm w)
  have HM2 := hid (fun w => refMay_any wh w)
  have HM3 := hid (fun w => refRole_any ao an w)
  have HM4 := hid (fun w => refRole_any bo bn w)
  have HM5 := hid (fun w => refBare_any ao an w)
  have HM6 := hid (fun w => refBare_any bo bn w)
  obtain ⟨b1, hb1⟩ : ∃ b, mayL nm.data.toList = b := ⟨_, rfl⟩
  obtain ⟨b2, hb2⟩ : ∃ b, mayL wh.data.toList = b := ⟨_, rfl⟩
  obtain ⟨b3, hb3⟩ : ∃ b, roleL ao.data.toList an.data.toList = b := ⟨_, rfl⟩
  obtain ⟨b4, hb4⟩ : ∃ b, roleL bo.data.toList bn.data.toList = b := ⟨_, rfl⟩
  obtain ⟨b5, hb5⟩ : ∃ b, (mayB an && decide (ao = E0)) = b := ⟨_, rfl⟩
  obtain ⟨b6, hb6⟩ : ∃ b, (mayB bn && decide (bo = E0)) = b := ⟨_, rfl⟩
  rw [hb1] at HM1
  rw [hb2] at HM2
  rw [hb3] at HM3
  rw [hb4] at HM4
  rw [hb5] at HM5
  rw [hb6] at HM6
  have HMC : Hid (mayC ⟨d, q, nm, kd, wh, ao, an, bo, bn⟩ = ((decide (1 ≤ d ∧ d ≤ 16 ∧ 1 ≤ q ∧ q ≤ 4000) && b1) &&
      (if kd = 1 then b2 && decide (ao = E0 ∧ an = E0) && decide (bo = E0 ∧ bn = E0) else decide (wh = E0) && (if kd = 2 then b3 && decide (bo = E0 ∧ bn = E0) else if kd = 3 then b5 && b6 else if kd = 4 then b3 && b4 else false)))) := hid (by
    unfold mayC headOk kindOk mayB roleB
    simp only
    rw [hb1, hb2, hb3, hb4]
    have h5 : (mayL an.data.toList && decide (ao = E0)) = b5 := hb5
    have h6 : (mayL bn.data.toList && decide (bo = E0)) = b6 := hb6
    rw [h5, h6])
  clear hb1 hb2 hb3 hb4 hb5 hb6
  unfold Crd.cells
  go_enter Tryd.func41, Tryd.ntmps41
  obtain ⟨w0, hw0⟩ : ∃ w0, w0 = w.alloc (.cells (Crd.cells ⟨d, q, nm, kd, wh, ao, an, bo, bn⟩).toArray 55) := ⟨_, rfl⟩
  have r0 : CrAt w0 w.heap.size ⟨d, q, nm, kd, wh, ao, an, bo, bn⟩ := by rw [hw0]; exact CrAt.new w _
  have b0 : Below w.heap.size w w0 := by rw [hw0]; exact below_cr w _
  unfold Crd.cells at hw0
  simp only at hw0
  go_wp2_with fail
  rw [← hw0]
  clear hw0
  refine (HM1.out w0).mono ?_
  rintro er w1 ⟨rfl, rfl⟩
  obtain ⟨c0, c1, c2, c3, c4, c5, c6, c7, c8⟩ := r0.all
  have R0 := hid r0
  have B0 := hid b0
  clear r0 b0
  go_wp2_with fail
  refine (HM2.out _).mono ?_
  rintro er w1 ⟨rfl, rfl⟩
  go_wp2_with fail
  refine (HM3.out _).mono ?_
  rintro er w1 ⟨rfl, bb⟩
  have r1 := R0.out.kept bb
  have b1' := B0.out.trans (bb.mono B0.out.size)
  clear bb c0 c1 c2 c3 c4 c5 c6 c7 c8
  obtain ⟨c0, c1, c2, c3, c4, c5, c6, c7, c8⟩ := r1.all
  have R1 := hid r1
  have B1 := hid b1'
  clear r1 b1' R0 B0
  go_wp2_with fail
  refine (HM4.out _).mono ?_
  rintro er w2 ⟨rfl, bb⟩
  have r2 := R1.out.kept bb
  have b2' := B1.out.trans (bb.mono B1.out.size)
  clear bb c0 c1 c2 c3 c4 c5 c6 c7 c8
  obtain ⟨c0, c1, c2, c3, c4, c5, c6, c7, c8⟩ := r2.all
  have R2 := hid r2
  have B2 := hid b2'
  clear r2 b2' R1 B1
  by_cases g1 : d < 1
  · have HF : Hid (mayC ⟨d, q, nm, kd, wh, ao, an, bo, bn⟩ = false) := hid (by rw [HMC.out, decide_eq_false (by omega)]; simp)
    go_wp2
    go_ret
    exact ⟨by rw [HF.out]; rfl, B2.out⟩
  by_cases g2 : 16 < d
  · have HF : Hid (mayC ⟨d, q, nm, kd, wh, ao, an, bo, bn⟩ = false) := hid (by rw [HMC.out, decide_eq_false (by omega)]; simp)
    go_wp2
    go_ret
    exact ⟨by rw [HF.out]; rfl, B2.out⟩
  by_cases g3 : q < 1
  · have HF : Hid (mayC ⟨d, q, nm, kd, wh, ao, an, bo, bn⟩ = false) := hid (by rw [HMC.out, decide_eq_false (by omega)]; simp)
    go_wp2
    go_ret
    exact ⟨by rw [HF.out]; rfl, B2.out⟩
  by_cases g4 : 4000 < q
  · have HF : Hid (mayC ⟨d, q, nm, kd, wh, ao, an, bo, bn⟩ = false) := hid (by rw [HMC.out, decide_eq_false (by omega)]; simp)
    go_wp2
    go_ret
    exact ⟨by rw [HF.out]; rfl, B2.out⟩
  have HC2 : Hid (mayC ⟨d, q, nm, kd, wh, ao, an, bo, bn⟩ = (b1 &&
      (if kd = 1 then b2 && decide (ao = E0 ∧ an = E0) && decide (bo = E0 ∧ bn = E0) else decide (wh = E0) && (if kd = 2 then b3 && decide (bo = E0 ∧ bn = E0) else if kd = 3 then b5 && b6 else if kd = 4 then b3 && b4 else false)))) := hid (by rw [HMC.out, decide_eq_true (by omega)]; simp)
  clear HMC
  cases b1 with
  | false =>
    have HF : Hid (mayC ⟨d, q, nm, kd, wh, ao, an, bo, bn⟩ = false) := hid (by rw [HC2.out]; simp)
    go_wp2
    go_ret
    exact ⟨by rw [HF.out]; rfl, B2.out⟩
  | true =>
  have r3 : CrAt (w2.alloc (.cells #[.string ⟨#[]⟩, .string ⟨#[]⟩] 24)) w.heap.size ⟨d, q, nm, kd, wh, ao, an, bo, bn⟩ := R2.out.kept ((Below.refl _ _).alloc (Nat.le_refl _) _)
  have B3 := hid (B2.out.alloc B2.out.size (.cells #[.string ⟨#[]⟩, .string ⟨#[]⟩] 24))
  obtain ⟨e0, e1, e2, e3, e4, e5, e6, e7, e8⟩ := r3.all
  have R3 := hid r3
  clear r3 R2 B2
  by_cases k1 : kd = 1
  · subst k1
    cases b2 with
    | false =>
      have HF : Hid (mayC ⟨d, q, nm, 1, wh, ao, an, bo, bn⟩ = false) := hid (by rw [HC2.out]; simp [])
      go_wp2
      go_ret
      exact ⟨by rw [HF.out]; rfl, B3.out⟩
    | true =>
      by_cases zao : ao = E0
      · obtain rfl : ao = ⟨#[]⟩ := zao
        by_cases zan : an = E0
        · obtain rfl : an = ⟨#[]⟩ := zan
          by_cases zbo : bo = E0
          · obtain rfl : bo = ⟨#[]⟩ := zbo
            by_cases zbn : bn = E0
            · obtain rfl : bn = ⟨#[]⟩ := zbn
              have HF : Hid (mayC ⟨d, q, nm, 1, wh, ⟨#[]⟩, ⟨#[]⟩, ⟨#[]⟩, ⟨#[]⟩⟩ = true) := hid (by rw [HC2.out]; simp [E0])
              go_wp2
              go_ret
              exact ⟨by rw [HF.out]; rfl, B3.out⟩
            · obtain ⟨s1, s2, s3, s4⟩ := sne zbn
              have HF : Hid (mayC ⟨d, q, nm, 1, wh, ⟨#[]⟩, ⟨#[]⟩, ⟨#[]⟩, bn⟩ = false) := hid (by rw [HC2.out]; simp [zbn])
              go_wp2
              go_ret
              exact ⟨by rw [HF.out]; rfl, B3.out⟩
          · obtain ⟨s1, s2, s3, s4⟩ := sne zbo
            have HF : Hid (mayC ⟨d, q, nm, 1, wh, ⟨#[]⟩, ⟨#[]⟩, bo, bn⟩ = false) := hid (by rw [HC2.out]; simp [zbo])
            go_wp2
            go_ret
            exact ⟨by rw [HF.out]; rfl, B3.out⟩
        · obtain ⟨s1, s2, s3, s4⟩ := sne zan
          have HF : Hid (mayC ⟨d, q, nm, 1, wh, ⟨#[]⟩, an, bo, bn⟩ = false) := hid (by rw [HC2.out]; simp [zan])
          go_wp2
          go_ret
          exact ⟨by rw [HF.out]; rfl, B3.out⟩
      · obtain ⟨s1, s2, s3, s4⟩ := sne zao
        have HF : Hid (mayC ⟨d, q, nm, 1, wh, ao, an, bo, bn⟩ = false) := hid (by rw [HC2.out]; simp [zao])
        go_wp2
        go_ret
        exact ⟨by rw [HF.out]; rfl, B3.out⟩
  by_cases zwh : wh = E0
  · obtain rfl : wh = ⟨#[]⟩ := zwh
    by_cases k2 : kd = 2
    · subst k2
      clear k1
      cases b3 with
      | false =>
        have HF : Hid (mayC ⟨d, q, nm, 2, ⟨#[]⟩, ao, an, bo, bn⟩ = false) := hid (by rw [HC2.out]; simp [E0])
        go_wp2
        go_ret
        exact ⟨by rw [HF.out]; rfl, B3.out⟩
      | true =>
        by_cases zbo : bo = E0
        · obtain rfl : bo = ⟨#[]⟩ := zbo
          by_cases zbn : bn = E0
          · obtain rfl : bn = ⟨#[]⟩ := zbn
            have HF : Hid (mayC ⟨d, q, nm, 2, ⟨#[]⟩, ao, an, ⟨#[]⟩, ⟨#[]⟩⟩ = true) := hid (by rw [HC2.out]; simp [E0])
            go_wp2
            go_ret
            exact ⟨by rw [HF.out]; rfl, B3.out⟩
          · obtain ⟨s1, s2, s3, s4⟩ := sne zbn
            have HF : Hid (mayC ⟨d, q, nm, 2, ⟨#[]⟩, ao, an, ⟨#[]⟩, bn⟩ = false) := hid (by rw [HC2.out]; simp [zbn])
            go_wp2
            go_ret
            exact ⟨by rw [HF.out]; rfl, B3.out⟩
        · obtain ⟨s1, s2, s3, s4⟩ := sne zbo
          have HF : Hid (mayC ⟨d, q, nm, 2, ⟨#[]⟩, ao, an, bo, bn⟩ = false) := hid (by rw [HC2.out]; simp [zbo])
          go_wp2
          go_ret
          exact ⟨by rw [HF.out]; rfl, B3.out⟩
    by_cases k3 : kd = 3
    · subst k3
      clear k1 k2
      have HF : Hid (mayC ⟨d, q, nm, 3, ⟨#[]⟩, ao, an, bo, bn⟩ = (b5 && b6)) := hid (by rw [HC2.out]; simp [E0])
      go_wp2_with fail
      refine (HM5.out _).mono ?_
      rintro er w4 ⟨rfl, bb⟩
      have r4 := R3.out.kept bb
      have b4' := B3.out.trans (bb.mono B3.out.size)
      clear bb c0 c1 c2 c3 c4 c5 c6 c7 c8 e0 e1 e2 e3 e4 e5 e6 e7 e8
      obtain ⟨c0, c1, c2, c3, c4, c5, c6, c7, c8⟩ := r4.all
      have R4 := hid r4
      have B4 := hid b4'
      clear r4 b4'
      go_wp2_with fail
      refine (HM6.out _).mono ?_
      rintro er w5 ⟨rfl, bb⟩
      have b5' := B4.out.trans (bb.mono B4.out.size)
      clear bb c0 c1 c2 c3 c4 c5 c6 c7 c8
      cases b5 with
      | false =>
        go_wp2
        go_ret
        exact ⟨by rw [HF.out]; rfl, b5'⟩
      | true =>
        go_wp2
        go_ret
        exact ⟨by rw [HF.out]; rfl, b5'⟩
    by_cases k4 : kd = 4
    · subst k4
      clear k1 k2 k3
      cases b3 with
      | false =>
        have HF : Hid (mayC ⟨d, q, nm, 4, ⟨#[]⟩, ao, an, bo, bn⟩ = false) := hid (by rw [HC2.out]; simp [E0])
        go_wp2
        go_ret
        exact ⟨by rw [HF.out]; rfl, B3.out⟩
      | true =>
        have HF : Hid (mayC ⟨d, q, nm, 4, ⟨#[]⟩, ao, an, bo, bn⟩ = b4) := hid (by rw [HC2.out]; simp [E0])
        go_wp2
        go_ret
        exact ⟨by rw [HF.out]; rfl, B3.out⟩
    · have HF : Hid (mayC ⟨d, q, nm, kd, ⟨#[]⟩, ao, an, bo, bn⟩ = false) := hid (by rw [HC2.out]; simp [k1, k2, k3, k4])
      go_wp2
      go_ret
      exact ⟨by rw [HF.out]; rfl, B3.out⟩
  · obtain ⟨s1, s2, s3, s4⟩ := sne zwh
    have HF : Hid (mayC ⟨d, q, nm, kd, wh, ao, an, bo, bn⟩ = false) := hid (by rw [HC2.out]; simp [k1, zwh])
    go_wp2
    go_ret
    exact ⟨by rw [HF.out]; rfl, B3.out⟩
end Go.Proofs.YtoajckhnneagnaaDoor.Sh
namespace Go.Proofs.YtoajckhnneagnaaDoor.Sh
open Go Go.RowKit

theorem RoleAt.f {w : World} {g : Nat} {o n : ByteArray} (h : RoleAt w g o n) (k : Nat) : w.frozen? ⟨g, k, none⟩ = false := frozen_of_row w g k _ _ h
set_option maxHeartbeats 2000000 in
theorem refRoleC_any (c : Crd) (h0 : -9223372036854775808 ≤ c.d) (h1 : c.d < 9223372036854775808) (w : World) :
    Calls Tryd.prog 51 #[.agg c.cells.toArray] w fun e w' => e = .returned (.agg #[.string (domB c.d), .string c.nm]) ∧ Below w.heap.size w w' := by
  obtain ⟨d, q, nm, kd, wh, ao, an, bo, bn⟩ := c
  simp only at h0 h1 ⊢
  obtain ⟨D, hD⟩ : ∃ D, domB d = D := ⟨_, rfl⟩
  have HD0 : Hid (∀ w, Calls Tryd.prog 71 #[.int .i64 d] w fun e w' => e = .returned (.string D) ∧ Below w.heap.size w w') := hid (fun w => by rw [← hD]; exact refDomain_any d h0 h1 w)
  rw [hD]
  clear hD
  obtain ⟨w1, hw1⟩ : ∃ w1, w1 = (w.alloc (.cells (Crd.cells ⟨d, q, nm, kd, wh, ao, an, bo, bn⟩).toArray 55)).alloc (.cells #[.string ⟨#[]⟩, .string ⟨#[]⟩] 24) := ⟨_, rfl⟩
  have r1 : CrAt w1 w.heap.size ⟨d, q, nm, kd, wh, ao, an, bo, bn⟩ := by rw [hw1]; exact (CrAt.new w _).kept (below_box _ _ _)
  have s1 : RoleAt w1 (w.heap.size + 1) ⟨#[]⟩ ⟨#[]⟩ := by rw [hw1]; have := RoleAt.new (w.alloc (.cells (Crd.cells ⟨d, q, nm, kd, wh, ao, an, bo, bn⟩).toArray 55)) ⟨#[]⟩ ⟨#[]⟩; rwa [World.size_alloc] at this
  have b1 : Below w.heap.size w w1 := by rw [hw1]; exact (below_cr w _).alloc (by rw [World.size_alloc]; exact Nat.le_succ _) _
  unfold Crd.cells at hw1 ⊢
  simp only at hw1 ⊢
  go_enter Tryd.func51, Tryd.ntmps51
  go_wp2_with fail
  rw [← hw1]
  clear hw1
  have HK := hid (fun W (hW : Below w1.heap.size w1 W) => (⟨(r1.kept hW).cell 0 _ rfl, (r1.kept hW).cell 2 _ rfl, (s1.kept hW).c0, (s1.kept hW).c1, (s1.kept hW).f 0, (s1.kept hW).f 1⟩ :
    W.cell? ⟨w.heap.size, 0, none⟩ = some (.int .i64 d) ∧ W.cell? ⟨w.heap.size, 2, none⟩ = some (.string nm) ∧ W.cell? ⟨w.heap.size + 1, 0, none⟩ = some (.string ⟨#[]⟩) ∧ W.cell? ⟨w.heap.size + 1, 1, none⟩ = some (.string ⟨#[]⟩) ∧ W.frozen? ⟨w.heap.size + 1, 0, none⟩ = false ∧ W.frozen? ⟨w.heap.size + 1, 1, none⟩ = false))
  have HS := hid (fun W (hW : Below w1.heap.size w1 W) => s1.kept hW)
  have HD := hid (Below.refl w1.heap.size w1).drew
  have H0 := hid b1
  clear r1 s1 b1
  obtain ⟨k1, k2, k3, k4, k5, k6⟩ := HK.out _ (Below.refl _ _)
  go_region_with ((go_at_call 71; (refine (HD0.out _).mono ?_); rintro er w5 ⟨rfl, bb⟩; have B1 := hid (kept_trans HD.out HD.out.size bb); (obtain ⟨j1, j2, j3, j4, j5, j6⟩ := HK.out _ B1.out); clear bb))
  all_goals
    go_wp2
    refine bodyPost_ret (results_mid (h := Tryd.results51) _ _ (w.heap.size + 1) 0 [.string D, .string nm] _ rfl (range_row (pair_set (HS.out _ B1.out))) Tryd.underlying24 rfl info_role) rfl
      ⟨rfl, ((H0.out.trans (B1.out.mono H0.out.size)).setCell (Nat.le_succ _) _).setCell (Nat.le_succ _) _⟩

theorem domB_size (d : Int) : (domB d).size ≤ 3 := by
  rw [← size_list]
  show (domL d).length ≤ 3
  unfold domL
  split
  · simp
  · split <;> simp
theorem role_sizes {o n : ByteArray} (h : roleL o.data.toList n.data.toList = true) : o.size ≤ 3 ∧ n.size ≤ 8 := by
  unfold roleL at h
  simp only [Bool.and_eq_true, decide_eq_true_eq] at h
  refine ⟨?_, mayL_size h.1⟩
  have e := size_list o
  rw [← (domL_numL _ h.2).1] at e
  rw [← e]
  have := domB_size (numL o.data.toList : Int)
  rw [← size_list] at this
  exact this
theorem e0_size : E0.size = 0 := rfl
theorem may_sizes {c : Crd} (h : mayC c = true) : c.nm.size ≤ 8 ∧ c.wh.size ≤ 8 ∧ c.ao.size ≤ 3 ∧ c.an.size ≤ 8 ∧ c.bo.size ≤ 3 ∧ c.bn.size ≤ 8 := by
  obtain ⟨_, _, _, _, h5⟩ := may_head h
  refine ⟨mayL_size h5, ?_⟩
  rcases may_kind h with ⟨_, m, a, b, c, d⟩ | ⟨_, a, m, c, d⟩ | ⟨_, a, b, m, d, m2⟩ | ⟨_, a, m, m2⟩
  · rw [a, b, c, d, e0_size]; exact ⟨mayL_size m, by omega, by omega, by omega, by omega⟩
  · rw [a, c, d, e0_size]; exact ⟨by omega, (role_sizes m).1, (role_sizes m).2, by omega, by omega⟩
  · rw [a, b, d, e0_size]; exact ⟨by omega, by omega, mayL_size m, by omega, mayL_size m2⟩
  · rw [a, e0_size]; exact ⟨by omega, (role_sizes m).1, (role_sizes m).2, (role_sizes m2).1, (role_sizes m2).2⟩
end Go.Proofs.YtoajckhnneagnaaDoor.Sh
