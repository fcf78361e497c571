/-
  The program's Support, by contract.
-/
import Derived.Test.YtfbapbpggicfbaaGreatDoorJz18
import Derived.Test.YtfbapbpggicfbaaGreatDoorJz11
import Derived.Test.YtfbapbpggicfbaaGreatDoorJz16
set_option linter.unusedVariables false
set_option linter.unusedSimpArgs false
namespace Go.Proofs.YtfbapbpggicfbaaGreatDoor.Sh
open Go Go.RowKit

set_option linter.unusedVariables false
set_option linter.unusedSimpArgs false

/-- Sorted, each once. -/
def SortedI (l : List (Int × Int)) : Prop := l.Pairwise fun x y => beforeI x.1 x.2 y.1 y.2 = true
theorem sortedI_of {l l' : List (Int × Int)} (hp : l'.Perm l) (hn : l.Nodup) (h : l'.Pairwise fun x y => beforeI y.1 y.2 x.1 x.2 = false) : SortedI l' := by
  have hn' : l'.Nodup := hp.nodup_iff.2 hn
  refine List.Pairwise.imp₂ (fun x y hxy hne => ?_) h hn'
  unfold beforeI at hxy ⊢
  simp only [decide_eq_true_eq, decide_eq_false_iff_not] at hxy ⊢
  rcases Int.lt_trichotomy x.1 y.1 with h1 | h1 | h1
  · exact .inl h1
  · rcases Int.lt_trichotomy x.2 y.2 with h2 | h2 | h2
    · exact .inr ⟨h1, h2⟩
    · exact absurd (Prod.ext h1 h2) hne
    · exact absurd (.inr ⟨h1.symm, h2⟩) hxy
  · exact absurd (.inl h1) hxy
theorem SortedI.uniq {a b : List (Int × Int)} (ha : SortedI a) (hb : SortedI b) (h : ∀ i, i ∈ a ↔ i ∈ b) : a = b := by
  have irr : ∀ x : Int × Int, ¬ beforeI x.1 x.2 x.1 x.2 = true := fun x => by unfold beforeI; simp only [decide_eq_true_eq]; omega
  have nd : ∀ {l}, SortedI l → l.Nodup := fun {l} hl => List.Pairwise.imp (fun {x y} hxy (e : x = y) => by subst e; exact irr _ hxy) hl
  exact List.Perm.eq_of_pairwise (le := fun (x y : Int × Int) => beforeI x.1 x.2 y.1 y.2 = true) (fun x y _ _ h1 h2 => by
    have := beforeI_trans h1 h2
    exact absurd this (irr x)) ha hb ((List.perm_ext_iff_of_nodup (nd ha) (nd hb)).2 h)
theorem PIn.idsOk {w : World} {B : Nat} {p : PT} (h : PIn w B p) : ∀ i ∈ p.ids, okI i := by
  induction h with
  | mk h0 h1 h2 h3 h4 ih =>
    intro i hi
    rw [PT.ids_eq] at hi
    rcases List.mem_cons.1 hi with e | e
    · rw [e]; exact h0
    · obtain ⟨a, ha, hia⟩ := List.mem_flatMap.1 e
      exact ih a ha i hia
set_option maxHeartbeats 2000000 in
theorem collectI_any (g : Nat) (lb : Array Value) (eg : ∀ args w, (callFunc g args).run Tryz.prog w = .ok (.enter g args) w) (S : List (Int × Int) → Prop) (N : Nat) (hN : N ≤ 1000000) (w : World)
    (hseq : SeqStopsK Fence.wide 4 Tryz.prog g lb (fun x : Int × Int => #[iV x]) KeepsWalks S (fun _ => True) N w) :
    Calls Tryz.prog 55 #[.func (.func g) #[] lb] w fun e w' => ∃ (A : Option Addr) (c : Nat) (ss : List (Int × Int)), e = .returned (.slice A ss.length c) ∧ S ss ∧ Own (E := encI) w' w.heap.size 26 (.slice A ss.length c) ss ∧ Below w.heap.size w w' := by
  have HCA := hid (callsIn_wide.1 (appendSeqI_in Fence.wide 5 trivial rfl (by omega) g lb trivial eg S N hN w hseq))
  clear hseq
  go_enter Tryz.func55, Tryz.ntmps55
  go_wp2_with fail
  refine HCA.out.mono ?_
  rintro er w2 ⟨A, c, ss, rfl, hS, ho, hb⟩
  go_wp2_with fail
  go_ret
  exact ⟨A, c, ss, rfl, hS, ho, hb⟩
set_option maxHeartbeats 2000000 in
theorem sortedFuncI_any (g : Nat) (lb : Array Value) (eg : ∀ args w, (callFunc g args).run Tryz.prog w = .ok (.enter g args) w) (S : List (Int × Int) → Prop) (hSn : ∀ ss, S ss → ss.Nodup ∧ ss.length ≤ 1000000) (N : Nat) (hN : N ≤ 1000000) (w : World)
    (hseq : SeqStopsK Fence.wide 4 Tryz.prog g lb (fun x : Int × Int => #[iV x]) KeepsWalks S (fun _ => True) N w) :
    Calls Tryz.prog 31 #[.func (.func g) #[] lb, .func (.func 33) #[] #[]] w fun e w' => ∃ (A : Option Addr) (c : Nat) (ss l : List (Int × Int)), e = .returned (.slice A ss.length c) ∧ S l ∧ ss.Perm l ∧ SortedI ss ∧ Own (E := encI) w' w.heap.size 26 (.slice A ss.length c) ss ∧ Below w.heap.size w w' := by
  have HCA := hid (collectI_any g lb eg S N hN w hseq)
  have HSN := hid hSn
  clear hseq hSn
  go_enter Tryz.func31, Tryz.ntmps31
  go_wp2_with fail
  refine HCA.out.mono ?_
  rintro er w2 ⟨A, c, l, rfl, hS, ho, hb⟩
  have HSO := hid (sortI_any ho (by have := (HSN.out l hS).2; omega))
  have HS := hid hS
  have HO := hid ho
  have HB := hid hb
  obtain ⟨m, hm⟩ : ∃ m, l.length = m := ⟨_, rfl⟩
  have HM := hid hm
  rw [hm] at HSO HO ⊢
  clear HCA hS ho hb hm
  go_wp2_with fail
  refine HSO.out.mono ?_
  rintro er w3 ⟨rfl, l', hp, hpw, ho, hg⟩
  have HB3 : Hid (Below w.heap.size w w3) := hid (HB.out.grown hg HB.out.size (fun k e => (HO.out.lt k e).1))
  have HR : Hid (l'.length = m ∧ l'.Perm l ∧ SortedI l' ∧ Own (E := encI) w3 w.heap.size 26 (.slice A m c) l') := hid ⟨by rw [hp.length_eq, HM.out], hp, sortedI_of hp (HSN.out l HS.out).1 hpw, ho⟩
  clear HSO hp hpw ho hg
  go_wp2_with fail
  go_ret
  exact ⟨A, c, l', l, by rw [HR.out.1]; rfl, HS.out, HR.out.2.1, HR.out.2.2.1, by rw [HR.out.1]; exact HR.out.2.2.2, HB3.out⟩
set_option maxHeartbeats 4000000 in
set_option maxRecDepth 100000 in
theorem support_any (p : PT) (w : World) (hs : p.size ≤ 100000) (hp : PIn w w.heap.size p) :
    Calls Tryz.prog 14 #[.agg p.cells.toArray] w fun e w' => ∃ (A : Option Addr) (c : Nat) (ss : List (Int × Int)), e = .returned (.slice A ss.length c) ∧ SortedI ss ∧ (∀ i, i ∈ ss ↔ i ∈ p.ids) ∧ Own (E := encI) w' w.heap.size 26 (.slice A ss.length c) ss ∧ Below w.heap.size w w' := by
  have hmf : ∀ (fn : Fn) (first cap : Array Value) (w : World), (Instr.makeFunc fn first cap).run Tryz.prog w = .ok (.func fn first cap) w := fun _ _ _ _ => rfl
  have hmm := @run_makeMap Tryz.prog
  have hids := hp.idsOk
  obtain ⟨o, n, x, d, q, A, c, ps⟩ := p
  obtain ⟨g0, hg0⟩ : ∃ g, w.heap.size = g := ⟨_, rfl⟩
  obtain ⟨w1, hw1⟩ : ∃ w1, w1 = ((w.alloc (.cells (PT.mk o n x d q A c ps).cells.toArray 29)).alloc (.map #[] 0)).alloc (.cells #[.map none, .map (some (g0 + 1)), .int .i64 0] 41) := ⟨_, rfl⟩
  have HQ1 : Hid (Below w.heap.size w w1) := hid (by rw [hw1]; exact (((Below.refl _ w).alloc (Nat.le_refl _) _).alloc (by rw [World.size_alloc]; exact Nat.le_succ _) _).alloc (by rw [World.size_alloc, World.size_alloc]; omega) _)
  have HIM : Hid (IMap w1 (g0 + 1) []) := hid (by
    rw [hw1]
    have := IMap.new (w.alloc (.cells (PT.mk o n x d q A c ps).cells.toArray 29))
    rw [World.size_alloc, hg0] at this
    exact this.kept ((Below.refl _ _).alloc (Nat.le_refl _) _))
  have HIA : Hid (IAt w1 (g0 + 1 + 1) (g0 + 1)) := hid (by
    rw [hw1]
    have := heap_alloc_new ((w.alloc (.cells (PT.mk o n x d q A c ps).cells.toArray 29)).alloc (.map #[] 0)) (.cells #[.map none, .map (some (g0 + 1)), .int .i64 0] 41)
    rw [World.size_alloc, World.size_alloc, hg0] at this
    exact this)
  have HCA := hid (visitI_any (.pointer (some ⟨g0 + 1 + 1, 0, none⟩)) (g0 + 1) g0 (fun W L => IAt W (g0 + 1 + 1) (g0 + 1) ∧ IMap W (g0 + 1) L) (fun p W L h hpi _ hL => collect_any (g0 + 1 + 1) (g0 + 1) (by omega) p W L h hL (by obtain ⟨_, _, _, _, _, _, _, _⟩ := p; exact hpi.ok)) (fun _ _ _ h hb => ⟨h.1.kept hb, h.2.kept hb⟩) (fun _ _ h => h.2.lt) (by omega) (.mk o n x d q A c ps) w1 [] ⟨HIA.out, HIM.out⟩ (by rw [← hg0]; exact hp.into HQ1.out) (by simpa using hs))
  obtain ⟨I, hI⟩ : ∃ I, (PT.mk o n x d q A c ps).ids = I := ⟨_, rfl⟩
  have HIL : Hid (I.length ≤ 100000) := hid (by rw [← hI]; exact hs)
  rw [List.nil_append, hI] at HCA
  rw [hI] at hids ⊢
  have HIO := hid hids
  have HG0 := hid hg0
  unfold PT.cells at hw1 HCA ⊢
  simp only at hw1 HCA ⊢
  clear hp hs hI hids
  go_enter Tryz.func14, Tryz.ntmps14
  go_wp2_with fail
  rw [← hw1]
  obtain ⟨gk, hgk⟩ : ∃ g, g0 + 1 + 1 = g := ⟨_, rfl⟩
  obtain ⟨gb, hgb⟩ : ∃ g, g0 + 1 = g := ⟨_, rfl⟩
  have HGK : Hid (g0 + 1 + 1 = gk ∧ g0 + 1 = gb) := hid ⟨hgk, hgb⟩
  rw [hgk] at HIA HCA ⊢
  rw [hgb] at HIA HIM HCA ⊢
  clear hw1 hg0 hgk hgb
  refine HCA.out.mono ?_
  rintro er w2 ⟨rfl, ⟨hi2, hm2⟩, hg2⟩
  have kc := hi2.cell
  have HB2 : Hid (Below w.heap.size w w2) := hid (HQ1.out.grown hg2 HQ1.out.size (fun k e => by injection e with e; have := HGK.out; have := HG0.out; omega))
  obtain ⟨w3, hw3⟩ : ∃ w3, w3 = w2.alloc (.cells #[.map (some gb)] 39) := ⟨_, rfl⟩
  have HB3 : Hid (Below w2.heap.size w2 w3) := hid (by rw [hw3]; exact (Below.refl _ _).alloc (Nat.le_refl _) _)
  have hm3 : w3.cell? ⟨w2.heap.size, 0, none⟩ = some (.map (some gb)) := by
    rw [hw3, cell_of_row _ w2.heap.size 0 _ _ (0, 0) (heap_alloc_new w2 _)]; rfl
  have HST := hid (sortedFuncI_any 57 #[.pointer (some ⟨w2.heap.size, 0, none⟩)] (enters_of Tryz.func57 (by kernel_rfl) rfl) (fun ss => ss.Nodup ∧ (∀ i ∈ ss, okI i) ∧ ∀ i, okI i → (i ∈ ss ↔ i ∈ I))
    (fun ss hss => ⟨hss.1, by have := nodup_le hss.1 (fun i hi => (hss.2.2 i (hss.2.1 i hi)).1 hi); have := HIL.out; omega⟩) I.length (by have := HIL.out; omega) w3
    (keysI_stops Fence.wide 4 trivial rfl (by omega) w2.heap.size gb I w3 (by rw [hw3]; simp) hm3 (hm2.kept HB3.out)))
  have HKE := hid (callsIn_wide.1 (keys_any Fence.wide 1 trivial rfl (some gb) w2))
  rw [← hw3] at HKE
  clear hi2 hm2 hg2 HCA hm3 hw3
  go_wp2_with (first
    | (go_at_call 32; (refine HKE.out.mono ?_); rintro er w4 ⟨rfl, rfl⟩)
    | (go_at_call 31; (refine HST.out.mono ?_); rintro er w5 ⟨A5, c5, ss, l, rfl, hS, hP, hSo, ho5, hb5⟩))
  go_ret
  refine ⟨A5, c5, ss, rfl, hSo, fun i => ?_, own_mono' ho5 (Nat.le_trans HB2.out.size HB3.out.size), (HB2.out.trans (HB3.out.mono HB2.out.size)).trans (hb5.mono (Nat.le_trans HB2.out.size HB3.out.size))⟩
  rw [hP.mem_iff]
  constructor
  · intro h; exact (hS.2.2 i (hS.2.1 i h)).1 h
  · intro h; exact (hS.2.2 i (HIO.out i h)).2 h
end Go.Proofs.YtfbapbpggicfbaaGreatDoor.Sh
/-
  The document's own Once and Support, by contract.
-/
namespace Go.Proofs.YtfbapbpggicfbaaGreatDoor.Sh
open Go Go.RowKit

set_option linter.unusedVariables false
set_option linter.unusedSimpArgs false
abbrev bfI (x y : Int × Int) : Bool := beforeI x.1 x.2 y.1 y.2
def insI (x : Int × Int) : List (Int × Int) → List (Int × Int)
  | [] => [x]
  | y :: t => if bfI x y = true then x :: y :: t else if y = x then y :: t else y :: insI x t
theorem insI_mem (x : Int × Int) (l : List (Int × Int)) (i : Int × Int) : i ∈ insI x l ↔ i = x ∨ i ∈ l := by
  induction l with
  | nil => simp [insI]
  | cons y t ih =>
    unfold insI
    by_cases h : bfI x y = true
    · rw [if_pos h]; simp
    · rw [if_neg h]
      by_cases h2 : y = x
      · rw [if_pos h2, h2]; simp
      · rw [if_neg h2, List.mem_cons, ih, List.mem_cons]
        constructor
        · rintro (h | h | h)
          · exact .inr (.inl h)
          · exact .inl h
          · exact .inr (.inr h)
        · rintro (h | h | h)
          · exact .inr (.inl h)
          · exact .inl h
          · exact .inr (.inr h)
theorem insI_len (x : Int × Int) (l : List (Int × Int)) : (insI x l).length ≤ l.length + 1 := by
  induction l with
  | nil => simp [insI]
  | cons y t ih =>
    unfold insI
    split
    · simp
    · split
      · simp
      · simp only [List.length_cons]; omega
theorem insI_sorted (x : Int × Int) (l : List (Int × Int)) (h : SortedI l) : SortedI (insI x l) := by
  induction l with
  | nil => exact List.pairwise_singleton _ _
  | cons y t ih =>
    obtain ⟨h1, h2⟩ := List.pairwise_cons.1 h
    unfold insI
    by_cases hb : bfI x y = true
    · rw [if_pos hb]
      refine List.pairwise_cons.2 ⟨fun z hz => ?_, h⟩
      rcases List.mem_cons.1 hz with e | e
      · rw [e]; exact hb
      · exact beforeI_trans hb (h1 z e)
    · rw [if_neg hb]
      by_cases he : y = x
      · rw [if_pos he]; exact h
      · rw [if_neg he]
        refine List.pairwise_cons.2 ⟨fun z hz => ?_, ih h2⟩
        rcases (insI_mem x t z).1 hz with e | e
        · rw [e]
          obtain ⟨x1, x2⟩ := x
          obtain ⟨y1, y2⟩ := y
          unfold bfI beforeI at hb
          unfold beforeI
          simp only [decide_eq_true_eq, Prod.mk.injEq, not_and] at hb he ⊢
          by_cases e1 : y1 = x1
          · have := he e1; omega
          · omega
        · exact h1 z e
def stI (x : Int × Int) (s : List (Int × Int) × Bool) (y : Int × Int) : List (Int × Int) × Bool :=
  ((if s.2 = true then s.1 else if bfI x y = true then s.1 ++ [x] else s.1) ++ [y], s.2 || bfI x y || decide (y = x))
theorem stI_put (x : Int × Int) (l acc : List (Int × Int)) : l.foldl (stI x) (acc, true) = (acc ++ l, true) := by
  induction l generalizing acc with
  | nil => simp
  | cons y t ih => rw [List.foldl_cons, show stI x (acc, true) y = (acc ++ [y], true) by simp [stI], ih]; simp
theorem stI_fin (x : Int × Int) (l acc : List (Int × Int)) : (if (l.foldl (stI x) (acc, false)).2 = true then (l.foldl (stI x) (acc, false)).1 else (l.foldl (stI x) (acc, false)).1 ++ [x]) = acc ++ insI x l := by
  induction l generalizing acc with
  | nil => simp [insI]
  | cons y t ih =>
    rw [List.foldl_cons]
    unfold insI
    by_cases hb : bfI x y = true
    · rw [show stI x (acc, false) y = (acc ++ [x] ++ [y], true) by simp [stI, hb], stI_put, if_pos hb]; simp
    · have hb' := Bool.eq_false_iff.2 hb
      by_cases he : y = x
      · rw [show stI x (acc, false) y = (acc ++ [y], true) by unfold stI; rw [hb', decide_eq_true he]; simp, stI_put, if_neg hb, if_pos he]; simp
      · rw [show stI x (acc, false) y = (acc ++ [y], false) by unfold stI; rw [hb', decide_eq_false he]; simp, ih, if_neg hb, if_neg he]; simp
theorem stI_len (x : Int × Int) (l : List (Int × Int)) (s : List (Int × Int) × Bool) : (l.foldl (stI x) s).1.length ≤ s.1.length + 2 * l.length := by
  induction l generalizing s with
  | nil => simp
  | cons y t ih =>
    rw [List.foldl_cons]
    have h1 := ih (stI x s y)
    have h2 : (stI x s y).1.length ≤ s.1.length + 2 := by
      unfold stI
      simp only [List.length_append, List.length_singleton]
      split
      · omega
      · split
        · simp
        · omega
    simp only [List.length_cons]
    omega
def onceI (l : List (Int × Int)) : List (Int × Int) := l.foldl (fun o x => insI x o) []
theorem onceI_snoc (l : List (Int × Int)) (x : Int × Int) : onceI (l ++ [x]) = insI x (onceI l) := by unfold onceI; rw [List.foldl_append]; rfl
theorem onceI_all (l : List (Int × Int)) : SortedI (onceI l) ∧ (onceI l).length ≤ l.length ∧ ∀ i, i ∈ onceI l ↔ i ∈ l := by
  have key : ∀ (l o : List (Int × Int)), SortedI o → SortedI (l.foldl (fun o x => insI x o) o) ∧ (l.foldl (fun o x => insI x o) o).length ≤ o.length + l.length ∧ ∀ i, i ∈ l.foldl (fun o x => insI x o) o ↔ i ∈ o ∨ i ∈ l := by
    intro l
    induction l with
    | nil => intro o h; exact ⟨h, by simp, by simp⟩
    | cons x t ih =>
      intro o h
      obtain ⟨a1, a2, a3⟩ := ih (insI x o) (insI_sorted x o h)
      refine ⟨a1, ?_, fun i => ?_⟩
      · have := insI_len x o
        rw [List.foldl_cons]
        simp only [List.length_cons]
        omega
      · rw [List.foldl_cons, a3, insI_mem, List.mem_cons]
        constructor
        · rintro ((h | h) | h)
          · exact .inr (.inl h)
          · exact .inl h
          · exact .inr (.inr h)
        · rintro (h | h | h)
          · exact .inl (.inr h)
          · exact .inl (.inl h)
          · exact .inr h
  obtain ⟨a1, a2, a3⟩ := key l [] List.Pairwise.nil
  exact ⟨a1, by simp only [List.length_nil, Nat.zero_add] at a2; exact a2, fun i => by rw [show onceI l = l.foldl (fun o x => insI x o) [] from rfl, a3]; simp⟩
end Go.Proofs.YtfbapbpggicfbaaGreatDoor.Sh
/-
  The program's visit with follows, by contract.
-/
namespace Go.Proofs.YtfbapbpggicfbaaGreatDoor.Sh
open Go Go.RowKit

set_option linter.unusedVariables false
set_option linter.unusedSimpArgs false

set_option maxHeartbeats 4000000 in
theorem visitF_any (cs : List Crd) (hmay : ∀ c ∈ cs, mayC c = true) (honce : OnceI cs) (gk b nb : Nat) (p : PT) : ∀ (w : World), KAt w gk b → CMap w b nb cs → PIn w w.heap.size p →
    Calls Tryz.prog 12 #[.agg p.cells.toArray, .func (.func 13) #[.pointer (some ⟨gk, 0, none⟩)] #[]] w fun e w' => e = .returned (.bool (dc (Cor cs p))) ∧ Below w.heap.size w w' := by
  induction p using PT.ind
  rename_i o n x d q A c ps ih
  intro w hk hm hp
  have HIH := hid ih
  have HPX := hid hp
  obtain ⟨h1, h2, h3, h4⟩ := hp.open'
  obtain ⟨w1, hw1⟩ : ∃ w1, w1 = w.alloc (.cells (PT.mk o n x d q A c ps).cells.toArray 29) := ⟨_, rfl⟩
  have HQ1 : Hid (Below w.heap.size w w1) := hid (by rw [hw1]; exact below_pr w _)
  have HPA : Hid (PrAt w1 w.heap.size (.mk o n x d q A c ps)) := hid (by rw [hw1]; exact PrAt.new w _)
  have HPI := hid h4
  have HEL := hid (h3.below HQ1.out)
  obtain ⟨np, hnp⟩ : ∃ np, ps.length = np := ⟨_, rfl⟩
  have HNP := hid hnp
  have hnp63 : np ≤ 9223372036854775807 := by omega
  have HPA5 := hid (fun W (hW : Below w1.heap.size w1 W) => (HPA.out.kept hW).all)
  rw [hnp] at HPA5
  unfold PT.cells at hw1 ⊢
  simp only [hnp] at hw1 ⊢
  have HKM := hid (fun W (hW : Below w1.heap.size w1 W) => (⟨(hk.kept HQ1.out).kept hW, (hm.kept HQ1.out).kept hW⟩ : KAt W gk b ∧ CMap W b nb cs))
  have HFO := hid (follows_any cs hmay honce gk b nb (.mk o n x d q A c ps) w1 (hk.kept HQ1.out) (hm.kept HQ1.out) (hp.now HQ1.out))
  unfold PT.cells at HFO
  simp only [hnp] at HFO
  obtain ⟨Z, hZ⟩ : ∃ Z, dc (Cor cs (.mk o n x d q A c ps)) = Z := ⟨_, rfl⟩
  obtain ⟨F, hF⟩ : ∃ F, dc (Fol cs (.mk o n x d q A c ps)) = F := ⟨_, rfl⟩
  have HZ : Hid (Z = true ↔ F = true ∧ ∀ a ∈ ps, Cor cs a) := hid (by rw [← hZ, ← hF, dc_iff, dc_iff, cor_iff]; rfl)
  rw [hF] at HFO
  rw [hZ]
  clear ih hp h1 h2 h3 h4 hnp hZ hF hk hm hmay honce
  go_enter Tryz.func12, Tryz.ntmps12
  go_wp2_with fail
  rw [← hw1]
  clear hw1
  refine HFO.out.mono ?_
  rintro er w2 ⟨rfl, hb2⟩
  have HB2 := hid hb2
  clear HFO hb2
  obtain ⟨k0, k1, k2, k3, k4, k5⟩ := HPA5.out _ HB2.out
  cases F with
  | false =>
    have HF : Hid (Z = false) := hid (Bool.eq_false_iff.2 fun e => by have := (HZ.out.1 e).1; cases this)
    go_wp2_with fail
    go_ret
    exact ⟨by rw [HF.out]; rfl, HQ1.out.trans (HB2.out.mono HQ1.out.size)⟩
  | true =>
    have HZT : Hid ((∀ a ∈ ps, Cor cs a) → Z = true) := hid (fun h => HZ.out.2 ⟨rfl, h⟩)
    have HZF : Hid (∀ a ∈ ps, ¬ Cor cs a → Z = false) := hid (fun a ha h => Bool.eq_false_iff.2 fun e => h ((HZ.out.1 e).2 a ha))
    clear HZ
    go_wp2_with fail
    go_loopw [14] (fun i wr => ∃ j : Nat, j ≤ np ∧ i = .int .i64 (j : Int) ∧ Hid (∀ p ∈ ps.take j, Cor cs p) ∧ Hid (Below w1.heap.size w1 wr)) (fun i _ => np - (intOf i).toNat)
    case atStart => exact ⟨0, Nat.zero_le _, rfl, hid (by simp), HB2⟩
    case round =>
      obtain ⟨j, hj, rfl, HAL, HB⟩ := hrel
      by_cases hlt : j < np
      · obtain ⟨⟨o2, n2, x2, d2, q2, A2, c2, ps2⟩, hx⟩ : ∃ x, ps[j]? = some x := ⟨_, List.getElem?_eq_getElem (by rw [HNP.out]; exact hlt)⟩
        have HX := hid hx
        have HME : Hid (PT.mk o2 n2 x2 d2 q2 A2 c2 ps2 ∈ ps) := hid (List.mem_of_getElem? hx)
        obtain ⟨ad, aj, rfl, hab, ea, hbj, a0, a1, a2, a3, a4, a5⟩ := PIn.get (HEL.out.below (HB.out.mono HQ1.out.size)) hx
        have hj0 : (0 : Int) ≤ (j : Int) := Int.natCast_nonneg _
        have hj1 : (j : Int) < (np : Int) := by omega
        have HPN := hid (fun W (hW : Below w1.heap.size w1 W) => (HPI.out _ HME.out).now (HQ1.out.trans (hW.mono HQ1.out.size)))
        clear hx hab hbj
        obtain ⟨wb, hwb⟩ : ∃ wb, wb = wr.alloc (.cells (PT.mk o2 n2 x2 d2 q2 A2 c2 ps2).cells.toArray 29) := ⟨_, rfl⟩
        have HBB : Hid (Below w1.heap.size w1 wb) := hid (by rw [hwb]; exact HB.out.alloc HB.out.size _)
        have HCA := hid (HIH.out _ HME.out wb (HKM.out _ HBB.out).1 (HKM.out _ HBB.out).2 (HPN.out _ HBB.out))
        unfold PT.cells at HCA hwb
        simp only at HCA hwb
        obtain ⟨T, hT⟩ : ∃ T, dc (Cor cs (.mk o2 n2 x2 d2 q2 A2 c2 ps2)) = T := ⟨_, rfl⟩
        have HT : Hid (T = true ↔ Cor cs (.mk o2 n2 x2 d2 q2 A2 c2 ps2)) := hid (by rw [← hT, dc_iff])
        rw [hT] at HCA
        clear hT
        go_wp2_with fail
        rw [← hwb]
        refine HCA.out.mono ?_
        rintro er w3 ⟨rfl, hb3⟩
        have HB3 := hid (HBB.out.trans (hb3.mono HBB.out.size))
        clear hb3 HCA hwb a0 a1 a2 a3 a4 a5
        cases T with
        | true =>
          have HT2 := hid (mem_take_succ HX.out HAL.out (HT.out.1 rfl))
          go_wp2_with fail
          go_roundw
          case rel => exact ⟨j + 1, by omega, by go_num, HT2, HB3⟩
          case measure => simp [intOf]; omega
        | false =>
          have HF : Hid (Z = false) := hid (HZF.out _ HME.out (fun e => by have := HT.out.2 e; cases this))
          go_wp2_with fail
          go_ret
          exact ⟨by rw [HF.out]; rfl, HQ1.out.trans (HB3.out.mono HQ1.out.size)⟩
      · obtain rfl : j = np := by omega
        have HF : Hid (Z = true) := hid (HZT.out (by have := HAL.out; rwa [List.take_of_length_le (by rw [HNP.out]; exact Nat.le_refl _)] at this))
        go_wp2_with fail
        go_ret
        exact ⟨by rw [HF.out]; rfl, HQ1.out.trans (HB.out.mono HQ1.out.size)⟩
end Go.Proofs.YtfbapbpggicfbaaGreatDoor.Sh
