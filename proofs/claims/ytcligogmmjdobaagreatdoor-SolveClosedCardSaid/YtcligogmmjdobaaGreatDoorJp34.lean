/-
  The order of pairs: pure, and the program's by contract. What is sorted is one.
-/
import Derived.Test.YtcligogmmjdobaaGreatDoorJp33
import Derived.Shelf.SlSortCmp.InsertionK
set_option linter.unusedVariables false
set_option linter.unusedSimpArgs false
namespace Go.Proofs.YtcligogmmjdobaaGreatDoor.Sh
open Go Go.RowKit Go.Sort

set_option linter.unusedSimpArgs false
theorem bl_irrefl (x : List UInt8) : Op.bytesLess x x = false := by
  induction x with
  | nil => rfl
  | cons a t ih => simp [Op.bytesLess, ih]
theorem bl_asymm : ∀ (x y : List UInt8), Op.bytesLess x y = true → Op.bytesLess y x = false
  | _, [], h => by simp [Op.bytesLess] at h
  | [], _ :: _, _ => rfl
  | a :: x, b :: y, h => by
    simp only [Op.bytesLess, Bool.or_eq_true, Bool.and_eq_true, decide_eq_true_eq, beq_iff_eq] at h
    simp only [Op.bytesLess, Bool.or_eq_false_iff, Bool.and_eq_false_iff, decide_eq_false_iff_not, beq_eq_false_iff_ne]
    rcases h with h | ⟨rfl, h⟩
    · exact ⟨UInt8.lt_asymm h, .inl (fun e => by rw [e] at h; exact UInt8.lt_irrefl _ h)⟩
    · exact ⟨UInt8.lt_irrefl _, .inr (bl_asymm x y h)⟩
theorem bl_tri : ∀ (x y : List UInt8), Op.bytesLess x y = false → Op.bytesLess y x = false → x = y
  | [], [], _, _ => rfl
  | [], _ :: _, h, _ => by simp [Op.bytesLess] at h
  | _ :: _, [], _, h => by simp [Op.bytesLess] at h
  | a :: x, b :: y, h, h2 => by
    simp only [Op.bytesLess, Bool.or_eq_false_iff, Bool.and_eq_false_iff, decide_eq_false_iff_not, beq_eq_false_iff_ne] at h h2
    have e : a = b := by
      rcases UInt8.lt_or_lt_of_ne (a := a) (b := b) |> fun f => (Classical.em (a = b)).imp id f with e | e | e
      · exact e
      · exact absurd e h.1
      · exact absurd e h2.1
    subst e
    have h3 : Op.bytesLess x y = false := h.2.resolve_left (fun k => k rfl)
    have h4 : Op.bytesLess y x = false := h2.2.resolve_left (fun k => k rfl)
    rw [bl_tri x y h3 h4]
theorem bl_trans : ∀ (x y z : List UInt8), Op.bytesLess x y = true → Op.bytesLess y z = true → Op.bytesLess x z = true
  | _, [], _, h, _ => by simp [Op.bytesLess] at h
  | _, _ :: _, [], _, h => by simp [Op.bytesLess] at h
  | [], _ :: _, _ :: _, _, _ => rfl
  | a :: x, b :: y, c :: z, h, h2 => by
    simp only [Op.bytesLess, Bool.or_eq_true, Bool.and_eq_true, decide_eq_true_eq, beq_iff_eq] at h h2 ⊢
    rcases h with h | ⟨rfl, h⟩
    · rcases h2 with h2 | ⟨rfl, _⟩
      · exact .inl (UInt8.lt_trans h h2)
      · exact .inl h
    · rcases h2 with h2 | ⟨rfl, h2⟩
      · exact .inl h2
      · exact .inr ⟨rfl, bl_trans x y z h h2⟩
def bl (a b : ByteArray) : Bool := Op.bytesLess a.data.toList b.data.toList
def lt3 (a b c a' b' c' : ByteArray) : Prop := bl a a' = true ∨ (a = a' ∧ (bl b b' = true ∨ (b = b' ∧ bl c c' = true)))
theorem lt3_irrefl (a b c : ByteArray) : ¬ lt3 a b c a b c := by
  unfold lt3 bl
  simp [bl_irrefl]
theorem lt3_trans {a b c a' b' c' a2 b2 c2 : ByteArray} (h : lt3 a b c a' b' c') (k : lt3 a' b' c' a2 b2 c2) : lt3 a b c a2 b2 c2 := by
  rcases h with h | ⟨rfl, h⟩
  · rcases k with k | ⟨rfl, k⟩
    · exact .inl (bl_trans _ _ _ h k)
    · exact .inl h
  · rcases k with k | ⟨rfl, k⟩
    · exact .inl k
    · refine .inr ⟨rfl, ?_⟩
      rcases h with h | ⟨rfl, h⟩
      · rcases k with k | ⟨rfl, k⟩
        · exact .inl (bl_trans _ _ _ h k)
        · exact .inl h
      · rcases k with k | ⟨rfl, k⟩
        · exact .inl k
        · exact .inr ⟨rfl, bl_trans _ _ _ h k⟩
theorem bl_three (a b : ByteArray) : bl a b = true ∨ a = b ∨ bl b a = true := by
  unfold bl
  cases h : Op.bytesLess a.data.toList b.data.toList with
  | true => exact .inl rfl
  | false =>
    cases h' : Op.bytesLess b.data.toList a.data.toList with
    | true => exact .inr (.inr rfl)
    | false => exact .inr (.inl (ba_eq (bl_tri _ _ h h')))
theorem lt3_three (a b c a' b' c' : ByteArray) : lt3 a b c a' b' c' ∨ (a = a' ∧ b = b' ∧ c = c') ∨ lt3 a' b' c' a b c := by
  unfold lt3
  rcases bl_three a a' with h | rfl | h
  · exact .inl (.inl h)
  · rcases bl_three b b' with h | rfl | h
    · exact .inl (.inr ⟨rfl, .inl h⟩)
    · rcases bl_three c c' with h | rfl | h
      · exact .inl (.inr ⟨rfl, .inr ⟨rfl, h⟩⟩)
      · exact .inr (.inl ⟨rfl, rfl, rfl⟩)
      · exact .inr (.inr (.inr ⟨rfl, .inr ⟨rfl, h⟩⟩))
    · exact .inr (.inr (.inr ⟨rfl, .inl h⟩))
  · exact .inr (.inr (.inl h))
/-- One pair stands before another. -/
def ltP (x y : Pr) : Prop := lt3 x.1.1 x.1.2 x.2 y.1.1 y.1.2 y.2
def cmpN (a b : ByteArray) : Int := if bl a b = true then -1 else if bl b a = true then 1 else 0
def cmpP (x y : Pr) : Int := if lessL x.1.1 x.1.2 y.1.1 y.1.2 = true then -1 else if lessL y.1.1 y.1.2 x.1.1 x.1.2 = true then 1 else cmpN x.2 y.2
theorem lessL_iff (o n o' n' : ByteArray) : lessL o n o' n' = true ↔ bl o o' = true ∨ (o = o' ∧ bl n n' = true) := by
  unfold lessL bl
  by_cases h : o = o'
  · subst h
    rw [if_pos rfl]
    simp [bl_irrefl]
  · rw [if_neg (fun e => h (ba_eq e))]
    simp [h]
theorem cmpP_lt (x y : Pr) : cmpP x y < 0 ↔ ltP x y := by
  obtain ⟨⟨o, n⟩, w⟩ := x
  obtain ⟨⟨o', n'⟩, w'⟩ := y
  unfold cmpP ltP lt3
  simp only
  by_cases h1 : lessL o n o' n' = true
  · rw [if_pos h1]
    rw [lessL_iff] at h1
    refine ⟨fun _ => ?_, fun _ => by omega⟩
    rcases h1 with h | ⟨h, k⟩
    · exact .inl h
    · exact .inr ⟨h, .inl k⟩
  · rw [if_neg h1]
    by_cases h2 : lessL o' n' o n = true
    · rw [if_pos h2]
      rw [lessL_iff] at h1 h2
      refine ⟨fun h => by omega, fun h => ?_⟩
      exfalso
      rcases h with h | ⟨rfl, h | ⟨rfl, h⟩⟩
      · exact h1 (.inl h)
      · exact h1 (.inr ⟨rfl, h⟩)
      · rcases h2 with h2 | ⟨_, h2⟩
        · unfold bl at h2; rw [bl_irrefl] at h2; cases h2
        · unfold bl at h2; rw [bl_irrefl] at h2; cases h2
    · rw [if_neg h2]
      rw [lessL_iff] at h1 h2
      have e1 : o = o' := by
        rcases bl_three o o' with h | h | h
        · exact absurd (.inl h) h1
        · exact h
        · exact absurd (.inl h) h2
      subst e1
      have e2 : n = n' := by
        rcases bl_three n n' with h | h | h
        · exact absurd (.inr ⟨rfl, h⟩) h1
        · exact h
        · exact absurd (.inr ⟨rfl, h⟩) h2
      subst e2
      unfold cmpN
      constructor
      · intro h
        refine .inr ⟨rfl, .inr ⟨rfl, ?_⟩⟩
        by_cases hb : bl w w' = true
        · exact hb
        · rw [if_neg hb] at h
          split at h <;> omega
      · intro h
        rcases h with h | ⟨_, h | ⟨_, h⟩⟩
        · unfold bl at h; rw [bl_irrefl] at h; cases h
        · unfold bl at h; rw [bl_irrefl] at h; cases h
        · rw [if_pos h]; omega
theorem ltOf_cmpP (x y : Pr) : ltOf cmpP x y = decide (cmpP x y < 0) := rfl
theorem swoP : SWO (ltOf cmpP) where
  irrefl x := by
    rw [ltOf_cmpP, decide_eq_false_iff_not, cmpP_lt]
    exact lt3_irrefl _ _ _
  trans x y z h k := by
    rw [ltOf_cmpP, decide_eq_true_eq, cmpP_lt] at *
    exact lt3_trans h k
  ntrans x y z h k := by
    rw [ltOf_cmpP, decide_eq_false_iff_not, cmpP_lt] at *
    intro hxz
    rcases lt3_three x.1.1 x.1.2 x.2 y.1.1 y.1.2 y.2 with h1 | ⟨h1, h2, h3⟩ | h1
    · exact h h1
    · refine k ?_
      unfold ltP at hxz ⊢
      rwa [← h1, ← h2, ← h3]
    · exact k (lt3_trans h1 hxz)
/-- Pairs in order, none twice. -/
def SortedP (l : List Pr) : Prop := l.Pairwise ltP
theorem sortedP_uniq : ∀ {a b : List Pr}, SortedP a → SortedP b → (∀ p, p ∈ a ↔ p ∈ b) → a = b
  | [], [], _, _, _ => rfl
  | [], y :: _, _, _, h => absurd ((h y).2 (by simp)) (by simp)
  | x :: _, [], _, _, h => absurd ((h x).1 (by simp)) (by simp)
  | x :: a, y :: b, ha, hb, h => by
    obtain ⟨ha1, ha2⟩ := List.pairwise_cons.1 ha
    obtain ⟨hb1, hb2⟩ := List.pairwise_cons.1 hb
    have hxy : x = y := by
      rcases List.mem_cons.1 ((h x).1 (by simp)) with e | e
      · exact e
      · rcases List.mem_cons.1 ((h y).2 (by simp)) with e' | e'
        · exact e'.symm
        · exact absurd (lt3_trans (ha1 y e') (hb1 x e)) (lt3_irrefl _ _ _)
    subst hxy
    rw [sortedP_uniq ha2 hb2 fun p => ?_]
    have nx : ∀ {l : List Pr}, (∀ q ∈ l, ltP x q) → x ∉ l := fun hl hm => lt3_irrefl _ _ _ (hl x hm)
    constructor
    · intro hp
      rcases List.mem_cons.1 ((h p).1 (by simp [hp])) with e | e
      · exact absurd (e ▸ hp) (nx ha1)
      · exact e
    · intro hp
      rcases List.mem_cons.1 ((h p).2 (by simp [hp])) with e | e
      · exact absurd (e ▸ hp) (nx hb1)
      · exact e
theorem SortedP.nodup {l : List Pr} (h : SortedP l) : l.Nodup := List.Pairwise.imp (fun {a b} (hab : ltP a b) (e : a = b) => by subst e; exact lt3_irrefl _ _ _ hab) h

/-! ### the program's order -/
theorem lessG_any (o n o' n' : ByteArray) (w : World) :
    Calls Tryz.prog 51 #[.agg #[.string o, .string n], .agg #[.string o', .string n']] w fun e w' => e = .returned (.bool (lessL o n o' n')) ∧ ∃ q os', w' = grow (w.drewN q) os' := by
  by_cases h : o.data.toList = o'.data.toList
  · have HE : Hid (lessL o n o' n' = Go.Op.bytesLess n.toList n'.toList) := hid (by unfold lessL; rw [if_pos h, Lib.toList_data, Lib.toList_data])
    have hb : (o.toList == o'.toList) = true := by rw [Lib.toList_data, Lib.toList_data, h]; simp
    clear h
    go_enter Tryz.func51, Tryz.ntmps51
    go_wp2
    go_ret
    exact ⟨by rw [HE.out]; rfl, 0, _, by rw [alloc_eq_grow, alloc_eq_grow, grow_grow]; rfl⟩
  · have HE : Hid (lessL o n o' n' = Go.Op.bytesLess o.toList o'.toList) := hid (by unfold lessL; rw [if_neg h, Lib.toList_data, Lib.toList_data])
    have hb : (o.toList == o'.toList) = false := by rw [Lib.toList_data, Lib.toList_data, beq_eq_false_iff_ne]; exact h
    clear h
    go_enter Tryz.func51, Tryz.ntmps51
    go_wp2
    go_ret
    exact ⟨by rw [HE.out]; rfl, 0, _, by rw [alloc_eq_grow, alloc_eq_grow, grow_grow]; rfl⟩
theorem nan_any (a : ByteArray) (w : World) : Calls Tryz.prog 87 #[.string a] w fun e w' => e = .returned (.bool false) ∧ w' = w := by
  go_enter Tryz.func87, Tryz.ntmps87
  go_wp2
  go_ret
  exact ⟨by simp, rfl⟩
theorem cmp_any (a b : ByteArray) (w : World) : Calls Tryz.prog 52 #[.string a, .string b] w fun e w' => e = .returned (.int .i64 (cmpN a b)) ∧ w' = w := by
  obtain ⟨x, hx⟩ : ∃ x, Op.bytesLess a.toList b.toList = x := ⟨_, rfl⟩
  obtain ⟨y, hy⟩ : ∃ y, (a.toList == b.toList) = y := ⟨_, rfl⟩
  have HX : Hid (bl a b = x) := hid (by unfold bl; rw [← hx, Lib.toList_data, Lib.toList_data])
  have key : x = false → bl b a = !y := fun h => by
    unfold bl
    rw [← hy, Lib.toList_data, Lib.toList_data]
    rw [Lib.toList_data, Lib.toList_data] at hx
    by_cases e : a.data.toList = b.data.toList
    · rw [e, bl_irrefl]; simp
    · have h2 : (a.data.toList == b.data.toList) = false := beq_eq_false_iff_ne.2 e
      rw [h2]
      cases h3 : Op.bytesLess b.data.toList a.data.toList with
      | true => rfl
      | false => exact absurd (bl_tri _ _ (hx.trans h) h3) e
  cases x with
  | true =>
    clear key
    go_enter Tryz.func52, Tryz.ntmps52
    go_wp2_with (go_at_call 87; refine (nan_any _ _).mono ?_; rintro e w' ⟨rfl, rfl⟩)
    go_ret
    exact ⟨by unfold cmpN; rw [if_pos HX.out]; rfl, rfl⟩
  | false =>
    cases y with
    | true =>
      have HY : Hid (bl b a = false) := hid (key rfl)
      clear key
      go_enter Tryz.func52, Tryz.ntmps52
      go_wp2_with (go_at_call 87; refine (nan_any _ _).mono ?_; rintro e w' ⟨rfl, rfl⟩)
      go_ret
      exact ⟨by unfold cmpN; rw [if_neg (by rw [HX.out]; simp), if_neg (by rw [HY.out]; simp)]; rfl, rfl⟩
    | false =>
      have HY : Hid (bl b a = true) := hid (key rfl)
      clear key
      go_enter Tryz.func52, Tryz.ntmps52
      go_wp2_with (go_at_call 87; refine (nan_any _ _).mono ?_; rintro e w' ⟨rfl, rfl⟩)
      go_ret
      exact ⟨by unfold cmpN; rw [if_neg (by rw [HX.out]; simp), if_pos HY.out]; rfl, rfl⟩
set_option maxHeartbeats 2000000 in
theorem order_any (x y : Pr) (W : World) : Calls Tryz.prog 27 #[.agg (encP.cells x).toArray, .agg (encP.cells y).toArray] W fun e w' => e = .returned (.int .i64 (cmpP x y)) ∧ ∃ q os', w' = grow (W.drewN q) os' := by
  obtain ⟨⟨o, n⟩, who⟩ := x
  obtain ⟨⟨o', n'⟩, who'⟩ := y
  obtain ⟨w1, hw1⟩ : ∃ w1, w1 = (W.alloc (.cells #[.string o, .string n, .string who] 51)).alloc (.cells #[.string o', .string n', .string who'] 51) := ⟨_, rfl⟩
  have HW1 : Hid (∃ q os', w1 = grow (W.drewN q) os') := hid ⟨0, _, by rw [hw1, alloc_eq_grow, alloc_eq_grow, grow_grow]; rfl⟩
  have q0 : w1.heap[W.heap.size]? = some (.cells #[.string o, .string n, .string who] 51 (0, 0)) := by
    rw [hw1, (MapKept.heap_alloc _ _).2 _ (by simp)]; exact heap_alloc_new W _
  have q1 : w1.heap[W.heap.size + 1]? = some (.cells #[.string o', .string n', .string who'] 51 (0, 0)) := by
    have := heap_alloc_new (W.alloc (.cells #[.string o, .string n, .string who] 51)) (.cells #[.string o', .string n', .string who'] 51)
    rw [World.size_alloc] at this
    rw [hw1]; exact this
  have hk : ∀ (w2 : World), (∃ q os', w2 = grow (w1.drewN q) os') → ∀ g, g < w1.heap.size → w2.heap[g]? = w1.heap[g]? := fun w2 ⟨q, os', e⟩ g hg => by
    rw [e]
    show (w1.heap ++ os')[g]? = _
    rw [Array.getElem?_append_left hg]
  have l0 : W.heap.size < w1.heap.size := (Array.getElem?_eq_some_iff.1 q0).1
  have l1 : W.heap.size + 1 < w1.heap.size := (Array.getElem?_eq_some_iff.1 q1).1
  have HK := hid (fun (w2 : World) (h2 : ∃ q os', w2 = grow (w1.drewN q) os') => (⟨by rw [cell_of_row w2 _ 0 _ _ (0, 0) ((hk w2 h2 _ l0).trans q0)]; rfl, by rw [cell_of_row w2 _ 1 _ _ (0, 0) ((hk w2 h2 _ l0).trans q0)]; rfl, by rw [cell_of_row w2 _ 2 _ _ (0, 0) ((hk w2 h2 _ l0).trans q0)]; rfl,
      by rw [cell_of_row w2 _ 0 _ _ (0, 0) ((hk w2 h2 _ l1).trans q1)]; rfl, by rw [cell_of_row w2 _ 1 _ _ (0, 0) ((hk w2 h2 _ l1).trans q1)]; rfl, by rw [cell_of_row w2 _ 2 _ _ (0, 0) ((hk w2 h2 _ l1).trans q1)]; rfl⟩ :
    w2.cell? ⟨W.heap.size, 0, none⟩ = some (.string o) ∧ w2.cell? ⟨W.heap.size, 1, none⟩ = some (.string n) ∧ w2.cell? ⟨W.heap.size, 2, none⟩ = some (.string who) ∧
    w2.cell? ⟨W.heap.size + 1, 0, none⟩ = some (.string o') ∧ w2.cell? ⟨W.heap.size + 1, 1, none⟩ = some (.string n') ∧ w2.cell? ⟨W.heap.size + 1, 2, none⟩ = some (.string who')))
  have htr : ∀ (a b c : World), (∃ q os', b = grow (a.drewN q) os') → (∃ q os', c = grow (b.drewN q) os') → ∃ q os', c = grow (a.drewN q) os' := by
    rintro a b c ⟨q, os, rfl⟩ ⟨q', os', rfl⟩
    exact ⟨q + q', os ++ os', by simp [grow, World.drewN, Nat.add_assoc]⟩
  have HTR := hid htr
  clear q0 q1 hk l0 l1 htr
  obtain ⟨b1, hb1⟩ : ∃ b, lessL o n o' n' = b := ⟨_, rfl⟩
  obtain ⟨b2, hb2⟩ : ∃ b, lessL o' n' o n = b := ⟨_, rfl⟩
  have HL1 := hid (fun w => by have := lessG_any o n o' n' w; rw [hb1] at this; exact this)
  have HL2 := hid (fun w => by have := lessG_any o' n' o n w; rw [hb2] at this; exact this)
  have HB1 := hid hb1
  have HB2 := hid hb2
  obtain ⟨k0, k1, k2, k3, k4, k5⟩ := HK.out w1 ⟨0, #[], by simp [grow, World.drewN]⟩
  clear hb1 hb2
  show Calls _ _ #[.agg #[.string o, .string n, .string who], .agg #[.string o', .string n', .string who']] _ _
  cases b1 with
  | true =>
    go_enter Tryz.func27, Tryz.ntmps27
    go_wp2_with (go_at_call 51; (try rw [← hw1]); (refine (HL1.out _).mono ?_); rintro er w2 ⟨rfl, h2⟩)
    go_ret
    exact ⟨by unfold cmpP; rw [if_pos HB1.out]; rfl, HTR.out _ _ _ HW1.out h2⟩
  | false =>
    cases b2 with
    | true =>
      go_enter Tryz.func27, Tryz.ntmps27
      go_wp2_with (first | (go_at_call 51; rw [← hw1]; (refine (HL1.out _).mono ?_); rintro er w2 ⟨rfl, h2⟩; (obtain ⟨k0, k1, k2, k3, k4, k5⟩ := HK.out w2 h2); have H2 := hid h2; clear h2) | (go_at_call 51; (refine (HL2.out _).mono ?_); rintro er w3 ⟨rfl, h3⟩))
      go_ret
      exact ⟨by unfold cmpP; rw [if_neg (by rw [HB1.out]; simp), if_pos HB2.out]; rfl, HTR.out _ _ _ HW1.out (HTR.out _ _ _ H2.out h3)⟩
    | false =>
      go_enter Tryz.func27, Tryz.ntmps27
      go_wp2_with (first | (go_at_call 51; rw [← hw1]; (refine (HL1.out _).mono ?_); rintro er w2 ⟨rfl, h2⟩; (obtain ⟨k0, k1, k2, k3, k4, k5⟩ := HK.out w2 h2); have H2 := hid h2; clear h2) | (go_at_call 51; (refine (HL2.out _).mono ?_); rintro er w3 ⟨rfl, h3⟩; have H3 := hid (HTR.out _ _ _ H2.out h3); (obtain ⟨k0, k1, k2, k3, k4, k5⟩ := HK.out w3 H3.out); clear h3) | (go_at_call 52; (refine (cmp_any _ _ _).mono ?_); rintro er w4 ⟨rfl, rfl⟩))
      go_ret
      exact ⟨by unfold cmpP; rw [if_neg (by rw [HB1.out]; simp), if_neg (by rw [HB2.out]; simp)]; rfl, HTR.out _ _ _ HW1.out H3.out⟩
end Go.Proofs.YtcligogmmjdobaaGreatDoor.Sh
