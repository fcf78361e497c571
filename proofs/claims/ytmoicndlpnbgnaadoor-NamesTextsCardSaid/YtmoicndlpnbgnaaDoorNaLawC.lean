/-
  The walk of NamesOrder.
-/
import Derived.Test.YtmoicndlpnbgnaaDoorNaLawB
namespace Go.Proofs.YtmoicndlpnbgnaaDoor.Sh
open Go Go.RowKit

theorem bl_irrefl (x : List UInt8) : Op.bytesLess x x = false := by
  induction x with
  | nil => rfl
  | cons a t ih => simp [Op.bytesLess, ih]
theorem bl_asymm : ∀ (x y : List UInt8), Op.bytesLess x y = true → Op.bytesLess y x = false
  | _, [], h => by simp [Op.bytesLess] at h
  | [], _ :: _, _ => rfl
  | a :: x, b :: y, h => by
    simp only [Op.bytesLess, Bool.or_eq_true, Bool.and_eq_true, decide_eq_true_eq, beq_iff_eq] at h
    simp only [Op.bytesLess, Bool.or_eq_false_iff, Bool.and_eq_false_iff, decide_eq_false_iff_not, beq_eq_false_iff_ne]
    rcases h with h | ⟨rfl, h⟩
    · exact ⟨UInt8.lt_asymm h, .inl (fun e => by rw [e] at h; exact UInt8.lt_irrefl _ h)⟩
    · exact ⟨UInt8.lt_irrefl _, .inr (bl_asymm x y h)⟩
theorem bl_tri : ∀ (x y : List UInt8), Op.bytesLess x y = false → Op.bytesLess y x = false → x = y
  | [], [], _, _ => rfl
  | [], _ :: _, h, _ => by simp [Op.bytesLess] at h
  | _ :: _, [], _, h => by simp [Op.bytesLess] at h
  | a :: x, b :: y, h, h2 => by
    simp only [Op.bytesLess, Bool.or_eq_false_iff, Bool.and_eq_false_iff, decide_eq_false_iff_not, beq_eq_false_iff_ne] at h h2
    have e : a = b := by
      rcases UInt8.lt_or_lt_of_ne (a := a) (b := b) |> fun f => (Classical.em (a = b)).imp id f with e | e | e
      · exact e
      · exact absurd e h.1
      · exact absurd e h2.1
    subst e
    have h3 : Op.bytesLess x y = false := h.2.resolve_left (fun k => k rfl)
    have h4 : Op.bytesLess y x = false := h2.2.resolve_left (fun k => k rfl)
    rw [bl_tri x y h3 h4]
theorem bl_trans : ∀ (x y z : List UInt8), Op.bytesLess x y = true → Op.bytesLess y z = true → Op.bytesLess x z = true
  | _, [], _, h, _ => by simp [Op.bytesLess] at h
  | _, _ :: _, [], _, h => by simp [Op.bytesLess] at h
  | [], _ :: _, _ :: _, _, _ => rfl
  | a :: x, b :: y, c :: z, h, h2 => by
    simp only [Op.bytesLess, Bool.or_eq_true, Bool.and_eq_true, decide_eq_true_eq, beq_iff_eq] at h h2 ⊢
    rcases h with h | ⟨rfl, h⟩
    · rcases h2 with h2 | ⟨rfl, _⟩
      · exact .inl (UInt8.lt_trans h h2)
      · exact .inl h
    · rcases h2 with h2 | ⟨rfl, h2⟩
      · exact .inl h2
      · exact .inr ⟨rfl, bl_trans x y z h h2⟩

theorem lessL_asymm {o n o' n' : ByteArray} (h : lessL o n o' n' = true) : lessL o' n' o n = false := by
  unfold lessL at *
  split at h
  · rename_i e; rw [if_pos e.symm]; exact bl_asymm _ _ h
  · rename_i e; rw [if_neg (fun k => e k.symm)]; exact bl_asymm _ _ h
theorem lessL_tri {o n o' n' : ByteArray} (h : lessL o n o' n' = false) (h2 : lessL o' n' o n = false) : o = o' ∧ n = n' := by
  unfold lessL at *
  split at h
  · rename_i e
    rw [if_pos e.symm] at h2
    exact ⟨ba_ext e, ba_ext (bl_tri _ _ h h2)⟩
  · rename_i e
    rw [if_neg (fun k => e k.symm)] at h2
    exact absurd (bl_tri _ _ h h2) e
theorem lessL_irrefl (o n : ByteArray) : lessL o n o n = false := by
  unfold lessL
  rw [if_pos rfl]
  exact bl_irrefl _
theorem lessL_trans {o n o' n' o2 n2 : ByteArray} (h : lessL o n o' n' = true) (h2 : lessL o' n' o2 n2 = true) : lessL o n o2 n2 = true := by
  unfold lessL at *
  split at h <;> rename_i e
  · split at h2 <;> rename_i e2
    · rw [if_pos (e.trans e2)]; exact bl_trans _ _ _ h h2
    · rw [if_neg (fun k => e2 (e.symm.trans k)), e]; exact h2
  · split at h2 <;> rename_i e2
    · rw [if_neg (fun k => e (k.trans e2.symm)), ← e2]; exact h
    · have h3 := bl_trans _ _ _ h h2
      rw [if_neg (fun k => by rw [k, bl_irrefl] at h3; cases h3)]
      exact h3

theorem ne_lists {o n o' n' : ByteArray} (h : ¬ (o = o' ∧ n = n')) : ¬ o.toList = o'.toList ∨ (o.toList = o'.toList ∧ ¬ n.toList = n'.toList) := by
  rw [Lib.toList_data, Lib.toList_data, Lib.toList_data, Lib.toList_data]
  by_cases e : o.data.toList = o'.data.toList
  · exact .inr ⟨e, fun k => h ⟨ba_ext e, ba_ext k⟩⟩
  · exact .inl e

set_option maxHeartbeats 4000000 in
theorem namesOrder_walk (o n o' n' o2 n2 : ByteArray) (w : World) :
    Calls Tryd.prog 8 #[.agg #[.string o, .string n], .agg #[.string o', .string n'], .agg #[.string o2, .string n2]] w fun e w' => e = .returned (.bool true) ∧ Below w.heap.size w w' := by
  obtain ⟨w0, hw0⟩ : ∃ w0, w0 = ((w.alloc (.cells #[.string o, .string n] 23)).alloc (.cells #[.string o', .string n'] 23)).alloc (.cells #[.string o2, .string n2] 23) := ⟨_, rfl⟩
  have hsz1 : (w.alloc (.cells #[.string o, .string n] 23)).heap.size = w.heap.size + 1 := by rw [World.size_alloc]
  have hsz2 : ((w.alloc (.cells #[.string o, .string n] 23)).alloc (.cells #[.string o', .string n'] 23)).heap.size = w.heap.size + 1 + 1 := by rw [World.size_alloc, hsz1]
  have ra : RoleAt w0 w.heap.size o n := by rw [hw0]; exact ((RoleAt.new w o n).kept (below_box _ _ _)).kept (below_box _ _ _)
  have rb : RoleAt w0 (w.heap.size + 1) o' n' := by
    rw [hw0]; have := RoleAt.new (w.alloc (.cells #[.string o, .string n] 23)) o' n'; rw [hsz1] at this; exact this.kept (below_box _ _ _)
  have rc : RoleAt w0 (w.heap.size + 1 + 1) o2 n2 := by
    rw [hw0]; have := RoleAt.new ((w.alloc (.cells #[.string o, .string n] 23)).alloc (.cells #[.string o', .string n'] 23)) o2 n2; rw [hsz2] at this; exact this
  have b0 : Below w.heap.size w w0 := by
    rw [hw0]
    exact ((below_box w o n).trans ((below_box _ o' n').mono (by omega))).trans ((below_box _ o2 n2).mono (by omega))
  clear hsz1 hsz2
  have L1 := hid (fun w => less_any o n o' n' w)
  have L2 := hid (fun w => less_any o' n' o n w)
  have L3 := hid (fun w => less_any o' n' o2 n2 w)
  have L4 := hid (fun w => less_any o n o2 n2 w)
  obtain ⟨p, hp⟩ : ∃ p, lessL o n o' n' = p := ⟨_, rfl⟩
  obtain ⟨q, hq⟩ : ∃ q, lessL o' n' o n = q := ⟨_, rfl⟩
  obtain ⟨r, hr⟩ : ∃ r, lessL o' n' o2 n2 = r := ⟨_, rfl⟩
  obtain ⟨v, hv⟩ : ∃ v, lessL o n o2 n2 = v := ⟨_, rfl⟩
  rw [hp] at L1
  rw [hq] at L2
  rw [hr] at L3
  rw [hv] at L4
  have H1 : Hid (p = true → q = false) := hid (fun h => by rw [← hq]; exact lessL_asymm (hp.trans h))
  have H2 : Hid (p = false → q = false → o = o' ∧ n = n') := hid (fun h h2 => lessL_tri (hp.trans h) (hq.trans h2))
  have H3 : Hid (o = o' ∧ n = n' → p = false ∧ q = false) := hid (by
    rintro ⟨rfl, rfl⟩
    exact ⟨hp.symm.trans (lessL_irrefl _ _), hq.symm.trans (lessL_irrefl _ _)⟩)
  have H4 : Hid (p = true → r = true → v = true) := hid (fun h h2 => by rw [← hv]; exact lessL_trans (hp.trans h) (hr.trans h2))
  clear hp hq hr hv
  go_enter Tryd.func8, Tryd.ntmps8
  go_wp2_with fail
  rw [← hw0]
  clear hw0
  refine (L1.out w0).mono ?_
  rintro er w1 ⟨rfl, bb⟩
  have ra1 := ra.kept bb
  have rb1 := rb.kept bb
  have rc1 := rc.kept bb
  have b1 := b0.trans (bb.mono b0.size)
  clear ra rb rc b0 bb
  have a0 := ra1.c0
  have a1 := ra1.c1
  have d0 := rb1.c0
  have d1 := rb1.c1
  go_wp2_with fail
  refine (L2.out w1).mono ?_
  rintro er w2 ⟨rfl, bb⟩
  have ra2 := ra1.kept bb
  have rb2 := rb1.kept bb
  have rc2 := rc1.kept bb
  have b2 := b1.trans (bb.mono b1.size)
  clear ra1 rb1 rc1 b1 bb a0 a1 d0 d1
  have a0 := ra2.c0
  have a1 := ra2.c1
  have d0 := rb2.c0
  have d1 := rb2.c1
  have c0 := rc2.c0
  have c1 := rc2.c1
  cases p with
  | true =>
    obtain rfl := H1.out rfl
    have HV : Hid (r = true → v = true) := hid (H4.out rfl)
    have hne := ne_lists (o := o) (n := n) (o' := o') (n' := n') (fun h => by have := (H3.out h).1; cases this)
    clear H1 H2 H3 H4
    rcases hne with ho | ⟨ho, hn⟩
    all_goals
      go_wp2_with fail
      refine (L3.out w2).mono ?_
      rintro er w3 ⟨rfl, bb⟩
      have ra3 := ra2.kept bb
      have rc3 := rc2.kept bb
      have b3 := b2.trans (bb.mono b2.size)
      clear ra2 rb2 rc2 b2 bb a0 a1 d0 d1 c0 c1
      cases r with
      | false =>
        go_wp2_with fail
        refine (lives_any w3).mono ?_
        rintro er w4 ⟨rfl, bb⟩
        have b4 := b3.trans (bb.mono b3.size)
        go_wp2
        go_ret
        exact ⟨rfl, b4⟩
      | true =>
        have hv := HV.out rfl
        subst hv
        have a0 := ra3.c0
        have a1 := ra3.c1
        have c0 := rc3.c0
        have c1 := rc3.c1
        go_wp2_with fail
        refine (L4.out w3).mono ?_
        rintro er w4 ⟨rfl, bb⟩
        have b4 := b3.trans (bb.mono b3.size)
        clear b3 bb a0 a1 c0 c1
        go_wp2_with fail
        refine (lives_any w4).mono ?_
        rintro er w5 ⟨rfl, bb⟩
        have b5 := b4.trans (bb.mono b4.size)
        go_wp2
        go_ret
        exact ⟨rfl, b5⟩
  | false =>
    cases q with
    | true =>
      have hne := ne_lists (o := o) (n := n) (o' := o') (n' := n') (fun h => by have := (H3.out h).2; cases this)
      clear H1 H2 H3 H4
      rcases hne with ho | ⟨ho, hn⟩
      all_goals
        go_wp2_with fail
        refine (lives_any w2).mono ?_
        rintro er w3 ⟨rfl, bb⟩
        have b3 := b2.trans (bb.mono b2.size)
        go_wp2
        go_ret
        exact ⟨rfl, b3⟩
    | false =>
      obtain ⟨rfl, rfl⟩ := H2.out rfl rfl
      clear H1 H2 H3 H4
      go_wp2_with fail
      refine (lives_any w2).mono ?_
      rintro er w3 ⟨rfl, bb⟩
      have b3 := b2.trans (bb.mono b2.size)
      go_wp2
      go_ret
      exact ⟨rfl, b3⟩
end Go.Proofs.YtmoicndlpnbgnaaDoor.Sh
