import Derived.Test.YtkggagnaiiemlaaDoorCrSt0
import Derived.Test.YtkggagnaiiemlaaDoorCrSt1
/-
  Merging in place by rotation, on lists of credentials: what is sorted behind the rotation, and that both halves sorted are the whole sorted. Plain lemmas.
-/
namespace Go.Proofs.YtkggagnaiiemlaaDoor.Sh
open Go Go.RowKit

theorem le_bef {a b c : Crd} (h1 : bef b a = false) (h2 : bef b c = true) : bef a c = true := by
  unfold bef at *
  simp only [decide_eq_true_eq, decide_eq_false_iff_not] at *
  omega
/-- What lies from s to m and from m to e exchanged. -/
def rot (l : List Crd) (s m e : Nat) : List Crd := l.take s ++ (l.take e).drop m ++ (l.take m).drop s ++ l.drop e
theorem rot_cut {l : List Crd} {s m e : Nat} (h1 : s ≤ m) (h2 : m ≤ e) : l = l.take s ++ (l.take m).drop s ++ (l.take e).drop m ++ l.drop e := by
  have g1 : l.take s ++ (l.take m).drop s = l.take m := by
    conv => rhs; rw [← List.take_append_drop s (l.take m)]
    rw [List.take_take, Nat.min_eq_left h1]
  have g2 : l.take m ++ (l.take e).drop m = l.take e := by
    conv => rhs; rw [← List.take_append_drop m (l.take e)]
    rw [List.take_take, Nat.min_eq_left h2]
  rw [g1, g2, List.take_append_drop]
theorem rot_lens {l : List Crd} {s m e : Nat} (h1 : s ≤ m) (h2 : m ≤ e) (h3 : e ≤ l.length) : (l.take s).length = s ∧ ((l.take m).drop s).length = m - s ∧ ((l.take e).drop m).length = e - m := by
  simp only [List.length_take, List.length_drop]
  omega
theorem rot_len {l : List Crd} {s m e : Nat} (h1 : s ≤ m) (h2 : m ≤ e) (h3 : e ≤ l.length) : (rot l s m e).length = l.length := by
  unfold rot
  simp only [List.length_append, List.length_take, List.length_drop]
  omega
theorem rot_get {l : List Crd} {s m e d : Nat} (h1 : s ≤ m) (h2 : m ≤ e) (h3 : e ≤ l.length) (hd : s + (e - m) = d) (k : Nat) :
    (rot l s m e)[k]? = if k < s then l[k]? else if k < d then l[k + (m - s)]? else if k < e then l[k - (e - m)]? else l[k]? := by
  obtain ⟨g1, g2, g3⟩ := rot_lens h1 h2 h3
  unfold rot
  simp only [List.append_assoc]
  by_cases c1 : k < s
  · rw [if_pos c1, List.getElem?_append_left (by omega), List.getElem?_take, if_pos c1]
  · rw [if_neg c1, List.getElem?_append_right (by omega), g1]
    by_cases c2 : k < d
    · rw [if_pos c2, List.getElem?_append_left (by omega), List.getElem?_drop, List.getElem?_take, if_pos (by omega)]
      congr 1; omega
    · rw [if_neg c2, List.getElem?_append_right (by omega), g3]
      by_cases c3 : k < e
      · rw [if_pos c3, List.getElem?_append_left (by omega), List.getElem?_drop, List.getElem?_take, if_pos (by omega)]
        congr 1; omega
      · rw [if_neg c3, List.getElem?_append_right (by omega), g2, List.getElem?_drop]
        congr 1; omega
theorem rot_none {l : List Crd} {s m e : Nat} (h1 : s ≤ m) (h2 : m ≤ e) (h : s = m ∨ e = m) : rot l s m e = l := by
  conv => rhs; rw [rot_cut (l := l) h1 h2]
  unfold rot
  rcases h with rfl | rfl
  · rw [show (l.take s).drop s = [] from List.drop_of_length_le (by rw [List.length_take]; omega)]
    simp
  · rw [show (l.take e).drop e = [] from List.drop_of_length_le (by rw [List.length_take]; omega)]
    simp
/-- What the search has found. -/
structure Found (l : List Crd) (a m b s e : Nat) : Prop where
  ge : s = a ∨ e = b ∨ ∃ u v, l[s - 1]? = some u ∧ l[e]? = some v ∧ bef v u = false
  lt : s = m ∨ e = m ∨ ∃ u v, l[s]? = some u ∧ l[e - 1]? = some v ∧ bef v u = true
/-- Each of the second part stands ahead of each of the first. -/
theorem found_lt {l : List Crd} {a m b s e : Nat} (hf : Found l a m b s e) (h1 : Srt a m l) (h2 : Srt m b l) (k1 : a ≤ s) (k4 : e ≤ b) : ∀ i j x y, s ≤ i → i < m → m ≤ j → j < e → l[i]? = some x → l[j]? = some y → bef y x = true := by
  intro i j x y g1 g2 g3 g4 hx hy
  rcases hf.lt with h | h | ⟨u, v, hu, hv, hb⟩
  · omega
  · omega
  · have q1 : bef y u = true := by
      rcases Nat.lt_or_ge j (e - 1) with g | g
      · exact le_bef (h2 j (e - 1) y v g3 g (by omega) hy hv) hb
      · obtain rfl : j = e - 1 := by omega
        rw [hv] at hy; injection hy with hy; subst hy; exact hb
    rcases Nat.lt_or_ge s i with g | g
    · exact bef_of_not q1 (h1 s i u x k1 g g2 hu hx)
    · obtain rfl : i = s := by omega
      rw [hu] at hx; injection hx with hx; subst hx; exact q1
theorem found_ge {l : List Crd} {a m b s e : Nat} (hf : Found l a m b s e) (h1 : Srt a m l) (h2 : Srt m b l) (k2 : s ≤ m) (k3 : m ≤ e) : ∀ i j x y, a ≤ i → i < s → e ≤ j → j < b → l[i]? = some x → l[j]? = some y → bef y x = false := by
  intro i j x y g1 g2 g3 g4 hx hy
  rcases hf.ge with h | h | ⟨u, v, hu, hv, hb⟩
  · omega
  · omega
  · have q1 : bef y u = false := by
      rcases Nat.lt_or_ge e j with g | g
      · exact not_bef_trans (h2 e j v y k3 g g4 hv hy) hb
      · obtain rfl : j = e := by omega
        rw [hv] at hy; injection hy with hy; subst hy; exact hb
    rcases Nat.lt_or_ge i (s - 1) with g | g
    · exact not_bef_trans q1 (h1 i (s - 1) x u g1 g (by omega) hx hu)
    · obtain rfl : i = s - 1 := by omega
      rw [hu] at hx; injection hx with hx; subst hx; exact q1
theorem rot_mix {l : List Crd} {a m b s e : Nat} (hf : Found l a m b s e) (h1 : Srt a m l) (h2 : Srt m b l) (k1 : a ≤ s) (k2 : s ≤ m) (k3 : m ≤ e) (k4 : e ≤ b) (k5 : b ≤ l.length) : Mix a b l (rot l s m e) := by
  obtain ⟨g1, g2, g3⟩ := rot_lens (l := l) k2 k3 (by omega)
  have hm := mix_swap (l.take s) ((l.take m).drop s) ((l.take e).drop m) (l.drop e) (fun x hx y hy => by
    obtain ⟨i, hi⟩ := List.getElem?_of_mem hx
    obtain ⟨j, hj⟩ := List.getElem?_of_mem hy
    have hil := (List.getElem?_eq_some_iff.1 hi).1
    have hjl := (List.getElem?_eq_some_iff.1 hj).1
    rw [g2] at hil
    rw [g3] at hjl
    rw [List.getElem?_drop, List.getElem?_take, if_pos (by omega)] at hi hj
    exact found_lt hf h1 h2 k1 k4 (s + i) (m + j) x y (by omega) (by omega) (by omega) (by omega) hi hj)
  rw [← rot_cut k2 k3, g1, g2, g3] at hm
  exact hm.wide k1 (by omega)
theorem rot_srt {l : List Crd} {a m b s e d : Nat} (h1 : Srt a m l) (h2 : Srt m b l) (k1 : a ≤ s) (k2 : s ≤ m) (k3 : m ≤ e) (k4 : e ≤ b) (k5 : b ≤ l.length) (hd : s + (e - m) = d) : Srt a s (rot l s m e) ∧ Srt s d (rot l s m e) ∧ Srt d e (rot l s m e) ∧ Srt e b (rot l s m e) := by
  have hg := rot_get (l := l) k2 k3 (by omega) hd
  refine ⟨?_, ?_, ?_, ?_⟩ <;> intro i j x y g1 g2 g3 hx hy <;> rw [hg] at hx hy
  · rw [if_pos (by omega)] at hx hy
    exact h1 i j x y g1 g2 (by omega) hx hy
  · rw [if_neg (by omega), if_pos (by omega)] at hx hy
    exact h2 _ _ x y (by omega) (by omega) (by omega) hx hy
  · rw [if_neg (by omega), if_neg (by omega), if_pos (by omega)] at hx hy
    exact h1 _ _ x y (by omega) (by omega) (by omega) hx hy
  · rw [if_neg (by omega), if_neg (by omega), if_neg (by omega)] at hx hy
    exact h2 i j x y (by omega) g2 g3 hx hy
theorem rot_cross {l : List Crd} {a m b s e d : Nat} (hf : Found l a m b s e) (h1 : Srt a m l) (h2 : Srt m b l) (k1 : a ≤ s) (k2 : s ≤ m) (k3 : m ≤ e) (k4 : e ≤ b) (k5 : b ≤ l.length) (hd : s + (e - m) = d) : ∀ i j x y, a ≤ i → i < d → d ≤ j → j < b → (rot l s m e)[i]? = some x → (rot l s m e)[j]? = some y → bef y x = false := by
  intro i j x y g1 g2 g3 g4 hx hy
  have hg := rot_get (l := l) k2 k3 (by omega) hd
  rw [hg] at hx hy
  rw [if_neg (by omega), if_neg (by omega)] at hy
  by_cases c1 : i < s
  · rw [if_pos c1] at hx
    by_cases c2 : j < e
    · rw [if_pos c2] at hy
      exact h1 i _ x y g1 (by omega) (by omega) hx hy
    · rw [if_neg c2] at hy
      exact found_ge hf h1 h2 k2 k3 i j x y g1 c1 (by omega) g4 hx hy
  · rw [if_neg c1, if_pos g2] at hx
    by_cases c2 : j < e
    · rw [if_pos c2] at hy
      exact bef_asymm (found_lt hf h1 h2 k1 k4 _ _ y x (by omega) (by omega) (by omega) (by omega) hy hx)
    · rw [if_neg c2] at hy
      exact h2 _ j x y (by omega) (by omega) g4 hx hy
/-- Both halves sorted: the whole is. -/
theorem merge_end {l l1 l2 l3 : List Crd} {a d b : Nat} (h0 : Mix a b l l1) (hc : ∀ i j x y, a ≤ i → i < d → d ≤ j → j < b → l1[i]? = some x → l1[j]? = some y → bef y x = false)
    (m2 : Mix a d l1 l2) (s2 : Srt a d l2) (m3 : Mix d b l2 l3) (s3 : Srt d b l3) (ha : a ≤ d) (hb : d ≤ b) : Mix a b l l3 ∧ Srt a b l3 := by
  refine ⟨(h0.trans (m2.wide (Nat.le_refl _) hb)).trans (m3.wide ha (Nat.le_refl _)), fun i j x y g1 g2 g3 hx hy => ?_⟩
  rcases Nat.lt_or_ge j d with hj | hj
  · rw [m3.out i (.inl (by omega))] at hx
    rw [m3.out j (.inl hj)] at hy
    exact s2 i j x y g1 g2 hj hx hy
  · rcases Nat.lt_or_ge i d with hi | hi
    · rw [m3.out i (.inl hi)] at hx
      obtain ⟨i', q1, q2, q3⟩ := m2.inn i x g1 hi hx
      obtain ⟨j', r1, r2, r3⟩ := m3.inn j y hj g3 hy
      rw [m2.out j' (.inr r1)] at r3
      exact hc i' j' x y q1 q2 r1 r2 q3 r3
    · exact s3 i j x y hi g2 g3 hx hy
end Go.Proofs.YtkggagnaiiemlaaDoor.Sh
/-
  slices.symMergeCmpFunc at credentials: one of the two parts a single credential.
-/
namespace Go.Proofs.YtkggagnaiiemlaaDoor.Sh
open Go Go.RowKit
set_option linter.unusedSimpArgs false
set_option maxRecDepth 100000

set_option maxHeartbeats 16000000 in
theorem sym_one {w0 w : World} {B g C : Nat} {tl : List Value} (l : List Crd) (N a m b : Nat) (hN : l.length = N) (hNm : N ≤ 1000000000) (hm : m = a + 1) (hmb : m < b) (hbN : b ≤ N) (h : Rw w0 w B g tl l) (hs : Srt m b l) :
    Calls Tryd.prog 82 #[.slice (some ⟨g, 0, none⟩) N C, .int .i64 a, .int .i64 m, .int .i64 b, .func (.func 55) #[] #[]] w fun e w' => e = .returned (.tuple #[]) ∧ ∃ l', Rw w0 w' B g tl l' ∧ Mix a b l l' ∧ Srt a b l' := by
  obtain ⟨x, hx⟩ : ∃ x, l[a]? = some x := ⟨_, List.getElem?_eq_getElem (by omega)⟩
  have e1 : (m : Int) - (a : Int) = 1 := by omega
  have HX := hid hx
  have HN := hid hN
  have HR := hid h
  have HS := hid hs
  have HM := hid hm
  have haN : (a : Int) < (N : Int) := by omega
  have wa := wrap_in (a : Int) (by omega)
  have aa := addr_row g (a * 9)
  clear hN h hs hm hx
  go_enter Tryd.func82, Tryd.ntmps82
  go_wp2
  go_loopw [10, 11] (fun vi vj wr => ∃ (i j : Nat), vi = .int .i64 i ∧ vj = .int .i64 j ∧ m ≤ i ∧ i ≤ j ∧ j ≤ b ∧ Rw w0 wr B g tl l ∧ Hid (i = m ∨ ∃ u, l[i - 1]? = some u ∧ bef u x = true) ∧ Hid (j = b ∨ ∃ u, l[j]? = some u ∧ bef u x = false)) (fun vi vj _ => (intOf vj).toNat - (intOf vi).toNat)
  case atStart => exact ⟨m, b, rfl, rfl, Nat.le_refl _, by omega, Nat.le_refl _, HR.out, hid (.inl rfl), hid (.inl rfl)⟩
  case round =>
    obtain ⟨i, j, rfl, rfl, hi, hij, hj, R, HI, HJ⟩ := hrel
    by_cases hlt : i < j
    · have hlt' : (i : Int) < (j : Int) := by omega
      have hb1 : (j : Int) ≤ 1000000000 := by omega
      have hb2 : (i : Int) ≤ 1000000000 := by omega
      obtain ⟨q, hq⟩ : ∃ q, (i + j) / 2 = q := ⟨_, rfl⟩
      have hq' : ((i : Int) + (j : Int)) / 2 = (q : Int) := by omega
      have hqi : i ≤ q := by omega
      have hqj : q < j := by omega
      have hqN : (q : Int) < (N : Int) := by omega
      have wq := wrap_in (q : Int) (by omega)
      have aq := addr_row g (q * 9)
      obtain ⟨y, hy⟩ : ∃ y, l[q]? = some y := ⟨_, List.getElem?_eq_getElem (by rw [HN.out]; omega)⟩
      obtain ⟨c, hc⟩ : ∃ c, cmpI y x = c := ⟨_, rfl⟩
      obtain ⟨bb, hbb⟩ : ∃ b, bef y x = b := ⟨_, rfl⟩
      have hcb : decide (c < 0) = bb := by rw [← hc, cmpI_neg, hbb]
      have HCMP : Hid (∀ W, Calls Tryd.prog 55 #[.agg y.cells.toArray, .agg x.cells.toArray] W fun e w' => e = .returned (.int .i64 c) ∧ Below W.heap.size W w') := hid (fun W => hc ▸ cmpC_any y x W)
      have HB := hid hbb
      have HY := hid hy
      have HR1 := hid R.drew
      clear hc hbb hy hq R
      go_wp2_with fail
      refine wp_region_held_drew (S := (fun W => W.rangeAt g (q * 9) y.cells ∧ W.rangeAt g (a * 9) x.cells)) (by kernel_rfl) (⟨HR1.out.row.range HY.out, HR1.out.row.range HX.out⟩) (fun hHeld => ?_)
      refine wpAnyH_take (i := 0) (oi := ({ dst := some 40, op := Op.move (Operand.tmp 4), type := 74, pos := "zsortanyfunc.go:390", after := #[], guard := none } : Oper)) (v := (.func (.func 55) #[] #[])) rfl (by kernel_rfl) (by kernel_rfl) (by kernel_rfl) (fun _ _ _ h => h) (Or.inl ⟨by rfl, by intro w _; go_simp⟩) hHeld ?_
      simp only [Act.put, List.setIfInBounds_toArray, List.set_cons_zero, List.set_cons_succ]
      refine wpAnyH_take (i := 1) (oi := ({ dst := some 41, op := Op.move (Operand.tmp 0), type := 51, pos := "zsortanyfunc.go:390", after := #[], guard := none } : Oper)) (v := (.slice (some ⟨g, 0, none⟩) N C)) rfl (by kernel_rfl) (by kernel_rfl) (by kernel_rfl) (fun _ _ _ h => h) (Or.inl ⟨by rfl, by intro w _; go_simp⟩) hHeld ?_
      simp only [Act.put, List.setIfInBounds_toArray, List.set_cons_zero, List.set_cons_succ]
      refine wpAnyH_take (i := 2) (oi := ({ dst := some 42, op := Op.move (Operand.tmp 12), type := 3, pos := "zsortanyfunc.go:390", after := #[], guard := none } : Oper)) (v := (.int .i64 (q : Int))) rfl (by kernel_rfl) (by kernel_rfl) (by kernel_rfl) (fun _ _ _ h => h) (Or.inl ⟨by rfl, by intro w _; go_simp⟩) hHeld ?_
      simp only [Act.put, List.setIfInBounds_toArray, List.set_cons_zero, List.set_cons_succ]
      refine wpAnyH_take (i := 3) (oi := ({ dst := some 43, op := Op.indexAddr 51 (Operand.tmp 41) (Operand.tmp 42), type := 0, pos := "zsortanyfunc.go:390", after := #[{ on := 1, ground := Ground.data }, { on := 2, ground := Ground.data }], guard := none } : Oper)) (v := (.pointer (some ⟨g, q * 9, none⟩))) rfl (by kernel_rfl) (by kernel_rfl) (by kernel_rfl) (fun _ _ _ h => h) (Or.inl ⟨by rfl, by intro w _; go_simp⟩) hHeld ?_
      simp only [Act.put, List.setIfInBounds_toArray, List.set_cons_zero, List.set_cons_succ]
      refine wpAnyH_take (i := 4) (oi := ({ dst := some 44, op := Op.load 27 (Operand.tmp 43), type := 27, pos := "zsortanyfunc.go:390", after := #[{ on := 3, ground := Ground.data }], guard := none } : Oper)) (v := .agg y.cells.toArray) rfl (by kernel_rfl) (by kernel_rfl) (by kernel_rfl) (fun _ _ _ h => h) (yieldsIf_load_mid (by rfl) 27 (.tmp 43) rfl g (q * 9) rfl y.cells _ (fun _ h => h.1) Tryd.underlying27 rfl (info_credL _)) hHeld ?_
      simp only [Act.put, List.setIfInBounds_toArray, List.set_cons_zero, List.set_cons_succ]
      refine wpAnyH_take (i := 5) (oi := ({ dst := some 45, op := Op.move (Operand.tmp 0), type := 51, pos := "zsortanyfunc.go:390", after := #[], guard := none } : Oper)) (v := (.slice (some ⟨g, 0, none⟩) N C)) rfl (by kernel_rfl) (by kernel_rfl) (by kernel_rfl) (fun _ _ _ h => h) (Or.inl ⟨by rfl, by intro w _; go_simp⟩) hHeld ?_
      simp only [Act.put, List.setIfInBounds_toArray, List.set_cons_zero, List.set_cons_succ]
      refine wpAnyH_take (i := 6) (oi := ({ dst := some 46, op := Op.move (Operand.tmp 1), type := 3, pos := "zsortanyfunc.go:390", after := #[], guard := none } : Oper)) (v := (.int .i64 (a : Int))) rfl (by kernel_rfl) (by kernel_rfl) (by kernel_rfl) (fun _ _ _ h => h) (Or.inl ⟨by rfl, by intro w _; go_simp⟩) hHeld ?_
      simp only [Act.put, List.setIfInBounds_toArray, List.set_cons_zero, List.set_cons_succ]
      refine wpAnyH_take (i := 7) (oi := ({ dst := some 47, op := Op.indexAddr 51 (Operand.tmp 45) (Operand.tmp 46), type := 0, pos := "zsortanyfunc.go:390", after := #[{ on := 5, ground := Ground.data }, { on := 6, ground := Ground.data }], guard := none } : Oper)) (v := (.pointer (some ⟨g, a * 9, none⟩))) rfl (by kernel_rfl) (by kernel_rfl) (by kernel_rfl) (fun _ _ _ h => h) (Or.inl ⟨by rfl, by intro w _; go_simp⟩) hHeld ?_
      simp only [Act.put, List.setIfInBounds_toArray, List.set_cons_zero, List.set_cons_succ]
      refine wpAnyH_take (i := 8) (oi := ({ dst := some 48, op := Op.load 27 (Operand.tmp 47), type := 27, pos := "zsortanyfunc.go:390", after := #[{ on := 7, ground := Ground.data }], guard := none } : Oper)) (v := .agg x.cells.toArray) rfl (by kernel_rfl) (by kernel_rfl) (by kernel_rfl) (fun _ _ _ h => h) (yieldsIf_load_mid (by rfl) 27 (.tmp 47) rfl g (a * 9) rfl x.cells _ (fun _ h => h.2) Tryd.underlying27 rfl (info_credL _)) hHeld ?_
      simp only [Act.put, List.setIfInBounds_toArray, List.set_cons_zero, List.set_cons_succ]
      refine wpAnyH_ready (rs := [9]) (by kernel_rfl) (by simp) ?_
      refine AllReadyH.cons (o := ({ dst := some 49, op := Op.call { callee := Callee.value (Operand.tmp 40), args := #[Operand.tmp 44, Operand.tmp 48], argTypes := #[27, 27] }, type := 3, pos := "zsortanyfunc.go:390", after := #[{ on := 0, ground := Ground.data }, { on := 4, ground := Ground.data }, { on := 8, ground := Ground.data }], guard := none } : Oper)) rfl (fun K hK => ?_) AllReadyH.nil
      rw [if_pos (by rfl)]
      go_simp
      refine (HCMP.out _).mono ?_
      rintro er w2 ⟨rfl, bl⟩
      have HR2 := hid (HR1.out.kept bl)
      clear bl
      refine hK.out _ _ (⟨HR2.out.row.range HY.out, HR2.out.row.range HX.out⟩) (fun hHeld2 => ?_)
      clear hK K hHeld
      try simp only [Act.put, List.setIfInBounds_toArray, List.set_cons_zero, List.set_cons_succ]
      refine wpAnyH_take (i := 10) (oi := ({ dst := some 50, op := Op.binOp BinOp.lss 3 (Operand.tmp 49) (Operand.const (Value.int IntKind.i64 0)) 3, type := 4, pos := "zsortanyfunc.go:390", after := #[{ on := 9, ground := Ground.data }], guard := none } : Oper)) (v := (.bool bb)) rfl (by kernel_rfl) (by kernel_rfl) (by kernel_rfl) (fun _ _ _ h => h) (Or.inl ⟨by rfl, by intro w _; go_simp⟩) hHeld2 ?_
      simp only [Act.put, List.setIfInBounds_toArray, List.set_cons_zero, List.set_cons_succ]
      refine wpAnyH_done (by kernel_rfl) ?_ _
      clear hHeld2
      cases bb with
      | true =>
        have HI2 : Hid (q + 1 = m ∨ ∃ u, l[q + 1 - 1]? = some u ∧ bef u x = true) := hid (.inr ⟨y, HY.out, HB.out⟩)
        go_wp2
        go_roundw
        case rel => exact ⟨q + 1, j, by go_num, rfl, by omega, by omega, hj, HR2.out, HI2, HJ⟩
        case measure => simp [intOf]; omega
      | false =>
        have HJ2 : Hid (q = b ∨ ∃ u, l[q]? = some u ∧ bef u x = false) := hid (.inr ⟨y, HY.out, HB.out⟩)
        go_wp2
        go_roundw
        case rel => exact ⟨i, q, rfl, rfl, hi, hqi, by omega, HR2.out, HI, HJ2⟩
        case measure => simp [intOf]; omega
    · obtain rfl : i = j := by omega
      obtain ⟨i1, hi1⟩ : ∃ i1, i1 + 1 = i := ⟨i - 1, by omega⟩
      have f1 : (i : Int) - 1 = (i1 : Int) := by omega
      have hai : a ≤ i1 := by have := HM.out; omega
      have HLOW : Hid (∀ t y, a < t → t ≤ i1 → l[t]? = some y → bef y x = true) := hid (fun t y g1 g2 gy => by
        rcases HI.out with h | ⟨u, hu, hb⟩
        · have := HM.out; omega
        · rw [← hi1, Nat.add_sub_cancel] at hu
          rcases Nat.lt_or_ge t i1 with g | g
          · exact le_bef (HS.out t i1 y u (by have := HM.out; omega) g (by omega) gy hu) hb
          · obtain rfl : t = i1 := by omega
            rw [hu] at gy; injection gy with gy; subst gy; exact hb)
      have HHIGH : Hid (∀ t y, i1 < t → t < b → l[t]? = some y → bef y x = false) := hid (fun t y g1 g2 gy => by
        rcases HJ.out with h | ⟨u, hu, hb⟩
        · omega
        · rcases Nat.lt_or_ge i t with g | g
          · exact not_bef_trans (HS.out i t u y hi g g2 hu gy) hb
          · obtain rfl : t = i := by omega
            rw [hu] at gy; injection gy with gy; subst gy; exact hb)
      have HI1 := hid hi1
      have hi1N : i1 + 1 ≤ N := by omega
      have hi1b : i1 < b := by omega
      have HRo := hid R
      obtain ⟨wo, hwo⟩ : ∃ z, z = wr := ⟨_, rfl⟩
      subst hwo
      clear hi1 R HI HJ hij hlt
      go_wp2
      go_loopw [13] (fun v wi => ∃ (k : Nat) (c2 : List Crd), v = .int .i64 k ∧ a ≤ k ∧ k ≤ i1 ∧ Rw w0 wi B g tl c2 ∧ Hid (Up l c2 a k x) ∧ Hid (Mix a b l c2)) (fun v _ => i1 - (intOf v).toNat)
      case atStart => exact ⟨a, l, rfl, Nat.le_refl _, hai, HRo.out, hid (Up.start HX.out), hid (Mix.refl _ _ _)⟩
      case round =>
        obtain ⟨p, c2, rfl, hap, hpi, R, HU, HMX⟩ := hrel
        have hcl : c2.length = N := by rw [HU.out.len, HN.out]
        by_cases hlt : p < i1
        · have hlt' : (p : Int) < (i1 : Int) := by omega
          obtain ⟨q, hq⟩ : ∃ q, p + 1 = q := ⟨_, rfl⟩
          have hq' : (p : Int) + 1 = (q : Int) := by omega
          have hpN : (p : Int) < (N : Int) := by omega
          have hqN : (q : Int) < (N : Int) := by omega
          have wp := wrap_in (p : Int) (by omega)
          have wq := wrap_in (q : Int) (by omega)
          have ap := addr_row g (p * 9)
          have aq := addr_row g (q * 9)
          obtain ⟨y, hy⟩ : ∃ y, c2[q]? = some y := ⟨_, List.getElem?_eq_getElem (by omega)⟩
          have hyl : l[q]? = some y := by rw [← HU.out.out q (.inr (by omega))]; exact hy
          have hyb := HLOW.out q y (by omega) (by omega) hyl
          have HX2 := hid HU.out.at_
          have HY := hid hy
          have HR1 := hid R.drew
          have HCL := hid hcl
          have HRs1 : Hid (Rw w0 (wr.drew.setCells g (p * 9) y.cells) B g tl (c2.set p y)) := hid (HR1.out.set (by omega) y)
          have HRs2 : Hid (Rw w0 ((wr.drew.setCells g (p * 9) y.cells).setCells g (q * 9) x.cells) B g tl ((c2.set p y).set q x)) := hid (HRs1.out.set (by rw [List.length_set]; omega) x)
          have HU2 : Hid (Up l ((c2.set p y).set q x) a q x) := hid (by rw [← hq] at hy ⊢; exact HU.out.step hy)
          have HM2 : Hid (Mix a b l ((c2.set p y).set q x)) := hid (by rw [← hq] at hy ⊢; exact HMX.out.trans ((mix_adj HU.out.at_ hy hyb).wide hap (by omega)))
          have HQ := hid hq
          clear hy hyl hyb R hcl hq
          go_wp2_with fail
          refine wp_region_any (by kernel_rfl) ?_
          change wpAny _ _ _ _ _ _ _ (World.drew _)
          refine wpAny_take (i := 0) (oi := ({ dst := some 61, op := Op.move (Operand.tmp 0), type := 51, pos := "zsortanyfunc.go:398", after := #[], guard := none } : Oper)) (v := (.slice (some ⟨g, 0, none⟩) N C)) rfl (by kernel_rfl) (by kernel_rfl) (by kernel_rfl) (fun _ _ _ h => h) (Or.inl ⟨by rfl, by intro w; go_simp⟩) ?_
          simp only [Act.put, List.setIfInBounds_toArray, List.set_cons_zero, List.set_cons_succ]
          refine wpAny_take (i := 1) (oi := ({ dst := some 62, op := Op.move (Operand.tmp 13), type := 3, pos := "zsortanyfunc.go:398", after := #[], guard := none } : Oper)) (v := (.int .i64 (p : Int))) rfl (by kernel_rfl) (by kernel_rfl) (by kernel_rfl) (fun _ _ _ h => h) (Or.inl ⟨by rfl, by intro w; go_simp⟩) ?_
          simp only [Act.put, List.setIfInBounds_toArray, List.set_cons_zero, List.set_cons_succ]
          refine wpAny_take (i := 2) (oi := ({ dst := some 63, op := Op.move (Operand.tmp 0), type := 51, pos := "zsortanyfunc.go:398", after := #[{ on := 15, ground := Ground.gcOnly Departure.lateStores }], guard := none } : Oper)) (v := (.slice (some ⟨g, 0, none⟩) N C)) rfl (by kernel_rfl) (by kernel_rfl) (by kernel_rfl) (fun _ _ _ h => h) (Or.inl ⟨by rfl, by intro w; go_simp⟩) ?_
          simp only [Act.put, List.setIfInBounds_toArray, List.set_cons_zero, List.set_cons_succ]
          refine wpAny_take (i := 3) (oi := ({ dst := some 64, op := Op.move (Operand.tmp 13), type := 3, pos := "zsortanyfunc.go:398", after := #[{ on := 15, ground := Ground.gcOnly Departure.lateStores }], guard := none } : Oper)) (v := (.int .i64 (p : Int))) rfl (by kernel_rfl) (by kernel_rfl) (by kernel_rfl) (fun _ _ _ h => h) (Or.inl ⟨by rfl, by intro w; go_simp⟩) ?_
          simp only [Act.put, List.setIfInBounds_toArray, List.set_cons_zero, List.set_cons_succ]
          refine wpAny_take (i := 4) (oi := ({ dst := some 65, op := Op.binOp BinOp.add 3 (Operand.tmp 64) (Operand.const (Value.int IntKind.i64 1)) 3, type := 3, pos := "zsortanyfunc.go:398", after := #[{ on := 3, ground := Ground.data }, { on := 15, ground := Ground.gcOnly Departure.lateStores }], guard := none } : Oper)) (v := (.int .i64 (q : Int))) rfl (by kernel_rfl) (by kernel_rfl) (by kernel_rfl) (fun _ _ _ h => h) (Or.inl ⟨by rfl, by intro w; go_simp⟩) ?_
          simp only [Act.put, List.setIfInBounds_toArray, List.set_cons_zero, List.set_cons_succ]
          refine wpAny_take (i := 5) (oi := ({ dst := some 66, op := Op.move (Operand.tmp 0), type := 51, pos := "zsortanyfunc.go:398", after := #[], guard := none } : Oper)) (v := (.slice (some ⟨g, 0, none⟩) N C)) rfl (by kernel_rfl) (by kernel_rfl) (by kernel_rfl) (fun _ _ _ h => h) (Or.inl ⟨by rfl, by intro w; go_simp⟩) ?_
          simp only [Act.put, List.setIfInBounds_toArray, List.set_cons_zero, List.set_cons_succ]
          refine wpAny_take (i := 6) (oi := ({ dst := some 67, op := Op.move (Operand.tmp 13), type := 3, pos := "zsortanyfunc.go:398", after := #[], guard := none } : Oper)) (v := (.int .i64 (p : Int))) rfl (by kernel_rfl) (by kernel_rfl) (by kernel_rfl) (fun _ _ _ h => h) (Or.inl ⟨by rfl, by intro w; go_simp⟩) ?_
          simp only [Act.put, List.setIfInBounds_toArray, List.set_cons_zero, List.set_cons_succ]
          refine wpAny_take (i := 7) (oi := ({ dst := some 68, op := Op.binOp BinOp.add 3 (Operand.tmp 67) (Operand.const (Value.int IntKind.i64 1)) 3, type := 3, pos := "zsortanyfunc.go:398", after := #[{ on := 6, ground := Ground.data }], guard := none } : Oper)) (v := (.int .i64 (q : Int))) rfl (by kernel_rfl) (by kernel_rfl) (by kernel_rfl) (fun _ _ _ h => h) (Or.inl ⟨by rfl, by intro w; go_simp⟩) ?_
          simp only [Act.put, List.setIfInBounds_toArray, List.set_cons_zero, List.set_cons_succ]
          refine wpAny_take (i := 8) (oi := ({ dst := some 69, op := Op.indexAddr 51 (Operand.tmp 66) (Operand.tmp 68), type := 0, pos := "zsortanyfunc.go:398", after := #[{ on := 5, ground := Ground.data }, { on := 7, ground := Ground.data }], guard := none } : Oper)) (v := (.pointer (some ⟨g, q * 9, none⟩))) rfl (by kernel_rfl) (by kernel_rfl) (by kernel_rfl) (fun _ _ _ h => h) (Or.inl ⟨by rfl, by intro w; go_simp⟩) ?_
          simp only [Act.put, List.setIfInBounds_toArray, List.set_cons_zero, List.set_cons_succ]
          refine wpAny_take (i := 10) (oi := ({ dst := some 71, op := Op.move (Operand.tmp 0), type := 51, pos := "zsortanyfunc.go:398", after := #[], guard := none } : Oper)) (v := (.slice (some ⟨g, 0, none⟩) N C)) rfl (by kernel_rfl) (by kernel_rfl) (by kernel_rfl) (fun _ _ _ h => h) (Or.inl ⟨by rfl, by intro w; go_simp⟩) ?_
          simp only [Act.put, List.setIfInBounds_toArray, List.set_cons_zero, List.set_cons_succ]
          refine wpAny_take (i := 11) (oi := ({ dst := some 72, op := Op.move (Operand.tmp 13), type := 3, pos := "zsortanyfunc.go:398", after := #[], guard := none } : Oper)) (v := (.int .i64 (p : Int))) rfl (by kernel_rfl) (by kernel_rfl) (by kernel_rfl) (fun _ _ _ h => h) (Or.inl ⟨by rfl, by intro w; go_simp⟩) ?_
          simp only [Act.put, List.setIfInBounds_toArray, List.set_cons_zero, List.set_cons_succ]
          refine wpAny_take (i := 12) (oi := ({ dst := some 73, op := Op.indexAddr 51 (Operand.tmp 71) (Operand.tmp 72), type := 0, pos := "zsortanyfunc.go:398", after := #[{ on := 10, ground := Ground.data }, { on := 11, ground := Ground.data }], guard := none } : Oper)) (v := (.pointer (some ⟨g, p * 9, none⟩))) rfl (by kernel_rfl) (by kernel_rfl) (by kernel_rfl) (fun _ _ _ h => h) (Or.inl ⟨by rfl, by intro w; go_simp⟩) ?_
          simp only [Act.put, List.setIfInBounds_toArray, List.set_cons_zero, List.set_cons_succ]
          refine wpAny_ready (rs := [9, 13]) (by kernel_rfl) (by simp) ?_
          refine AllReady.cons (o := ({ dst := some 70, op := Op.load 27 (Operand.tmp 69), type := 27, pos := "zsortanyfunc.go:398", after := #[{ on := 8, ground := Ground.data }], guard := none } : Oper)) rfl (fun K hK => ?_) (AllReady.cons (o := ({ dst := some 74, op := Op.load 27 (Operand.tmp 73), type := 27, pos := "zsortanyfunc.go:398", after := #[{ on := 12, ground := Ground.data }], guard := none } : Oper)) rfl (fun K hK => ?_) AllReady.nil)
          · rw [if_pos (by rfl)]
            with_reducible refine wp_load_mid 27 (.tmp 69) ?_ g (q * 9) ?_ y.cells _ (HR1.out.row.range HY.out) Tryd.underlying27 rfl (info_credL _) ?_
            · rfl
            · rfl
            refine hK _ _ ?_
            clear hK K
            simp only [Act.put, List.setIfInBounds_toArray, List.set_cons_zero, List.set_cons_succ]
            refine wpAny_ready (rs := [13]) (by kernel_rfl) (by simp) ?_
            refine AllReady.cons (o := ({ dst := some 74, op := Op.load 27 (Operand.tmp 73), type := 27, pos := "zsortanyfunc.go:398", after := #[{ on := 12, ground := Ground.data }], guard := none } : Oper)) rfl (fun K hK => ?_) AllReady.nil
            rw [if_pos (by rfl)]
            with_reducible refine wp_load_mid 27 (.tmp 73) ?_ g (p * 9) ?_ x.cells _ (HR1.out.row.range HX2.out) Tryd.underlying27 rfl (info_credL _) ?_
            · rfl
            · rfl
            refine hK _ _ ?_
            clear hK K
            simp only [Act.put, List.setIfInBounds_toArray, List.set_cons_zero, List.set_cons_succ]
            refine wpAny_take (i := 14) (oi := ({ dst := some 75, op := Op.indexAddr 51 (Operand.tmp 61) (Operand.tmp 62), type := 0, pos := "zsortanyfunc.go:398", after := #[{ on := 0, ground := Ground.data }, { on := 1, ground := Ground.data }, { on := 0, ground := Ground.phase }, { on := 1, ground := Ground.phase }, { on := 2, ground := Ground.textOnly Departure.lateStores }, { on := 3, ground := Ground.textOnly Departure.lateStores }, { on := 4, ground := Ground.textOnly Departure.lateStores }, { on := 5, ground := Ground.phase }, { on := 6, ground := Ground.phase }, { on := 7, ground := Ground.phase }, { on := 8, ground := Ground.phase }, { on := 9, ground := Ground.phase }, { on := 10, ground := Ground.textOnly Departure.lateStores }, { on := 11, ground := Ground.textOnly Departure.lateStores }, { on := 12, ground := Ground.textOnly Departure.lateStoresUnsure }, { on := 13, ground := Ground.phase }], guard := none } : Oper)) (v := (.pointer (some ⟨g, p * 9, none⟩))) rfl (by kernel_rfl) (by kernel_rfl) (by kernel_rfl) (fun _ _ _ h => h) (Or.inl ⟨by rfl, by intro w; go_simp⟩) ?_
            simp only [Act.put, List.setIfInBounds_toArray, List.set_cons_zero, List.set_cons_succ]
            refine wpAny_ready (rs := [15]) (by kernel_rfl) (by simp) ?_
            refine AllReady.cons (o := ({ dst := none, op := Op.store 27 (Operand.tmp 75) (Operand.tmp 70), type := 0, pos := "zsortanyfunc.go:398", after := #[{ on := 14, ground := Ground.data }, { on := 9, ground := Ground.data }, { on := 0, ground := Ground.phase }, { on := 1, ground := Ground.phase }, { on := 2, ground := Ground.textOnly Departure.lateStores }, { on := 3, ground := Ground.textOnly Departure.lateStores }, { on := 4, ground := Ground.textOnly Departure.lateStores }, { on := 5, ground := Ground.phase }, { on := 6, ground := Ground.phase }, { on := 7, ground := Ground.phase }, { on := 8, ground := Ground.phase }, { on := 9, ground := Ground.phase }, { on := 10, ground := Ground.textOnly Departure.lateStores }, { on := 11, ground := Ground.textOnly Departure.lateStores }, { on := 12, ground := Ground.textOnly Departure.lateStoresUnsure }, { on := 13, ground := Ground.phase }], guard := none } : Oper)) rfl (fun K hK => ?_) AllReady.nil
            rw [if_pos (by rfl)]
            with_reducible refine wp_store_mid 27 (.tmp 75) (.tmp 70) ?_ g (p * 9) (y.cells).toArray ?_ ?_ (HR1.out.row.thereC (by have := HCL.out; omega) y) (info_credC _) (one_credC _) ?_
            · rfl
            · rfl
            · rfl
            refine hK _ _ ?_
            clear hK K
            simp only [Act.put, List.toList_toArray]
            refine wpAny_take (i := 16) (oi := ({ dst := some 76, op := Op.indexAddr 51 (Operand.tmp 63) (Operand.tmp 65), type := 0, pos := "zsortanyfunc.go:398", after := #[{ on := 2, ground := Ground.data }, { on := 4, ground := Ground.data }, { on := 0, ground := Ground.phase }, { on := 1, ground := Ground.phase }, { on := 2, ground := Ground.phase }, { on := 3, ground := Ground.phase }, { on := 4, ground := Ground.phase }, { on := 5, ground := Ground.phase }, { on := 6, ground := Ground.phase }, { on := 7, ground := Ground.phase }, { on := 8, ground := Ground.phase }, { on := 9, ground := Ground.phase }, { on := 10, ground := Ground.phase }, { on := 11, ground := Ground.phase }, { on := 12, ground := Ground.phase }, { on := 13, ground := Ground.phase }, { on := 14, ground := Ground.phase }, { on := 15, ground := Ground.phase }], guard := none } : Oper)) (v := (.pointer (some ⟨g, q * 9, none⟩))) rfl (by kernel_rfl) (by kernel_rfl) (by kernel_rfl) (fun _ _ _ h => h) (Or.inl ⟨by rfl, by intro w; go_simp⟩) ?_
            simp only [Act.put, List.setIfInBounds_toArray, List.set_cons_zero, List.set_cons_succ]
            refine wpAny_ready (rs := [17]) (by kernel_rfl) (by simp) ?_
            refine AllReady.cons (o := ({ dst := none, op := Op.store 27 (Operand.tmp 76) (Operand.tmp 74), type := 0, pos := "zsortanyfunc.go:398", after := #[{ on := 16, ground := Ground.data }, { on := 13, ground := Ground.data }, { on := 15, ground := Ground.chain }, { on := 0, ground := Ground.phase }, { on := 1, ground := Ground.phase }, { on := 2, ground := Ground.phase }, { on := 3, ground := Ground.phase }, { on := 4, ground := Ground.phase }, { on := 5, ground := Ground.phase }, { on := 6, ground := Ground.phase }, { on := 7, ground := Ground.phase }, { on := 8, ground := Ground.phase }, { on := 9, ground := Ground.phase }, { on := 10, ground := Ground.phase }, { on := 11, ground := Ground.phase }, { on := 12, ground := Ground.phase }, { on := 13, ground := Ground.phase }, { on := 14, ground := Ground.phase }, { on := 15, ground := Ground.phase }], guard := none } : Oper)) rfl (fun K hK => ?_) AllReady.nil
            rw [if_pos (by rfl)]
            with_reducible refine wp_store_mid 27 (.tmp 76) (.tmp 74) ?_ g (q * 9) (x.cells).toArray ?_ ?_ (HRs1.out.row.thereC (by rw [List.length_set]; have := HCL.out; omega) x) (info_credC _) (one_credC _) ?_
            · rfl
            · rfl
            · rfl
            refine hK _ _ ?_
            clear hK K
            simp only [Act.put, List.toList_toArray]
            refine wpAny_done (by kernel_rfl) ?_ _
            go_wp2
            go_roundw
            case rel => exact ⟨q, _, by first | rfl | go_num | rw [hq'] | simp [hq'], by have := HQ.out; omega, by have := HQ.out; omega, HRs2.out, HU2, HM2⟩
            case measure => simp [intOf]; have := HQ.out; omega
          · rw [if_pos (by rfl)]
            with_reducible refine wp_load_mid 27 (.tmp 73) ?_ g (p * 9) ?_ x.cells _ (HR1.out.row.range HX2.out) Tryd.underlying27 rfl (info_credL _) ?_
            · rfl
            · rfl
            refine hK _ _ ?_
            clear hK K
            simp only [Act.put, List.setIfInBounds_toArray, List.set_cons_zero, List.set_cons_succ]
            refine wpAny_ready (rs := [9]) (by kernel_rfl) (by simp) ?_
            refine AllReady.cons (o := ({ dst := some 70, op := Op.load 27 (Operand.tmp 69), type := 27, pos := "zsortanyfunc.go:398", after := #[{ on := 8, ground := Ground.data }], guard := none } : Oper)) rfl (fun K hK => ?_) AllReady.nil
            rw [if_pos (by rfl)]
            with_reducible refine wp_load_mid 27 (.tmp 69) ?_ g (q * 9) ?_ y.cells _ (HR1.out.row.range HY.out) Tryd.underlying27 rfl (info_credL _) ?_
            · rfl
            · rfl
            refine hK _ _ ?_
            clear hK K
            simp only [Act.put, List.setIfInBounds_toArray, List.set_cons_zero, List.set_cons_succ]
            refine wpAny_take (i := 14) (oi := ({ dst := some 75, op := Op.indexAddr 51 (Operand.tmp 61) (Operand.tmp 62), type := 0, pos := "zsortanyfunc.go:398", after := #[{ on := 0, ground := Ground.data }, { on := 1, ground := Ground.data }, { on := 0, ground := Ground.phase }, { on := 1, ground := Ground.phase }, { on := 2, ground := Ground.textOnly Departure.lateStores }, { on := 3, ground := Ground.textOnly Departure.lateStores }, { on := 4, ground := Ground.textOnly Departure.lateStores }, { on := 5, ground := Ground.phase }, { on := 6, ground := Ground.phase }, { on := 7, ground := Ground.phase }, { on := 8, ground := Ground.phase }, { on := 9, ground := Ground.phase }, { on := 10, ground := Ground.textOnly Departure.lateStores }, { on := 11, ground := Ground.textOnly Departure.lateStores }, { on := 12, ground := Ground.textOnly Departure.lateStoresUnsure }, { on := 13, ground := Ground.phase }], guard := none } : Oper)) (v := (.pointer (some ⟨g, p * 9, none⟩))) rfl (by kernel_rfl) (by kernel_rfl) (by kernel_rfl) (fun _ _ _ h => h) (Or.inl ⟨by rfl, by intro w; go_simp⟩) ?_
            simp only [Act.put, List.setIfInBounds_toArray, List.set_cons_zero, List.set_cons_succ]
            refine wpAny_ready (rs := [15]) (by kernel_rfl) (by simp) ?_
            refine AllReady.cons (o := ({ dst := none, op := Op.store 27 (Operand.tmp 75) (Operand.tmp 70), type := 0, pos := "zsortanyfunc.go:398", after := #[{ on := 14, ground := Ground.data }, { on := 9, ground := Ground.data }, { on := 0, ground := Ground.phase }, { on := 1, ground := Ground.phase }, { on := 2, ground := Ground.textOnly Departure.lateStores }, { on := 3, ground := Ground.textOnly Departure.lateStores }, { on := 4, ground := Ground.textOnly Departure.lateStores }, { on := 5, ground := Ground.phase }, { on := 6, ground := Ground.phase }, { on := 7, ground := Ground.phase }, { on := 8, ground := Ground.phase }, { on := 9, ground := Ground.phase }, { on := 10, ground := Ground.textOnly Departure.lateStores }, { on := 11, ground := Ground.textOnly Departure.lateStores }, { on := 12, ground := Ground.textOnly Departure.lateStoresUnsure }, { on := 13, ground := Ground.phase }], guard := none } : Oper)) rfl (fun K hK => ?_) AllReady.nil
            rw [if_pos (by rfl)]
            with_reducible refine wp_store_mid 27 (.tmp 75) (.tmp 70) ?_ g (p * 9) (y.cells).toArray ?_ ?_ (HR1.out.row.thereC (by have := HCL.out; omega) y) (info_credC _) (one_credC _) ?_
            · rfl
            · rfl
            · rfl
            refine hK _ _ ?_
            clear hK K
            simp only [Act.put, List.toList_toArray]
            refine wpAny_take (i := 16) (oi := ({ dst := some 76, op := Op.indexAddr 51 (Operand.tmp 63) (Operand.tmp 65), type := 0, pos := "zsortanyfunc.go:398", after := #[{ on := 2, ground := Ground.data }, { on := 4, ground := Ground.data }, { on := 0, ground := Ground.phase }, { on := 1, ground := Ground.phase }, { on := 2, ground := Ground.phase }, { on := 3, ground := Ground.phase }, { on := 4, ground := Ground.phase }, { on := 5, ground := Ground.phase }, { on := 6, ground := Ground.phase }, { on := 7, ground := Ground.phase }, { on := 8, ground := Ground.phase }, { on := 9, ground := Ground.phase }, { on := 10, ground := Ground.phase }, { on := 11, ground := Ground.phase }, { on := 12, ground := Ground.phase }, { on := 13, ground := Ground.phase }, { on := 14, ground := Ground.phase }, { on := 15, ground := Ground.phase }], guard := none } : Oper)) (v := (.pointer (some ⟨g, q * 9, none⟩))) rfl (by kernel_rfl) (by kernel_rfl) (by kernel_rfl) (fun _ _ _ h => h) (Or.inl ⟨by rfl, by intro w; go_simp⟩) ?_
            simp only [Act.put, List.setIfInBounds_toArray, List.set_cons_zero, List.set_cons_succ]
            refine wpAny_ready (rs := [17]) (by kernel_rfl) (by simp) ?_
            refine AllReady.cons (o := ({ dst := none, op := Op.store 27 (Operand.tmp 76) (Operand.tmp 74), type := 0, pos := "zsortanyfunc.go:398", after := #[{ on := 16, ground := Ground.data }, { on := 13, ground := Ground.data }, { on := 15, ground := Ground.chain }, { on := 0, ground := Ground.phase }, { on := 1, ground := Ground.phase }, { on := 2, ground := Ground.phase }, { on := 3, ground := Ground.phase }, { on := 4, ground := Ground.phase }, { on := 5, ground := Ground.phase }, { on := 6, ground := Ground.phase }, { on := 7, ground := Ground.phase }, { on := 8, ground := Ground.phase }, { on := 9, ground := Ground.phase }, { on := 10, ground := Ground.phase }, { on := 11, ground := Ground.phase }, { on := 12, ground := Ground.phase }, { on := 13, ground := Ground.phase }, { on := 14, ground := Ground.phase }, { on := 15, ground := Ground.phase }], guard := none } : Oper)) rfl (fun K hK => ?_) AllReady.nil
            rw [if_pos (by rfl)]
            with_reducible refine wp_store_mid 27 (.tmp 76) (.tmp 74) ?_ g (q * 9) (x.cells).toArray ?_ ?_ (HRs1.out.row.thereC (by rw [List.length_set]; have := HCL.out; omega) x) (info_credC _) (one_credC _) ?_
            · rfl
            · rfl
            · rfl
            refine hK _ _ ?_
            clear hK K
            simp only [Act.put, List.toList_toArray]
            refine wpAny_done (by kernel_rfl) ?_ _
            go_wp2
            go_roundw
            case rel => exact ⟨q, _, by first | rfl | go_num | rw [hq'] | simp [hq'], by have := HQ.out; omega, by have := HQ.out; omega, HRs2.out, HU2, HM2⟩
            case measure => simp [intOf]; have := HQ.out; omega
        · obtain rfl : p = i1 := by omega
          have hlt' : ¬ (p : Int) < (p : Int) := by omega
          go_wp2
          refine bodyPost_ret (results_none rfl _ _ _) rfl ?_
          exact ⟨rfl, c2, R, HMX.out, HU.out.srt hi1b (by have := HM.out; subst this; exact HS.out) HLOW.out HHIGH.out⟩
end Go.Proofs.YtkggagnaiiemlaaDoor.Sh
/-
  slices.symMergeCmpFunc at credentials: one of the two parts a single credential.
-/
namespace Go.Proofs.YtkggagnaiiemlaaDoor.Sh
open Go Go.RowKit
set_option linter.unusedSimpArgs false
set_option maxRecDepth 100000

set_option maxHeartbeats 16000000 in
theorem sym_last {w0 w : World} {B g C : Nat} {tl : List Value} (l : List Crd) (N a m b : Nat) (hN : l.length = N) (hNm : N ≤ 1000000000) (ham : a + 1 < m) (hm : b = m + 1) (hbN : b ≤ N) (h : Rw w0 w B g tl l) (hs : Srt a m l) :
    Calls Tryd.prog 82 #[.slice (some ⟨g, 0, none⟩) N C, .int .i64 a, .int .i64 m, .int .i64 b, .func (.func 55) #[] #[]] w fun e w' => e = .returned (.tuple #[]) ∧ ∃ l', Rw w0 w' B g tl l' ∧ Mix a b l l' ∧ Srt a b l' := by
  obtain ⟨x, hx⟩ : ∃ x, l[m]? = some x := ⟨_, List.getElem?_eq_getElem (by omega)⟩
  have e1 : ¬ (m : Int) - (a : Int) = 1 := by omega
  have e1b : ((m : Int) - (a : Int) == 1) = false := beq_eq_false_iff_ne.2 e1
  have e2 : (b : Int) - (m : Int) = 1 := by omega
  have g0 : (0 : Int) ≤ (m : Int) - (a : Int) := by omega
  have HX := hid hx
  have HN := hid hN
  have HR := hid h
  have HS := hid hs
  have HM := hid hm
  have hmN : (m : Int) < (N : Int) := by omega
  have wm := wrap_in (m : Int) (by omega)
  have am := addr_row g (m * 9)
  clear hN h hs hm hx
  go_enter Tryd.func82, Tryd.ntmps82
  go_wp2
  go_loopw [14, 15] (fun vi vj wr => ∃ (i j : Nat), vi = .int .i64 i ∧ vj = .int .i64 j ∧ a ≤ i ∧ i ≤ j ∧ j ≤ m ∧ Rw w0 wr B g tl l ∧ Hid (i = a ∨ ∃ u, l[i - 1]? = some u ∧ bef x u = false) ∧ Hid (j = m ∨ ∃ u, l[j]? = some u ∧ bef x u = true)) (fun vi vj _ => (intOf vj).toNat - (intOf vi).toNat)
  case atStart => exact ⟨a, m, rfl, rfl, Nat.le_refl _, by omega, Nat.le_refl _, HR.out, hid (.inl rfl), hid (.inl rfl)⟩
  case round =>
    obtain ⟨i, j, rfl, rfl, hi, hij, hj, R, HI, HJ⟩ := hrel
    by_cases hlt : i < j
    · have hlt' : (i : Int) < (j : Int) := by omega
      have hb1 : (j : Int) ≤ 1000000000 := by omega
      have hb2 : (i : Int) ≤ 1000000000 := by omega
      obtain ⟨q, hq⟩ : ∃ q, (i + j) / 2 = q := ⟨_, rfl⟩
      have hq' : ((i : Int) + (j : Int)) / 2 = (q : Int) := by omega
      have hqi : i ≤ q := by omega
      have hqj : q < j := by omega
      have hqN : (q : Int) < (N : Int) := by omega
      have wq := wrap_in (q : Int) (by omega)
      have aq := addr_row g (q * 9)
      obtain ⟨y, hy⟩ : ∃ y, l[q]? = some y := ⟨_, List.getElem?_eq_getElem (by rw [HN.out]; omega)⟩
      obtain ⟨c, hc⟩ : ∃ c, cmpI x y = c := ⟨_, rfl⟩
      obtain ⟨bb, hbb⟩ : ∃ b, bef x y = b := ⟨_, rfl⟩
      have hcb : decide (c < 0) = bb := by rw [← hc, cmpI_neg, hbb]
      have HCMP : Hid (∀ W, Calls Tryd.prog 55 #[.agg x.cells.toArray, .agg y.cells.toArray] W fun e w' => e = .returned (.int .i64 c) ∧ Below W.heap.size W w') := hid (fun W => hc ▸ cmpC_any x y W)
      have HB := hid hbb
      have HY := hid hy
      have HR1 := hid R.drew
      clear hc hbb hy hq R
      go_wp2_with fail
      refine wp_region_held_drew (S := (fun W => W.rangeAt g (m * 9) x.cells ∧ W.rangeAt g (q * 9) y.cells)) (by kernel_rfl) (⟨HR1.out.row.range HX.out, HR1.out.row.range HY.out⟩) (fun hHeld => ?_)
      refine wpAnyH_take (i := 0) (oi := ({ dst := some 92, op := Op.move (Operand.tmp 4), type := 74, pos := "zsortanyfunc.go:414", after := #[], guard := none } : Oper)) (v := (.func (.func 55) #[] #[])) rfl (by kernel_rfl) (by kernel_rfl) (by kernel_rfl) (fun _ _ _ h => h) (Or.inl ⟨by rfl, by intro w _; go_simp⟩) hHeld ?_
      simp only [Act.put, List.setIfInBounds_toArray, List.set_cons_zero, List.set_cons_succ]
      refine wpAnyH_take (i := 1) (oi := ({ dst := some 93, op := Op.move (Operand.tmp 0), type := 51, pos := "zsortanyfunc.go:414", after := #[], guard := none } : Oper)) (v := (.slice (some ⟨g, 0, none⟩) N C)) rfl (by kernel_rfl) (by kernel_rfl) (by kernel_rfl) (fun _ _ _ h => h) (Or.inl ⟨by rfl, by intro w _; go_simp⟩) hHeld ?_
      simp only [Act.put, List.setIfInBounds_toArray, List.set_cons_zero, List.set_cons_succ]
      refine wpAnyH_take (i := 2) (oi := ({ dst := some 94, op := Op.move (Operand.tmp 2), type := 3, pos := "zsortanyfunc.go:414", after := #[], guard := none } : Oper)) (v := (.int .i64 (m : Int))) rfl (by kernel_rfl) (by kernel_rfl) (by kernel_rfl) (fun _ _ _ h => h) (Or.inl ⟨by rfl, by intro w _; go_simp⟩) hHeld ?_
      simp only [Act.put, List.setIfInBounds_toArray, List.set_cons_zero, List.set_cons_succ]
      refine wpAnyH_take (i := 3) (oi := ({ dst := some 95, op := Op.indexAddr 51 (Operand.tmp 93) (Operand.tmp 94), type := 0, pos := "zsortanyfunc.go:414", after := #[{ on := 1, ground := Ground.data }, { on := 2, ground := Ground.data }], guard := none } : Oper)) (v := (.pointer (some ⟨g, m * 9, none⟩))) rfl (by kernel_rfl) (by kernel_rfl) (by kernel_rfl) (fun _ _ _ h => h) (Or.inl ⟨by rfl, by intro w _; go_simp⟩) hHeld ?_
      simp only [Act.put, List.setIfInBounds_toArray, List.set_cons_zero, List.set_cons_succ]
      refine wpAnyH_take (i := 4) (oi := ({ dst := some 96, op := Op.load 27 (Operand.tmp 95), type := 27, pos := "zsortanyfunc.go:414", after := #[{ on := 3, ground := Ground.data }], guard := none } : Oper)) (v := .agg x.cells.toArray) rfl (by kernel_rfl) (by kernel_rfl) (by kernel_rfl) (fun _ _ _ h => h) (yieldsIf_load_mid (by rfl) 27 (.tmp 95) rfl g (m * 9) rfl x.cells _ (fun _ h => h.1) Tryd.underlying27 rfl (info_credL _)) hHeld ?_
      simp only [Act.put, List.setIfInBounds_toArray, List.set_cons_zero, List.set_cons_succ]
      refine wpAnyH_take (i := 5) (oi := ({ dst := some 97, op := Op.move (Operand.tmp 0), type := 51, pos := "zsortanyfunc.go:414", after := #[], guard := none } : Oper)) (v := (.slice (some ⟨g, 0, none⟩) N C)) rfl (by kernel_rfl) (by kernel_rfl) (by kernel_rfl) (fun _ _ _ h => h) (Or.inl ⟨by rfl, by intro w _; go_simp⟩) hHeld ?_
      simp only [Act.put, List.setIfInBounds_toArray, List.set_cons_zero, List.set_cons_succ]
      refine wpAnyH_take (i := 6) (oi := ({ dst := some 98, op := Op.move (Operand.tmp 16), type := 3, pos := "zsortanyfunc.go:414", after := #[], guard := none } : Oper)) (v := (.int .i64 (q : Int))) rfl (by kernel_rfl) (by kernel_rfl) (by kernel_rfl) (fun _ _ _ h => h) (Or.inl ⟨by rfl, by intro w _; go_simp⟩) hHeld ?_
      simp only [Act.put, List.setIfInBounds_toArray, List.set_cons_zero, List.set_cons_succ]
      refine wpAnyH_take (i := 7) (oi := ({ dst := some 99, op := Op.indexAddr 51 (Operand.tmp 97) (Operand.tmp 98), type := 0, pos := "zsortanyfunc.go:414", after := #[{ on := 5, ground := Ground.data }, { on := 6, ground := Ground.data }], guard := none } : Oper)) (v := (.pointer (some ⟨g, q * 9, none⟩))) rfl (by kernel_rfl) (by kernel_rfl) (by kernel_rfl) (fun _ _ _ h => h) (Or.inl ⟨by rfl, by intro w _; go_simp⟩) hHeld ?_
      simp only [Act.put, List.setIfInBounds_toArray, List.set_cons_zero, List.set_cons_succ]
      refine wpAnyH_take (i := 8) (oi := ({ dst := some 100, op := Op.load 27 (Operand.tmp 99), type := 27, pos := "zsortanyfunc.go:414", after := #[{ on := 7, ground := Ground.data }], guard := none } : Oper)) (v := .agg y.cells.toArray) rfl (by kernel_rfl) (by kernel_rfl) (by kernel_rfl) (fun _ _ _ h => h) (yieldsIf_load_mid (by rfl) 27 (.tmp 99) rfl g (q * 9) rfl y.cells _ (fun _ h => h.2) Tryd.underlying27 rfl (info_credL _)) hHeld ?_
      simp only [Act.put, List.setIfInBounds_toArray, List.set_cons_zero, List.set_cons_succ]
      refine wpAnyH_ready (rs := [9]) (by kernel_rfl) (by simp) ?_
      refine AllReadyH.cons (o := ({ dst := some 101, op := Op.call { callee := Callee.value (Operand.tmp 92), args := #[Operand.tmp 96, Operand.tmp 100], argTypes := #[27, 27] }, type := 3, pos := "zsortanyfunc.go:414", after := #[{ on := 0, ground := Ground.data }, { on := 4, ground := Ground.data }, { on := 8, ground := Ground.data }], guard := none } : Oper)) rfl (fun K hK => ?_) AllReadyH.nil
      rw [if_pos (by rfl)]
      go_simp
      refine (HCMP.out _).mono ?_
      rintro er w2 ⟨rfl, bl⟩
      have HR2 := hid (HR1.out.kept bl)
      clear bl
      refine hK.out _ _ (⟨HR2.out.row.range HX.out, HR2.out.row.range HY.out⟩) (fun hHeld2 => ?_)
      clear hK K hHeld
      try simp only [Act.put, List.setIfInBounds_toArray, List.set_cons_zero, List.set_cons_succ]
      refine wpAnyH_take (i := 10) (oi := ({ dst := some 102, op := Op.binOp BinOp.lss 3 (Operand.tmp 101) (Operand.const (Value.int IntKind.i64 0)) 3, type := 4, pos := "zsortanyfunc.go:414", after := #[{ on := 9, ground := Ground.data }], guard := none } : Oper)) (v := (.bool bb)) rfl (by kernel_rfl) (by kernel_rfl) (by kernel_rfl) (fun _ _ _ h => h) (Or.inl ⟨by rfl, by intro w _; go_simp⟩) hHeld2 ?_
      simp only [Act.put, List.setIfInBounds_toArray, List.set_cons_zero, List.set_cons_succ]
      refine wpAnyH_take (i := 11) (oi := ({ dst := some 103, op := Op.unOp UnOp.not 4 (Operand.tmp 102), type := 4, pos := "zsortanyfunc.go:414", after := #[{ on := 10, ground := Ground.data }], guard := none } : Oper)) (v := (.bool (!bb))) rfl (by kernel_rfl) (by kernel_rfl) (by kernel_rfl) (fun _ _ _ h => h) (Or.inl ⟨by rfl, by intro w _; go_simp⟩) hHeld2 ?_
      simp only [Act.put, List.setIfInBounds_toArray, List.set_cons_zero, List.set_cons_succ]
      refine wpAnyH_done (by kernel_rfl) ?_ _
      clear hHeld2
      cases bb with
      | false =>
        have HI2 : Hid (q + 1 = a ∨ ∃ u, l[q + 1 - 1]? = some u ∧ bef x u = false) := hid (.inr ⟨y, HY.out, HB.out⟩)
        go_wp2
        go_roundw
        case rel => exact ⟨q + 1, j, by go_num, rfl, by omega, by omega, hj, HR2.out, HI2, HJ⟩
        case measure => simp [intOf]; omega
      | true =>
        have HJ2 : Hid (q = m ∨ ∃ u, l[q]? = some u ∧ bef x u = true) := hid (.inr ⟨y, HY.out, HB.out⟩)
        go_wp2
        go_roundw
        case rel => exact ⟨i, q, rfl, rfl, hi, hqi, by omega, HR2.out, HI, HJ2⟩
        case measure => simp [intOf]; omega
    · obtain rfl : i = j := by omega
      have HHIGH : Hid (∀ t y, i ≤ t → t < m → l[t]? = some y → bef x y = true) := hid (fun t y g1 g2 gy => by
        rcases HJ.out with h | ⟨u, hu, hb⟩
        · omega
        · rcases Nat.lt_or_ge i t with g | g
          · exact bef_of_not hb (HS.out i t u y hi g g2 hu gy)
          · obtain rfl : t = i := by omega
            rw [hu] at gy; injection gy with gy; subst gy; exact hb)
      have HLOW : Hid (∀ t y, a ≤ t → t < i → l[t]? = some y → bef x y = false) := hid (fun t y g1 g2 gy => by
        rcases HI.out with h | ⟨u, hu, hb⟩
        · omega
        · rcases Nat.lt_or_ge t (i - 1) with g | g
          · exact not_bef_trans hb (HS.out t (i - 1) y u g1 g (by omega) gy hu)
          · obtain rfl : t = i - 1 := by omega
            rw [hu] at gy; injection gy with gy; subst gy; exact hb)
      have HRo := hid R
      obtain ⟨wo, hwo⟩ : ∃ z, z = wr := ⟨_, rfl⟩
      subst hwo
      clear R HI HJ hij hlt
      go_wp2
      go_loopw [17] (fun v wi => ∃ (k : Nat) (c2 : List Crd), v = .int .i64 k ∧ i ≤ k ∧ k ≤ m ∧ Rw w0 wi B g tl c2 ∧ Hid (Dn l c2 k m x) ∧ Hid (Mix a b l c2)) (fun v _ => (intOf v).toNat)
      case atStart => exact ⟨m, l, rfl, hj, Nat.le_refl _, HRo.out, hid (Dn.start HX.out), hid (Mix.refl _ _ _)⟩
      case round =>
        obtain ⟨q, c2, rfl, hiq, hqm, R, HU, HMX⟩ := hrel
        have hcl : c2.length = N := by rw [HU.out.len, HN.out]
        by_cases hlt : i < q
        · have hlt' : (i : Int) < (q : Int) := by omega
          obtain ⟨p, hq⟩ : ∃ p, p + 1 = q := ⟨q - 1, by omega⟩
          have f1 : (q : Int) - 1 = (p : Int) := by omega
          have hpN : (p : Int) < (N : Int) := by omega
          have hqN : (q : Int) < (N : Int) := by omega
          have wp := wrap_in (p : Int) (by omega)
          have wq := wrap_in (q : Int) (by omega)
          have ap := addr_row g (p * 9)
          have aq := addr_row g (q * 9)
          obtain ⟨y, hy⟩ : ∃ y, c2[p]? = some y := ⟨_, List.getElem?_eq_getElem (by omega)⟩
          have hyl : l[p]? = some y := by rw [← HU.out.out p (.inl (by omega))]; exact hy
          have hyb := HHIGH.out p y (by omega) (by omega) hyl
          have HX2 := hid HU.out.at_
          have HY := hid hy
          have HR1 := hid R.drew
          have HCL := hid hcl
          have HRs1 : Hid (Rw w0 (wr.drew.setCells g (q * 9) y.cells) B g tl (c2.set q y)) := hid (HR1.out.set (by omega) y)
          have HRs2 : Hid (Rw w0 ((wr.drew.setCells g (q * 9) y.cells).setCells g (p * 9) x.cells) B g tl ((c2.set q y).set p x)) := hid (HRs1.out.set (by rw [List.length_set]; omega) x)
          have HU2 : Hid (Dn l ((c2.set q y).set p x) p m x) := hid (by
            have h := HU.out
            rw [← hq] at h ⊢
            exact h.step hy)
          have HM2 : Hid (Mix a b l ((c2.set q y).set p x)) := hid (by
            have h := HU.out.at_
            rw [← hq] at h ⊢
            exact HMX.out.trans ((mix_adj' hy h hyb).wide (by omega) (by have := HM.out; omega)))
          have HQ := hid hq
          clear hy hyl hyb R hcl hq
          go_wp2_with fail
          refine wp_region_any (by kernel_rfl) ?_
          change wpAny _ _ _ _ _ _ _ (World.drew _)
          refine wpAny_take (i := 0) (oi := ({ dst := some 113, op := Op.move (Operand.tmp 0), type := 51, pos := "zsortanyfunc.go:422", after := #[], guard := none } : Oper)) (v := (.slice (some ⟨g, 0, none⟩) N C)) rfl (by kernel_rfl) (by kernel_rfl) (by kernel_rfl) (fun _ _ _ h => h) (Or.inl ⟨by rfl, by intro w; go_simp⟩) ?_
          simp only [Act.put, List.setIfInBounds_toArray, List.set_cons_zero, List.set_cons_succ]
          refine wpAny_take (i := 1) (oi := ({ dst := some 114, op := Op.move (Operand.tmp 17), type := 3, pos := "zsortanyfunc.go:422", after := #[], guard := none } : Oper)) (v := (.int .i64 (q : Int))) rfl (by kernel_rfl) (by kernel_rfl) (by kernel_rfl) (fun _ _ _ h => h) (Or.inl ⟨by rfl, by intro w; go_simp⟩) ?_
          simp only [Act.put, List.setIfInBounds_toArray, List.set_cons_zero, List.set_cons_succ]
          refine wpAny_take (i := 2) (oi := ({ dst := some 115, op := Op.move (Operand.tmp 0), type := 51, pos := "zsortanyfunc.go:422", after := #[{ on := 15, ground := Ground.gcOnly Departure.lateStores }], guard := none } : Oper)) (v := (.slice (some ⟨g, 0, none⟩) N C)) rfl (by kernel_rfl) (by kernel_rfl) (by kernel_rfl) (fun _ _ _ h => h) (Or.inl ⟨by rfl, by intro w; go_simp⟩) ?_
          simp only [Act.put, List.setIfInBounds_toArray, List.set_cons_zero, List.set_cons_succ]
          refine wpAny_take (i := 3) (oi := ({ dst := some 116, op := Op.move (Operand.tmp 17), type := 3, pos := "zsortanyfunc.go:422", after := #[{ on := 15, ground := Ground.gcOnly Departure.lateStores }], guard := none } : Oper)) (v := (.int .i64 (q : Int))) rfl (by kernel_rfl) (by kernel_rfl) (by kernel_rfl) (fun _ _ _ h => h) (Or.inl ⟨by rfl, by intro w; go_simp⟩) ?_
          simp only [Act.put, List.setIfInBounds_toArray, List.set_cons_zero, List.set_cons_succ]
          refine wpAny_take (i := 4) (oi := ({ dst := some 117, op := Op.binOp BinOp.sub 3 (Operand.tmp 116) (Operand.const (Value.int IntKind.i64 1)) 3, type := 3, pos := "zsortanyfunc.go:422", after := #[{ on := 3, ground := Ground.data }, { on := 15, ground := Ground.gcOnly Departure.lateStores }], guard := none } : Oper)) (v := (.int .i64 (p : Int))) rfl (by kernel_rfl) (by kernel_rfl) (by kernel_rfl) (fun _ _ _ h => h) (Or.inl ⟨by rfl, by intro w; go_simp⟩) ?_
          simp only [Act.put, List.setIfInBounds_toArray, List.set_cons_zero, List.set_cons_succ]
          refine wpAny_take (i := 5) (oi := ({ dst := some 118, op := Op.move (Operand.tmp 0), type := 51, pos := "zsortanyfunc.go:422", after := #[], guard := none } : Oper)) (v := (.slice (some ⟨g, 0, none⟩) N C)) rfl (by kernel_rfl) (by kernel_rfl) (by kernel_rfl) (fun _ _ _ h => h) (Or.inl ⟨by rfl, by intro w; go_simp⟩) ?_
          simp only [Act.put, List.setIfInBounds_toArray, List.set_cons_zero, List.set_cons_succ]
          refine wpAny_take (i := 6) (oi := ({ dst := some 119, op := Op.move (Operand.tmp 17), type := 3, pos := "zsortanyfunc.go:422", after := #[], guard := none } : Oper)) (v := (.int .i64 (q : Int))) rfl (by kernel_rfl) (by kernel_rfl) (by kernel_rfl) (fun _ _ _ h => h) (Or.inl ⟨by rfl, by intro w; go_simp⟩) ?_
          simp only [Act.put, List.setIfInBounds_toArray, List.set_cons_zero, List.set_cons_succ]
          refine wpAny_take (i := 7) (oi := ({ dst := some 120, op := Op.binOp BinOp.sub 3 (Operand.tmp 119) (Operand.const (Value.int IntKind.i64 1)) 3, type := 3, pos := "zsortanyfunc.go:422", after := #[{ on := 6, ground := Ground.data }], guard := none } : Oper)) (v := (.int .i64 (p : Int))) rfl (by kernel_rfl) (by kernel_rfl) (by kernel_rfl) (fun _ _ _ h => h) (Or.inl ⟨by rfl, by intro w; go_simp⟩) ?_
          simp only [Act.put, List.setIfInBounds_toArray, List.set_cons_zero, List.set_cons_succ]
          refine wpAny_take (i := 8) (oi := ({ dst := some 121, op := Op.indexAddr 51 (Operand.tmp 118) (Operand.tmp 120), type := 0, pos := "zsortanyfunc.go:422", after := #[{ on := 5, ground := Ground.data }, { on := 7, ground := Ground.data }], guard := none } : Oper)) (v := (.pointer (some ⟨g, p * 9, none⟩))) rfl (by kernel_rfl) (by kernel_rfl) (by kernel_rfl) (fun _ _ _ h => h) (Or.inl ⟨by rfl, by intro w; go_simp⟩) ?_
          simp only [Act.put, List.setIfInBounds_toArray, List.set_cons_zero, List.set_cons_succ]
          refine wpAny_take (i := 10) (oi := ({ dst := some 123, op := Op.move (Operand.tmp 0), type := 51, pos := "zsortanyfunc.go:422", after := #[], guard := none } : Oper)) (v := (.slice (some ⟨g, 0, none⟩) N C)) rfl (by kernel_rfl) (by kernel_rfl) (by kernel_rfl) (fun _ _ _ h => h) (Or.inl ⟨by rfl, by intro w; go_simp⟩) ?_
          simp only [Act.put, List.setIfInBounds_toArray, List.set_cons_zero, List.set_cons_succ]
          refine wpAny_take (i := 11) (oi := ({ dst := some 124, op := Op.move (Operand.tmp 17), type := 3, pos := "zsortanyfunc.go:422", after := #[], guard := none } : Oper)) (v := (.int .i64 (q : Int))) rfl (by kernel_rfl) (by kernel_rfl) (by kernel_rfl) (fun _ _ _ h => h) (Or.inl ⟨by rfl, by intro w; go_simp⟩) ?_
          simp only [Act.put, List.setIfInBounds_toArray, List.set_cons_zero, List.set_cons_succ]
          refine wpAny_take (i := 12) (oi := ({ dst := some 125, op := Op.indexAddr 51 (Operand.tmp 123) (Operand.tmp 124), type := 0, pos := "zsortanyfunc.go:422", after := #[{ on := 10, ground := Ground.data }, { on := 11, ground := Ground.data }], guard := none } : Oper)) (v := (.pointer (some ⟨g, q * 9, none⟩))) rfl (by kernel_rfl) (by kernel_rfl) (by kernel_rfl) (fun _ _ _ h => h) (Or.inl ⟨by rfl, by intro w; go_simp⟩) ?_
          simp only [Act.put, List.setIfInBounds_toArray, List.set_cons_zero, List.set_cons_succ]
          refine wpAny_ready (rs := [9, 13]) (by kernel_rfl) (by simp) ?_
          refine AllReady.cons (o := ({ dst := some 122, op := Op.load 27 (Operand.tmp 121), type := 27, pos := "zsortanyfunc.go:422", after := #[{ on := 8, ground := Ground.data }], guard := none } : Oper)) rfl (fun K hK => ?_) (AllReady.cons (o := ({ dst := some 126, op := Op.load 27 (Operand.tmp 125), type := 27, pos := "zsortanyfunc.go:422", after := #[{ on := 12, ground := Ground.data }], guard := none } : Oper)) rfl (fun K hK => ?_) AllReady.nil)
          · rw [if_pos (by rfl)]
            with_reducible refine wp_load_mid 27 (.tmp 121) ?_ g (p * 9) ?_ y.cells _ (HR1.out.row.range HY.out) Tryd.underlying27 rfl (info_credL _) ?_
            · rfl
            · rfl
            refine hK _ _ ?_
            clear hK K
            simp only [Act.put, List.setIfInBounds_toArray, List.set_cons_zero, List.set_cons_succ]
            refine wpAny_ready (rs := [13]) (by kernel_rfl) (by simp) ?_
            refine AllReady.cons (o := ({ dst := some 126, op := Op.load 27 (Operand.tmp 125), type := 27, pos := "zsortanyfunc.go:422", after := #[{ on := 12, ground := Ground.data }], guard := none } : Oper)) rfl (fun K hK => ?_) AllReady.nil
            rw [if_pos (by rfl)]
            with_reducible refine wp_load_mid 27 (.tmp 125) ?_ g (q * 9) ?_ x.cells _ (HR1.out.row.range HX2.out) Tryd.underlying27 rfl (info_credL _) ?_
            · rfl
            · rfl
            refine hK _ _ ?_
            clear hK K
            simp only [Act.put, List.setIfInBounds_toArray, List.set_cons_zero, List.set_cons_succ]
            refine wpAny_take (i := 14) (oi := ({ dst := some 127, op := Op.indexAddr 51 (Operand.tmp 113) (Operand.tmp 114), type := 0, pos := "zsortanyfunc.go:422", after := #[{ on := 0, ground := Ground.data }, { on := 1, ground := Ground.data }, { on := 0, ground := Ground.phase }, { on := 1, ground := Ground.phase }, { on := 2, ground := Ground.textOnly Departure.lateStores }, { on := 3, ground := Ground.textOnly Departure.lateStores }, { on := 4, ground := Ground.textOnly Departure.lateStores }, { on := 5, ground := Ground.phase }, { on := 6, ground := Ground.phase }, { on := 7, ground := Ground.phase }, { on := 8, ground := Ground.phase }, { on := 9, ground := Ground.phase }, { on := 10, ground := Ground.textOnly Departure.lateStores }, { on := 11, ground := Ground.textOnly Departure.lateStores }, { on := 12, ground := Ground.textOnly Departure.lateStoresUnsure }, { on := 13, ground := Ground.phase }], guard := none } : Oper)) (v := (.pointer (some ⟨g, q * 9, none⟩))) rfl (by kernel_rfl) (by kernel_rfl) (by kernel_rfl) (fun _ _ _ h => h) (Or.inl ⟨by rfl, by intro w; go_simp⟩) ?_
            simp only [Act.put, List.setIfInBounds_toArray, List.set_cons_zero, List.set_cons_succ]
            refine wpAny_ready (rs := [15]) (by kernel_rfl) (by simp) ?_
            refine AllReady.cons (o := ({ dst := none, op := Op.store 27 (Operand.tmp 127) (Operand.tmp 122), type := 0, pos := "zsortanyfunc.go:422", after := #[{ on := 14, ground := Ground.data }, { on := 9, ground := Ground.data }, { on := 0, ground := Ground.phase }, { on := 1, ground := Ground.phase }, { on := 2, ground := Ground.textOnly Departure.lateStores }, { on := 3, ground := Ground.textOnly Departure.lateStores }, { on := 4, ground := Ground.textOnly Departure.lateStores }, { on := 5, ground := Ground.phase }, { on := 6, ground := Ground.phase }, { on := 7, ground := Ground.phase }, { on := 8, ground := Ground.phase }, { on := 9, ground := Ground.phase }, { on := 10, ground := Ground.textOnly Departure.lateStores }, { on := 11, ground := Ground.textOnly Departure.lateStores }, { on := 12, ground := Ground.textOnly Departure.lateStoresUnsure }, { on := 13, ground := Ground.phase }], guard := none } : Oper)) rfl (fun K hK => ?_) AllReady.nil
            rw [if_pos (by rfl)]
            with_reducible refine wp_store_mid 27 (.tmp 127) (.tmp 122) ?_ g (q * 9) (y.cells).toArray ?_ ?_ (HR1.out.row.thereC (by have := HCL.out; omega) y) (info_credC _) (one_credC _) ?_
            · rfl
            · rfl
            · rfl
            refine hK _ _ ?_
            clear hK K
            simp only [Act.put, List.toList_toArray]
            refine wpAny_take (i := 16) (oi := ({ dst := some 128, op := Op.indexAddr 51 (Operand.tmp 115) (Operand.tmp 117), type := 0, pos := "zsortanyfunc.go:422", after := #[{ on := 2, ground := Ground.data }, { on := 4, ground := Ground.data }, { on := 0, ground := Ground.phase }, { on := 1, ground := Ground.phase }, { on := 2, ground := Ground.phase }, { on := 3, ground := Ground.phase }, { on := 4, ground := Ground.phase }, { on := 5, ground := Ground.phase }, { on := 6, ground := Ground.phase }, { on := 7, ground := Ground.phase }, { on := 8, ground := Ground.phase }, { on := 9, ground := Ground.phase }, { on := 10, ground := Ground.phase }, { on := 11, ground := Ground.phase }, { on := 12, ground := Ground.phase }, { on := 13, ground := Ground.phase }, { on := 14, ground := Ground.phase }, { on := 15, ground := Ground.phase }], guard := none } : Oper)) (v := (.pointer (some ⟨g, p * 9, none⟩))) rfl (by kernel_rfl) (by kernel_rfl) (by kernel_rfl) (fun _ _ _ h => h) (Or.inl ⟨by rfl, by intro w; go_simp⟩) ?_
            simp only [Act.put, List.setIfInBounds_toArray, List.set_cons_zero, List.set_cons_succ]
            refine wpAny_ready (rs := [17]) (by kernel_rfl) (by simp) ?_
            refine AllReady.cons (o := ({ dst := none, op := Op.store 27 (Operand.tmp 128) (Operand.tmp 126), type := 0, pos := "zsortanyfunc.go:422", after := #[{ on := 16, ground := Ground.data }, { on := 13, ground := Ground.data }, { on := 15, ground := Ground.chain }, { on := 0, ground := Ground.phase }, { on := 1, ground := Ground.phase }, { on := 2, ground := Ground.phase }, { on := 3, ground := Ground.phase }, { on := 4, ground := Ground.phase }, { on := 5, ground := Ground.phase }, { on := 6, ground := Ground.phase }, { on := 7, ground := Ground.phase }, { on := 8, ground := Ground.phase }, { on := 9, ground := Ground.phase }, { on := 10, ground := Ground.phase }, { on := 11, ground := Ground.phase }, { on := 12, ground := Ground.phase }, { on := 13, ground := Ground.phase }, { on := 14, ground := Ground.phase }, { on := 15, ground := Ground.phase }], guard := none } : Oper)) rfl (fun K hK => ?_) AllReady.nil
            rw [if_pos (by rfl)]
            with_reducible refine wp_store_mid 27 (.tmp 128) (.tmp 126) ?_ g (p * 9) (x.cells).toArray ?_ ?_ (HRs1.out.row.thereC (by rw [List.length_set]; have := HCL.out; omega) x) (info_credC _) (one_credC _) ?_
            · rfl
            · rfl
            · rfl
            refine hK _ _ ?_
            clear hK K
            simp only [Act.put, List.toList_toArray]
            refine wpAny_done (by kernel_rfl) ?_ _
            go_wp2
            go_roundw
            case rel => exact ⟨p, _, by first | rfl | rw [f1] | simp [f1], by have := HQ.out; omega, by have := HQ.out; omega, HRs2.out, HU2, HM2⟩
            case measure => simp [intOf]; have := HQ.out; omega
          · rw [if_pos (by rfl)]
            with_reducible refine wp_load_mid 27 (.tmp 125) ?_ g (q * 9) ?_ x.cells _ (HR1.out.row.range HX2.out) Tryd.underlying27 rfl (info_credL _) ?_
            · rfl
            · rfl
            refine hK _ _ ?_
            clear hK K
            simp only [Act.put, List.setIfInBounds_toArray, List.set_cons_zero, List.set_cons_succ]
            refine wpAny_ready (rs := [9]) (by kernel_rfl) (by simp) ?_
            refine AllReady.cons (o := ({ dst := some 122, op := Op.load 27 (Operand.tmp 121), type := 27, pos := "zsortanyfunc.go:422", after := #[{ on := 8, ground := Ground.data }], guard := none } : Oper)) rfl (fun K hK => ?_) AllReady.nil
            rw [if_pos (by rfl)]
            with_reducible refine wp_load_mid 27 (.tmp 121) ?_ g (p * 9) ?_ y.cells _ (HR1.out.row.range HY.out) Tryd.underlying27 rfl (info_credL _) ?_
            · rfl
            · rfl
            refine hK _ _ ?_
            clear hK K
            simp only [Act.put, List.setIfInBounds_toArray, List.set_cons_zero, List.set_cons_succ]
            refine wpAny_take (i := 14) (oi := ({ dst := some 127, op := Op.indexAddr 51 (Operand.tmp 113) (Operand.tmp 114), type := 0, pos := "zsortanyfunc.go:422", after := #[{ on := 0, ground := Ground.data }, { on := 1, ground := Ground.data }, { on := 0, ground := Ground.phase }, { on := 1, ground := Ground.phase }, { on := 2, ground := Ground.textOnly Departure.lateStores }, { on := 3, ground := Ground.textOnly Departure.lateStores }, { on := 4, ground := Ground.textOnly Departure.lateStores }, { on := 5, ground := Ground.phase }, { on := 6, ground := Ground.phase }, { on := 7, ground := Ground.phase }, { on := 8, ground := Ground.phase }, { on := 9, ground := Ground.phase }, { on := 10, ground := Ground.textOnly Departure.lateStores }, { on := 11, ground := Ground.textOnly Departure.lateStores }, { on := 12, ground := Ground.textOnly Departure.lateStoresUnsure }, { on := 13, ground := Ground.phase }], guard := none } : Oper)) (v := (.pointer (some ⟨g, q * 9, none⟩))) rfl (by kernel_rfl) (by kernel_rfl) (by kernel_rfl) (fun _ _ _ h => h) (Or.inl ⟨by rfl, by intro w; go_simp⟩) ?_
            simp only [Act.put, List.setIfInBounds_toArray, List.set_cons_zero, List.set_cons_succ]
            refine wpAny_ready (rs := [15]) (by kernel_rfl) (by simp) ?_
            refine AllReady.cons (o := ({ dst := none, op := Op.store 27 (Operand.tmp 127) (Operand.tmp 122), type := 0, pos := "zsortanyfunc.go:422", after := #[{ on := 14, ground := Ground.data }, { on := 9, ground := Ground.data }, { on := 0, ground := Ground.phase }, { on := 1, ground := Ground.phase }, { on := 2, ground := Ground.textOnly Departure.lateStores }, { on := 3, ground := Ground.textOnly Departure.lateStores }, { on := 4, ground := Ground.textOnly Departure.lateStores }, { on := 5, ground := Ground.phase }, { on := 6, ground := Ground.phase }, { on := 7, ground := Ground.phase }, { on := 8, ground := Ground.phase }, { on := 9, ground := Ground.phase }, { on := 10, ground := Ground.textOnly Departure.lateStores }, { on := 11, ground := Ground.textOnly Departure.lateStores }, { on := 12, ground := Ground.textOnly Departure.lateStoresUnsure }, { on := 13, ground := Ground.phase }], guard := none } : Oper)) rfl (fun K hK => ?_) AllReady.nil
            rw [if_pos (by rfl)]
            with_reducible refine wp_store_mid 27 (.tmp 127) (.tmp 122) ?_ g (q * 9) (y.cells).toArray ?_ ?_ (HR1.out.row.thereC (by have := HCL.out; omega) y) (info_credC _) (one_credC _) ?_
            · rfl
            · rfl
            · rfl
            refine hK _ _ ?_
            clear hK K
            simp only [Act.put, List.toList_toArray]
            refine wpAny_take (i := 16) (oi := ({ dst := some 128, op := Op.indexAddr 51 (Operand.tmp 115) (Operand.tmp 117), type := 0, pos := "zsortanyfunc.go:422", after := #[{ on := 2, ground := Ground.data }, { on := 4, ground := Ground.data }, { on := 0, ground := Ground.phase }, { on := 1, ground := Ground.phase }, { on := 2, ground := Ground.phase }, { on := 3, ground := Ground.phase }, { on := 4, ground := Ground.phase }, { on := 5, ground := Ground.phase }, { on := 6, ground := Ground.phase }, { on := 7, ground := Ground.phase }, { on := 8, ground := Ground.phase }, { on := 9, ground := Ground.phase }, { on := 10, ground := Ground.phase }, { on := 11, ground := Ground.phase }, { on := 12, ground := Ground.phase }, { on := 13, ground := Ground.phase }, { on := 14, ground := Ground.phase }, { on := 15, ground := Ground.phase }], guard := none } : Oper)) (v := (.pointer (some ⟨g, p * 9, none⟩))) rfl (by kernel_rfl) (by kernel_rfl) (by kernel_rfl) (fun _ _ _ h => h) (Or.inl ⟨by rfl, by intro w; go_simp⟩) ?_
            simp only [Act.put, List.setIfInBounds_toArray, List.set_cons_zero, List.set_cons_succ]
            refine wpAny_ready (rs := [17]) (by kernel_rfl) (by simp) ?_
            refine AllReady.cons (o := ({ dst := none, op := Op.store 27 (Operand.tmp 128) (Operand.tmp 126), type := 0, pos := "zsortanyfunc.go:422", after := #[{ on := 16, ground := Ground.data }, { on := 13, ground := Ground.data }, { on := 15, ground := Ground.chain }, { on := 0, ground := Ground.phase }, { on := 1, ground := Ground.phase }, { on := 2, ground := Ground.phase }, { on := 3, ground := Ground.phase }, { on := 4, ground := Ground.phase }, { on := 5, ground := Ground.phase }, { on := 6, ground := Ground.phase }, { on := 7, ground := Ground.phase }, { on := 8, ground := Ground.phase }, { on := 9, ground := Ground.phase }, { on := 10, ground := Ground.phase }, { on := 11, ground := Ground.phase }, { on := 12, ground := Ground.phase }, { on := 13, ground := Ground.phase }, { on := 14, ground := Ground.phase }, { on := 15, ground := Ground.phase }], guard := none } : Oper)) rfl (fun K hK => ?_) AllReady.nil
            rw [if_pos (by rfl)]
            with_reducible refine wp_store_mid 27 (.tmp 128) (.tmp 126) ?_ g (p * 9) (x.cells).toArray ?_ ?_ (HRs1.out.row.thereC (by rw [List.length_set]; have := HCL.out; omega) x) (info_credC _) (one_credC _) ?_
            · rfl
            · rfl
            · rfl
            refine hK _ _ ?_
            clear hK K
            simp only [Act.put, List.toList_toArray]
            refine wpAny_done (by kernel_rfl) ?_ _
            go_wp2
            go_roundw
            case rel => exact ⟨p, _, by first | rfl | rw [f1] | simp [f1], by have := HQ.out; omega, by have := HQ.out; omega, HRs2.out, HU2, HM2⟩
            case measure => simp [intOf]; have := HQ.out; omega
        · obtain rfl : i = q := by omega
          have hlt' : ¬ (i : Int) < (i : Int) := by omega
          go_wp2
          refine bodyPost_ret (results_none rfl _ _ _) rfl ?_
          exact ⟨rfl, c2, R, HMX.out, by rw [HM.out]; exact HU.out.srt hi HS.out HHIGH.out HLOW.out⟩
end Go.Proofs.YtkggagnaiiemlaaDoor.Sh
