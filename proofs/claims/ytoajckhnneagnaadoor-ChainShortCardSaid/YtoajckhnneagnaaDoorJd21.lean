/-
  Pure parts of the document's own All: the least taken out again and again; how far rounds go. Nothing of the program's own text.
-/
import Derived.Test.YtoajckhnneagnaaDoorJd18
import Derived.Test.YtoajckhnneagnaaDoorJd19
import Derived.Test.YtoajckhnneagnaaDoorJd20
import Derived.Test.YtoajckhnneagnaaDoorJd3
set_option linter.unusedVariables false
set_option linter.unusedSimpArgs false
namespace Go.Proofs.YtoajckhnneagnaaDoor.Sh
open Go Go.RowKit

set_option linter.unusedVariables false
set_option linter.unusedSimpArgs false
theorem lessP_iff (a b : Pr) : lessP a b = true ↔ ltP a b := by
  obtain ⟨⟨o, n⟩, x⟩ := a
  obtain ⟨⟨o', n'⟩, x'⟩ := b
  unfold lessP ltP lt3
  simp only
  by_cases h : (o, n) = (o', n')
  · rw [if_pos h]
    obtain ⟨rfl, rfl⟩ := Prod.mk.inj h
    unfold bl
    simp [bl_irrefl]
  · rw [if_neg h, lessL_iff]
    constructor
    · rintro (h1 | ⟨h1, h2⟩)
      · exact .inl h1
      · exact .inr ⟨h1, .inl h2⟩
    · rintro (h1 | ⟨rfl, h1 | ⟨rfl, h1⟩⟩)
      · exact .inl h1
      · exact .inr ⟨rfl, h1⟩
      · exact absurd rfl h
theorem ltP_trans {a b c : Pr} (h : ltP a b) (k : ltP b c) : ltP a c := lt3_trans h k
theorem ltP_three (a b : Pr) : ltP a b ∨ a = b ∨ ltP b a := by
  rcases lt3_three a.1.1 a.1.2 a.2 b.1.1 b.1.2 b.2 with h | ⟨h1, h2, h3⟩ | h
  · exact .inl h
  · exact .inr (.inl (Prod.ext (Prod.ext h1 h2) h3))
  · exact .inr (.inr h)
structure SelP (l0 out now : List Pr) : Prop where
  mem : ∀ p, p ∈ l0 ↔ p ∈ out ∨ p ∈ now
  nd : now.Nodup
  srt : SortedP out
  bef : ∀ x ∈ out, ∀ y ∈ now, ltP x y
theorem cut_mem {l : List Pr} {m : Nat} {x : Pr} (hx : l[m]? = some x) (y : Pr) : y ∈ l ↔ y = x ∨ y ∈ l.take m ++ l.drop (m + 1) := by
  have h : l = l.take m ++ x :: l.drop (m + 1) := by
    obtain ⟨hm, rfl⟩ := List.getElem?_eq_some_iff.1 hx
    rw [← List.drop_eq_getElem_cons hm, List.take_append_drop]
  constructor
  · intro hy
    rw [h] at hy
    simp only [List.mem_append, List.mem_cons] at hy ⊢
    rcases hy with h1 | h1 | h1
    · exact .inr (.inl h1)
    · exact .inl h1
    · exact .inr (.inr h1)
  · intro hy
    rw [h]
    simp only [List.mem_append, List.mem_cons] at hy ⊢
    rcases hy with h1 | h1 | h1
    · exact .inr (.inl h1)
    · exact .inl h1
    · exact .inr (.inr h1)
theorem cut_nodup {l : List Pr} {m : Nat} {x : Pr} (hx : l[m]? = some x) (hn : l.Nodup) : (l.take m ++ l.drop (m + 1)).Nodup ∧ x ∉ l.take m ++ l.drop (m + 1) := by
  have h : l = l.take m ++ x :: l.drop (m + 1) := by
    obtain ⟨hm, rfl⟩ := List.getElem?_eq_some_iff.1 hx
    rw [← List.drop_eq_getElem_cons hm, List.take_append_drop]
  rw [h] at hn
  have h1 := (List.perm_middle (a := x) (l₁ := l.take m) (l₂ := l.drop (m + 1))).nodup_iff.1 hn
  exact ⟨(List.nodup_cons.1 h1).2, (List.nodup_cons.1 h1).1⟩
theorem SelP.step {l0 out now : List Pr} (h : SelP l0 out now) {m : Nat} {x : Pr} (hx : now[m]? = some x) (hl : ∀ y ∈ now, ¬ ltP y x) : SelP l0 (out ++ [x]) (now.take m ++ now.drop (m + 1)) := by
  have hxn : x ∈ now := List.mem_of_getElem? hx
  have hc := cut_mem hx
  obtain ⟨n1, n2⟩ := cut_nodup hx h.nd
  refine ⟨fun p => ?_, n1, ?_, fun a ha b hb => ?_⟩
  · rw [h.mem, hc, List.mem_append (s := out), List.mem_singleton]
    constructor
    · rintro (h1 | h1 | h1)
      · exact .inl (.inl h1)
      · exact .inl (.inr h1)
      · exact .inr h1
    · rintro ((h1 | h1) | h1)
      · exact .inl h1
      · exact .inr (.inl h1)
      · exact .inr (.inr h1)
  · unfold SortedP
    rw [List.pairwise_append]
    refine ⟨h.srt, by simp, fun a ha b hb => ?_⟩
    rw [List.mem_singleton] at hb
    subst hb
    exact h.bef a ha _ hxn
  · rcases List.mem_append.1 ha with ha | ha
    · exact h.bef a ha b ((hc b).2 (.inr hb))
    · rw [List.mem_singleton] at ha
      subst ha
      rcases ltP_three a b with h1 | h1 | h1
      · exact h1
      · subst h1; exact absurd hb n2
      · exact absurd h1 (hl b ((hc b).2 (.inr hb)))
theorem SelP.start {l0 : List Pr} (hn : l0.Nodup) : SelP l0 [] l0 := ⟨fun p => by simp, hn, List.Pairwise.nil, fun x hx => by simp at hx⟩
theorem SelP.done {l0 out : List Pr} (h : SelP l0 out []) : SortedP out ∧ ∀ p, p ∈ out ↔ p ∈ l0 := ⟨h.srt, fun p => by rw [h.mem]; simp⟩
def LeastP (l : List Pr) (i m : Nat) : Prop := m < i ∧ ∃ x, l[m]? = some x ∧ ∀ y ∈ l.take i, ¬ ltP y x
theorem ltP_irrefl (a : Pr) : ¬ ltP a a := lt3_irrefl _ _ _
theorem LeastP.start {l : List Pr} {x : Pr} (h : l[0]? = some x) : LeastP l 1 0 := by
  refine ⟨by omega, x, h, fun y hy => ?_⟩
  cases l with
  | nil => cases h
  | cons a t =>
    simp only [List.getElem?_cons_zero, Option.some.injEq] at h
    subst h
    simp at hy
    subst hy
    exact ltP_irrefl _
theorem LeastP.next {l : List Pr} {i m : Nat} {x y : Pr} (h : LeastP l i m) (hx : l[m]? = some x) (hy : l[i]? = some y) : LeastP l (i + 1) (if lessP y x = true then i else m) := by
  obtain ⟨hm, x', hx', hl⟩ := h
  obtain rfl : x' = x := by rw [hx'] at hx; exact Option.some.inj hx
  split
  · rename_i hlt
    rw [lessP_iff] at hlt
    refine ⟨by omega, y, hy, fun z hz hzy => ?_⟩
    rw [take_snoc_of hy, List.mem_append, List.mem_singleton] at hz
    rcases hz with hz | rfl
    · exact hl z hz (ltP_trans hzy hlt)
    · exact ltP_irrefl _ hzy
  · rename_i hlt
    rw [lessP_iff] at hlt
    refine ⟨by omega, x', hx', fun z hz => ?_⟩
    rw [take_snoc_of hy, List.mem_append, List.mem_singleton] at hz
    rcases hz with hz | rfl
    · exact hl z hz
    · exact hlt
theorem LeastP.done {l : List Pr} {n m : Nat} (h : LeastP l n m) (hn : l.length = n) : ∃ x, l[m]? = some x ∧ ∀ y ∈ l, ¬ ltP y x := by
  obtain ⟨_, x, hx, hl⟩ := h
  rw [List.take_of_length_le (by omega)] at hl
  exact ⟨x, hx, hl⟩
structure Within (cs : List Crd) (ws : List ByteArray) (l0 l : List Pr) : Prop where
  ext : ∃ x, l = l0 ++ x ∧ x.Nodup ∧ ∀ p ∈ x, p ∈ uniW cs ws
  who : ∀ p ∈ l, p.2 ∈ ws
theorem Within.start (cs : List Crd) {ws : List ByteArray} {l0 : List Pr} (h : ∀ p ∈ l0, p.2 ∈ ws) : Within cs ws l0 l0 := ⟨⟨[], by simp, List.nodup_nil, by simp⟩, h⟩
theorem Within.len {cs : List Crd} {ws : List ByteArray} {l0 l : List Pr} (h : Within cs ws l0 l) : l0.length ≤ l.length ∧ l.length ≤ l0.length + cs.length * ws.length := by
  classical
  obtain ⟨x, rfl, h1, h2⟩ := h.ext
  have := nodup_length h1 h2
  rw [uniW_length] at this
  rw [List.length_append]
  omega
theorem Within.nodup {cs : List Crd} {ws : List ByteArray} {l : List Pr} (h : Within cs ws [] l) : l.Nodup := by
  obtain ⟨x, rfl, h1, _⟩ := h.ext
  simpa using h1
theorem Within.next {cs : List Crd} {ws : List ByteArray} {l0 l out : List Pr} (hw : ∀ c ∈ cs, c.wh ∈ ws) (h : Within cs ws l0 l) (hr : Rnd cs l out) : Within cs ws l0 out := by
  obtain ⟨new, rfl, hn, hd, hm⟩ := hr
  obtain ⟨x, hx, h1, h2⟩ := h.ext
  have key : ∀ p ∈ new, p ∈ uniW cs ws ∧ p.2 ∈ ws := fun p hp => by
    rcases (hm p).1 (List.mem_append_right _ hp) with h3 | ⟨c, hc, h3⟩
    · exact absurd h3 (hd p hp)
    · exact brg_uni hw h.who hc h3
  refine ⟨⟨x ++ new, by rw [hx, List.append_assoc], ?_, fun p hp => ?_⟩, fun p hp => ?_⟩
  · exact List.nodup_append.2 ⟨h1, hn, fun a ha b hb e => by subst e; exact hd a hb (by rw [hx]; exact List.mem_append_right _ ha)⟩
  · rcases List.mem_append.1 hp with h3 | h3
    · exact h2 p h3
    · exact (key p h3).1
  · rcases List.mem_append.1 hp with h3 | h3
    · exact h.who p h3
    · exact (key p h3).2
theorem rounds_end {cs : List Crd} {l out : List Pr} (hi : ∀ p ∈ l, Imp (· ∈ cs) p) (hr : Rnd cs l out) (he : out.length = l.length) : ∀ p, p ∈ l ↔ Imp (· ∈ cs) p := fun p =>
  ⟨hi p, clos_imp (hr.same he).2⟩
end Go.Proofs.YtoajckhnneagnaaDoor.Sh
namespace Go.Proofs.YtoajckhnneagnaaDoor.Sh
open Go Go.RowKit

end Go.Proofs.YtoajckhnneagnaaDoor.Sh
namespace Go.Proofs.YtoajckhnneagnaaDoor.Sh
open Go Go.RowKit

set_option linter.unusedVariables false
set_option linter.unusedSimpArgs false
theorem brings_any (c : Crd) (hc : mayC c = true) (A : Option Addr) (l : List Pr) (n cap : Nat) (hn : l.length = n) (hm : n ≤ 1000000) (w : World) (h : Els encP w w.heap.size A l) :
    Calls Tryd.prog 47 #[.agg c.cells.toArray, .slice A n cap] w fun e w' => ∃ A' c' out, e = .returned (.slice A' out.length c') ∧ Own (E := encP) w' w.heap.size 47 (.slice A' out.length c') out ∧ Below w.heap.size w w' ∧ (∀ p, p ∈ out ↔ Brg c l p) ∧ out.length ≤ n * n + 1 := by
  obtain ⟨hk, h0, h1⟩ := may_kd hc
  obtain ⟨d, q, nm, kd, wh, ao, an, bo, bn⟩ := c
  simp only at hk h0 h1
  rcases hk with rfl | rfl | rfl | rfl
  · exact brings_mem d q nm wh ao an bo bn (by omega) (by omega) A l n cap hn hm w h
  · exact (brings_inc d q nm wh ao an bo bn (by omega) (by omega) A l n cap hn hm w h).mono fun e w' ⟨A', c', out, e1, e2, e3, e4, e5⟩ => ⟨A', c', out, e1, e2, e3, e4, by omega⟩
  · exact (brings_lnk d q nm wh ao an bo bn (by omega) (by omega) A l n cap hn hm w h).mono fun e w' ⟨A', c', out, e1, e2, e3, e4, e5⟩ => ⟨A', c', out, e1, e2, e3, e4, by omega⟩
  · exact (brings_bth d q nm wh ao an bo bn (by omega) (by omega) A l n cap hn hm w h).mono fun e w' ⟨A', c', out, e1, e2, e3, e4, e5⟩ => ⟨A', c', out, e1, e2, e3, e4, by omega⟩
def RndI (cs : List Crd) (l more out : List Pr) : Prop := ∃ new, out = l ++ new ∧ new.Nodup ∧ (∀ p ∈ new, p ∉ l) ∧ ∀ p, p ∈ out ↔ p ∈ l ∨ (∃ c ∈ cs, Brg c l p) ∨ p ∈ more
theorem RndI.start {l : List Pr} : RndI [] l [] l := ⟨[], by simp, List.nodup_nil, by simp, fun p => by simp⟩
theorem RndI.next {cs : List Crd} {l more out : List Pr} {x : Pr} (h : RndI cs l more out) : RndI cs l (more ++ [x]) (if x ∈ out then out else out ++ [x]) := by
  obtain ⟨new, rfl, h1, h2, h3⟩ := h
  by_cases hx : x ∈ l ++ new
  · rw [if_pos hx]
    refine ⟨new, rfl, h1, h2, fun p => ?_⟩
    rw [h3, List.mem_append, List.mem_singleton]
    constructor
    · rintro (h4 | h4 | h4)
      · exact .inl h4
      · exact .inr (.inl h4)
      · exact .inr (.inr (.inl h4))
    · rintro (h4 | h4 | h4 | rfl)
      · exact .inl h4
      · exact .inr (.inl h4)
      · exact .inr (.inr h4)
      · exact (h3 p).1 hx
  · rw [if_neg hx]
    simp only [List.mem_append, not_or] at hx
    refine ⟨new ++ [x], by rw [List.append_assoc], ?_, fun p hp => ?_, fun p => ?_⟩
    · exact List.nodup_append.2 ⟨h1, by simp, fun a ha b hb e => by rw [List.mem_singleton] at hb; subst hb; subst e; exact hx.2 ha⟩
    · rcases List.mem_append.1 hp with h4 | h4
      · exact h2 p h4
      · rw [List.mem_singleton] at h4; subst h4; exact hx.1
    · rw [List.mem_append, h3, List.mem_singleton, List.mem_append, List.mem_singleton]
      constructor
      · rintro ((h4 | h4 | h4) | h4)
        · exact .inl h4
        · exact .inr (.inl h4)
        · exact .inr (.inr (.inl h4))
        · exact .inr (.inr (.inr h4))
      · rintro (h4 | h4 | h4 | h4)
        · exact .inl (.inl h4)
        · exact .inl (.inr (.inl h4))
        · exact .inl (.inr (.inr h4))
        · exact .inr h4
theorem RndI.turn {cs : List Crd} {l more out : List Pr} {c : Crd} (h : RndI cs l more out) (hm : ∀ p, p ∈ more ↔ Brg c l p) : RndI (cs ++ [c]) l [] out := by
  obtain ⟨new, h0, h1, h2, h3⟩ := h
  refine ⟨new, h0, h1, h2, fun p => ?_⟩
  rw [h3, hm]
  constructor
  · rintro (h4 | ⟨c', hc', h4⟩ | h4)
    · exact .inl h4
    · exact .inr (.inl ⟨c', List.mem_append_left _ hc', h4⟩)
    · exact .inr (.inl ⟨c, by simp, h4⟩)
  · rintro (h4 | ⟨c', hc', h4⟩ | h4)
    · exact .inl h4
    · rcases List.mem_append.1 hc' with h5 | h5
      · exact .inr (.inl ⟨c', h5, h4⟩)
      · rw [List.mem_singleton] at h5; subst h5; exact .inr (.inr h4)
    · cases h4
theorem RndI.done {cs : List Crd} {l out : List Pr} (h : RndI cs l [] out) : Rnd cs l out := by
  obtain ⟨new, h0, h1, h2, h3⟩ := h
  exact ⟨new, h0, h1, h2, fun p => by rw [h3]; simp⟩
set_option maxHeartbeats 8000000 in
set_option maxRecDepth 100000 in
theorem round_any (C : Option Addr) (cs : List Crd) (nc cc : Nat) (hnc : cs.length = nc) (hmc : nc ≤ 100) (hmay : ∀ c ∈ cs, mayC c = true) (A : Option Addr) (l : List Pr) (n cap : Nat) (hn : l.length = n) (hm : n ≤ 1000) (w : World) (hc : Crs w w.heap.size C cs) (h : Els encP w w.heap.size A l) :
    Calls Tryd.prog 31 #[.slice C nc cc, .slice A n cap] w fun e w' => ∃ A' c' out, e = .returned (.slice A' out.length c') ∧ Own (E := encP) w' w.heap.size 47 (.slice A' out.length c') out ∧ Below w.heap.size w w' ∧ Rnd cs l out := by
  have HN := hid hn
  have HNC := hid hnc
  have HY := hid h
  have HC := hid hc
  have HM := hid hmay
  have HQ : Hid (n ≤ 1000 ∧ nc ≤ 100) := hid ⟨hm, hmc⟩
  have hl0 : ([] : List Pr).length + n ≤ 1000000000000 := by simp; omega
  clear hn hnc h hc hmay hm hmc
  go_enter Tryd.func31, Tryd.ntmps31
  go_wp2_with ((at_builtin; refine wpList_appL (E := encP) rfl slQ (.tmp 10) (.tmp 11) rfl (B := w.heap.size) (v := .slice none 0 0) (l := []) (Own.nil _ _ _) rfl (m := n) (c := cap) l rfl HN.out HY.out.reads hl0 (by omega) (Nat.le_refl _) ?_; intro A1 c1 w1 o1 g1 e1))
  have HO1 := hid o1
  have HB1 := hid ((Below.refl w.heap.size w).grown g1 (Nat.le_refl _) (fun k e => by cases e))
  clear o1 g1 e1
  simp only [List.length_nil, Nat.zero_add, List.nil_append] at HO1 ⊢
  go_loopw [5, 6] (fun v i wr => ∃ (A' : Option Addr) (c' j : Nat) (out : List Pr), v = .slice A' out.length c' ∧ i = .int .i64 (j : Int) ∧ j ≤ nc ∧ Hid (Own (E := encP) wr w.heap.size 47 (.slice A' out.length c') out) ∧ Hid (RndI (cs.take j) l [] out) ∧ Hid (out.length ≤ n + j * (n * n + 1)) ∧ Hid (Below w.heap.size w wr)) (fun _ i _ => nc - (intOf i).toNat)
  case atStart => exact ⟨A1, c1, 0, l, by rw [HN.out], rfl, Nat.zero_le _, hid (by rw [HN.out]; exact HO1.out), hid RndI.start, hid (by rw [HN.out]; omega), HB1⟩
  case round =>
    obtain ⟨A', c', j, out, rfl, rfl, hj, HOW, HRN, HOL, HB⟩ := hrel
    obtain ⟨wo, hwo⟩ : ∃ x, x = wr := ⟨_, rfl⟩
    subst hwo
    have hnc63 : nc ≤ 100 := HQ.out.2
    by_cases hlt : j < nc
    · obtain ⟨⟨d, q, nm, kd, wh, ao, an, bo, bn⟩, hx⟩ : ∃ x, cs[j]? = some x := ⟨_, List.getElem?_eq_getElem (by rw [HNC.out]; exact hlt)⟩
      have HX := hid hx
      obtain ⟨ad, aj, rfl, hab, ea, hbj, a0, a1, a2, a3, a4, a5, a6, a7, a8⟩ := (HC.out.below HB.out).get hx
      simp only at a0 a1 a2 a3 a4 a5 a6 a7 a8
      have hj0 : (0 : Int) ≤ (j : Int) := Int.natCast_nonneg _
      have hj1 : (j : Int) < (nc : Int) := by omega
      have HBR := hid (brings_any ⟨d, q, nm, kd, wh, ao, an, bo, bn⟩ (HM.out _ (List.mem_of_getElem? hx)) A l n cap HN.out (by have := HQ.out; omega) wo ((HY.out.below HB.out).more HB.out.size))
      unfold Crd.cells at HBR
      clear hx hab hbj
      go_wp2_with fail
      refine HBR.out.mono ?_
      rintro er w2 ⟨A2, c2, more, rfl, ho2, hb2, hm2, hl2⟩
      have HO2 := hid ho2
      have HB2 := hid hb2
      have HM2 := hid hm2
      have HL2 := hid hl2
      have HOW2 := hid (HOW.out.below hb2)
      have HBS := hid (Nat.le_trans HB.out.size hb2.size)
      have HE2 := hid (own_els ho2)
      obtain ⟨nm2, hnm2⟩ : ∃ k, more.length = k := ⟨_, rfl⟩
      have HNM := hid hnm2
      rw [hnm2]
      have hnm63 : nm2 ≤ 1000000000 := by
        have h1 := HL2.out
        have h2 := HQ.out.1
        have h3 : n * n ≤ 1000 * 1000 := Nat.mul_le_mul h2 h2
        omega
      clear HBR ho2 hb2 hm2 hl2 a0 a1 a2 a3 a4 a5 a6 a7 a8 hnm2
      go_wp2_with fail
      go_loopw [5, 8] (fun v i wr => ∃ (A3 : Option Addr) (c3 k : Nat) (out3 : List Pr), v = .slice A3 out3.length c3 ∧ i = .int .i64 (k : Int) ∧ k ≤ nm2 ∧ Hid (Own (E := encP) wr w.heap.size 47 (.slice A3 out3.length c3) out3) ∧ Hid (RndI (cs.take j) l (more.take k) out3) ∧ Hid (out3.length ≤ out.length + k) ∧ Hid (Below w.heap.size w wr) ∧ Hid (Els encP wr wr.heap.size A2 more ∧ (∀ ad, A2 = some ad → some ad.block ≠ (Value.slice A3 out3.length c3).ownBlock ∨ more = []))) (fun _ i _ => nm2 - (intOf i).toNat)
      case atStart => exact ⟨A', c', 0, out, rfl, rfl, Nat.zero_le _, HOW2, hid (by simpa using HRN.out), hid (Nat.le_refl _), hid (HB.out.trans (HB2.out.mono HB.out.size)), hid ⟨HE2.out, fun ad e => by
        rcases HO2.out.2 with ⟨h1, h2⟩ | ⟨g, cap, cur, hv, hb, hg, h3⟩
        · exact .inr (List.eq_nil_of_length_eq_zero h2)
        · refine .inl fun e2 => ?_
          simp only [Value.slice.injEq] at hv
          rw [hv.1] at e
          injection e with e
          subst e
          have := (HOW.out.lt g e2.symm).2
          omega⟩⟩
      case round =>
        obtain ⟨A3, c3, k, out3, rfl, rfl, hk, HO3, HR3, HL3, HB3, HE3⟩ := hrel
        by_cases hlt2 : k < nm2
        · obtain ⟨⟨⟨o2, n2⟩, y⟩, hx⟩ : ∃ x, more[k]? = some x := ⟨_, List.getElem?_eq_getElem (by rw [HNM.out]; exact hlt2)⟩
          have HX2 := hid hx
          obtain ⟨bd, bk, rfl, hbb, eb, hbk, b0, bi⟩ := HE3.out.1.get hx
          have b0 := b0 _ rfl
          have b1 := bi 1 _ (by omega) rfl
          have b2 := bi 2 _ (by omega) rfl
          have eb : bd.add (k * 3) = bk := eb
          have hk0 : (0 : Int) ≤ (k : Int) := Int.natCast_nonneg _
          have hk1 : (k : Int) < (nm2 : Int) := by omega
          have hlo : out3.length ≤ 1000000000 := by
            have h1 := HOL.out
            have h4 := HL3.out
            have h2 := HQ.out.1
            have h5 := HQ.out.2
            have h3 : n * n ≤ 1000 * 1000 := Nat.mul_le_mul h2 h2
            have h6 : j * (n * n + 1) ≤ 100 * (1000 * 1000 + 1) := Nat.mul_le_mul (by omega) (by omega)
            have h7 := HL2.out
            have h8 := HNM.out
            omega
          have HIN := hid (in_any A3 out3 out3.length c3 rfl hlo o2 n2 y wr (own_els HO3.out))
          have HK := hid (fun W (hW : Below wr.heap.size wr W) => (⟨(hW.cell (p := bk) (by rw [hbk]; exact hbb)).trans b0, (hW.cell (p := ⟨bk.block, bk.off + 1, none⟩) (by rw [hbk]; exact hbb)).trans b1, (hW.cell (p := ⟨bk.block, bk.off + 2, none⟩) (by rw [hbk]; exact hbb)).trans b2⟩ :
            W.cell? bk = some (.string o2) ∧ W.cell? ⟨bk.block, bk.off + 1, none⟩ = some (.string n2) ∧ W.cell? ⟨bk.block, bk.off + 2, none⟩ = some (.string y)))
          have HLO : Hid (out3.length ≤ 1000000000) := hid hlo
          have hbb4 : bd.block < wr.heap.size := hbb
          clear hx hbb hbk bi hlo
          go_wp2_with fail
          refine HIN.out.mono ?_
          rintro er w4 ⟨rfl, hb4⟩
          obtain ⟨k0, k1, k2⟩ := HK.out _ hb4
          have HB4 := hid hb4
          have HO4 := hid (HO3.out.below hb4)
          have HE4 := hid ((HE3.out.1.below hb4).more hb4.size)
          clear hb4 HIN b0 b1 b2
          have HNX := hid (HR3.out.next (x := ((o2, n2), y)))
          have HTK := hid (take_snoc_of HX2.out)
          by_cases hin : ((o2, n2), y) ∈ out3
          · rw [if_pos hin] at HNX
            rw [decide_eq_true hin]
            clear hin
            go_wp2_with fail
            go_roundw
            case rel => exact ⟨A3, c3, k + 1, out3, rfl, by go_num, by omega, HO4, hid (by rw [HTK.out]; exact HNX.out), hid (by have := HL3.out; omega), hid (HB3.out.trans (HB4.out.mono HB3.out.size)), hid ⟨HE4.out, HE3.out.2⟩⟩
            case measure => simp [intOf]; omega
          · rw [if_neg hin] at HNX
            rw [decide_eq_false hin]
            clear hin
            have hlen : out3.length ≤ 1000000000000 := by have := HLO.out; omega
            have HRD := hid (reads_new w4 #[.string o2, .string n2, .string y] 47 (0, 0))
            have HO5 := hid (HO4.out.alloc (.cells #[.string o2, .string n2, .string y] 47))
            have hbs : w.heap.size ≤ (w4.alloc (.cells #[.string o2, .string n2, .string y] 47)).heap.size := by rw [World.size_alloc]; have := HB3.out.size; have := HB4.out.size; omega
            have hmore : more ≠ [] := fun e => by have := HNM.out; rw [e] at this; simp at this; omega
            have HFAR : Hid (some bd.block ≠ (Value.slice A3 out3.length c3).ownBlock) := hid ((HE3.out.2 bd rfl).resolve_right hmore)
            have HBB : Hid (bd.block < w4.heap.size) := hid (Nat.lt_of_lt_of_le hbb4 HB4.out.size)
            have HW0 := hid (HB3.out.trans (HB4.out.mono HB3.out.size))
            have HW5 := hid (HW0.out.alloc HW0.out.size (.cells #[.string o2, .string n2, .string y] 47))
            clear hmore
            go_wp2_with ((at_builtin; refine wpList_app1 (E := encP) rfl slQ (.tmp 39) (.tmp 44) rfl (B := w.heap.size) (v := .slice A3 out3.length c3) (l := out3) HO5.out rfl (ad := ⟨w4.heap.size, 0, none⟩) (c := 1) ((o2, n2), y) rfl HRD.out hlen (by omega) hbs ?_; intro A5 c5 w5 o5 g5 e5))
            have HE6 : Hid (Els encP w5 w5.heap.size (some bd) more ∧ (∀ ad, some bd = some ad → some ad.block ≠ (Value.slice A5 (out3.length + 1) c5).ownBlock ∨ more = [])) := hid ⟨((HE4.out.below ((Below.refl w4.heap.size w4).alloc (Nat.le_refl _) (.cells #[.string o2, .string n2, .string y] 47))).keep (fun ad' e hb => by
                obtain rfl := Option.some.inj e
                exact g5.block _ (by rw [World.size_alloc]; have := HBB.out; omega) (fun e2 => HFAR.out e2))).more (by have := g5.size; rw [World.size_alloc] at this; omega), fun ad' e => by
                obtain rfl := Option.some.inj e
                refine .inl ?_
                rcases e5 with e2 | e2
                · rw [e2]; exact HFAR.out
                · rw [e2]; intro e3; injection e3 with e3; have := HBB.out; rw [World.size_alloc] at e3; omega⟩
            have HW6 := hid (HW5.out.grown g5 hbs (fun g e => (HO5.out.lt g e).1))
            have HO6 := hid o5
            clear g5 e5 o5
            go_wp2_with fail
            go_roundw
            case rel => exact ⟨A5, c5, k + 1, out3 ++ [((o2, n2), y)], by simp, by go_num, by omega, hid (by rw [List.length_append, List.length_singleton]; exact HO6.out), hid (by rw [HTK.out]; exact HNX.out), hid (by have := HL3.out; rw [List.length_append, List.length_singleton]; omega), HW6, hid (by rw [List.length_append, List.length_singleton]; exact HE6.out)⟩
            case measure => simp [intOf]; omega
        · obtain rfl : nm2 = k := by omega
          have e1 : more.take nm2 = more := List.take_of_length_le (by rw [HNM.out]; exact Nat.le_refl _)
          have HRT := HR3.out
          rw [e1] at HRT
          have HRT := hid (HRT.turn HM2.out)
          clear e1
          go_wp2
          go_roundw
          case rel => exact ⟨A3, c3, j + 1, out3, rfl, by go_num, by omega, HO3, hid (by rw [take_snoc_of HX.out]; exact HRT.out), hid (by have := HOL.out; have := HL3.out; have := HL2.out; have := HNM.out; rw [Nat.succ_mul]; omega), HB3⟩
          case measure => simp [intOf]; omega
    · obtain rfl : nc = j := by omega
      have e1 : cs.take nc = cs := List.take_of_length_le (by rw [HNC.out]; exact Nat.le_refl _)
      rw [e1] at HRN
      go_wp2
      go_ret
      exact ⟨A', c', out, rfl, HOW.out, HB.out, HRN.out.done⟩
end Go.Proofs.YtoajckhnneagnaaDoor.Sh
namespace Go.Proofs.YtoajckhnneagnaaDoor.Sh
open Go Go.RowKit

end Go.Proofs.YtoajckhnneagnaaDoor.Sh
