/-
  The document's own Few and Deep, by contract.
-/
import Derived.Test.YtfbapbpggicfbaaDoorJa10
import Derived.Test.YtfbapbpggicfbaaDoorJa9
set_option linter.unusedVariables false
set_option linter.unusedSimpArgs false
namespace Go.Proofs.YtfbapbpggicfbaaDoor.Sh
open Go Go.RowKit

set_option linter.unusedVariables false
set_option linter.unusedSimpArgs false

theorem deep_lt_size (p : PT) : p.deep < p.size := by
  induction p using PT.ind
  rename_i o n x d q A c ps ih
  rw [PT.deep_eq, PT.size_eq]
  have h := (deep_le_iff ps ((ps.map PT.size).sum : Int) (by omega)).2 (fun a ha => by
    have h1 := ih a ha
    obtain ⟨j, hj⟩ := List.getElem?_of_mem ha
    have h2 := sum_split hj
    omega)
  omega
set_option maxHeartbeats 4000000 in
theorem few7_any (p : PT) : ∀ (m : Nat) (w : World), m ≤ 1000 → PIn w w.heap.size p →
    Calls Tryd.prog 28 #[.agg p.cells.toArray, .int .i64 (m : Int)] w fun e w' => e = .returned (.int .i64 (if p.size ≤ m then (p.size : Int) else -1)) ∧ Below w.heap.size w w' := by
  induction p using PT.ind
  rename_i o n x d q A c ps ih
  intro m w hm hp
  have HIH := hid ih
  obtain ⟨S, hS⟩ : ∃ S, (PT.mk o n x d q A c ps).size = S := ⟨_, rfl⟩
  have HS : Hid (S = 1 + (ps.map PT.size).sum) := hid (by rw [← hS, PT.size_eq])
  rw [hS]
  obtain ⟨R, hR⟩ : ∃ R, (if S ≤ m then (S : Int) else -1) = R := ⟨_, rfl⟩
  have HRN : Hid (¬ S ≤ m → R = -1) := hid (fun h => by rw [← hR, if_neg h])
  have HRP : Hid (S ≤ m → R = S) := hid (fun h => by rw [← hR, if_pos h])
  rw [hR]
  obtain ⟨h1, h2, h3, h4⟩ := hp.open'
  obtain ⟨w1, hw1⟩ : ∃ w1, w1 = w.alloc (.cells (PT.mk o n x d q A c ps).cells.toArray 29) := ⟨_, rfl⟩
  have HQ1 : Hid (Below w.heap.size w w1) := hid (by rw [hw1]; exact below_pr w _)
  have HPA : Hid (PrAt w1 w.heap.size (.mk o n x d q A c ps)) := hid (by rw [hw1]; exact PrAt.new w _)
  have HPI := hid h4
  have HEL := hid (h3.below HQ1.out)
  obtain ⟨np, hnp⟩ : ∃ np, ps.length = np := ⟨_, rfl⟩
  have HNP := hid hnp
  have hnp63 : np ≤ 9223372036854775807 := by omega
  have HPA5 := hid (fun W (hW : Below w1.heap.size w1 W) => (HPA.out.kept hW).all)
  rw [hnp] at HPA5
  unfold PT.cells at hw1 ⊢
  simp only [hnp] at hw1 ⊢
  clear ih hp h1 h2 h3 h4 hnp hS hR
  have hm0 : (0 : Int) ≤ (m : Int) := by omega
  go_enter Tryd.func28, Tryd.ntmps28
  go_wp2_with fail
  rw [← hw1]
  clear hw1
  go_loopw [5, 6] (fun v i wr => ∃ s j : Nat, v = .int .i64 (s : Int) ∧ i = .int .i64 (j : Int) ∧ j ≤ np ∧ 1 ≤ s ∧ s ≤ 1001 ∧ Hid (s = 1 + ((ps.take j).map PT.size).sum) ∧ Hid (Below w1.heap.size w1 wr)) (fun _ i _ => np - (intOf i).toNat)
  case atStart => exact ⟨1, 0, rfl, rfl, Nat.zero_le _, by omega, by omega, hid (by simp), hid (Below.refl _ _)⟩
  case round =>
    obtain ⟨s, j, rfl, rfl, hj, hs1, hs2, HSU, HB⟩ := hrel
    obtain ⟨k0, k1, k2, k3, k4, k5⟩ := HPA5.out _ HB.out
    have hs0 : (1 : Int) ≤ (s : Int) := by omega
    by_cases hlt : j < np
    · by_cases hge : m ≤ s
      · have hgi : (m : Int) ≤ (s : Int) := by omega
        have HF : Hid (¬ S ≤ m) := hid (by
          have e1 := HS.out
          have e2 := HSU.out
          obtain ⟨a, ha⟩ : ∃ x, ps[j]? = some x := ⟨_, List.getElem?_eq_getElem (by rw [HNP.out]; exact hlt)⟩
          have e3 := sum_split ha
          have e4 := a.size_pos
          omega)
        have hj1 : (j : Int) < (np : Int) := by omega
        go_wp2_with fail
        go_ret
        exact ⟨by rw [HRN.out HF.out]; rfl, HQ1.out.trans (HB.out.mono HQ1.out.size)⟩
      · have hgi : ¬ (m : Int) ≤ (s : Int) := by omega
        obtain ⟨r, hr⟩ : ∃ r, m - s = r := ⟨_, rfl⟩
        have hri : (m : Int) - (s : Int) = (r : Int) := by omega
        have HR : Hid (s + r = m) := hid (by omega)
        obtain ⟨⟨o2, n2, x2, d2, q2, A2, c2, ps2⟩, hx⟩ : ∃ x, ps[j]? = some x := ⟨_, List.getElem?_eq_getElem (by rw [HNP.out]; exact hlt)⟩
        have HX := hid hx
        have HME : Hid (PT.mk o2 n2 x2 d2 q2 A2 c2 ps2 ∈ ps) := hid (List.mem_of_getElem? hx)
        obtain ⟨ad, aj, rfl, hab, ea, hbj, a0, a1, a2, a3, a4, a5⟩ := PIn.get (HEL.out.below (HB.out.mono HQ1.out.size)) hx
        have hj0 : (0 : Int) ≤ (j : Int) := Int.natCast_nonneg _
        have hj1 : (j : Int) < (np : Int) := by omega
        have HPN := hid (fun W (hW : Below w1.heap.size w1 W) => (HPI.out _ HME.out).now (HQ1.out.trans (hW.mono HQ1.out.size)))
        clear hx hab hbj
        have HCA := hid (HIH.out _ HME.out r wr (by omega) (HPN.out _ HB.out))
        unfold PT.cells at HCA
        simp only at HCA
        obtain ⟨z, hz⟩ : ∃ z, (PT.mk o2 n2 x2 d2 q2 A2 c2 ps2).size = z := ⟨_, rfl⟩
        have HZ := hid (sum_take HX.out)
        have HZ2 := hid (sum_split HX.out)
        rw [hz] at HCA HZ HZ2
        clear hz hr
        by_cases hzr : z ≤ r
        · rw [if_pos hzr] at HCA
          have hz0 : (0 : Int) ≤ (z : Int) := by omega
          have hzn : ¬ (z : Int) < 0 := by omega
          have hz1 : z ≤ 1000 := by have := HR.out; omega
          have hsz : ((s + z : Nat) : Int) = (s : Int) + (z : Int) := by omega
          obtain ⟨t, ht⟩ : ∃ t, s + z = t := ⟨_, rfl⟩
          have hst : (s : Int) + (z : Int) = (t : Int) := by omega
          have ht1 : t ≤ 1000 := by have := HR.out; omega
          have HT := hid ht
          clear hsz ht
          go_wp2_with fail
          refine HCA.out.mono ?_
          rintro er w3 ⟨rfl, hb3⟩
          have HB3 := hid (HB.out.trans (hb3.mono HB.out.size))
          clear hb3 HCA k0 k1 k2 k3 k4 k5 a0 a1 a2 a3 a4 a5
          go_wp2_with fail
          go_roundw
          case rel => exact ⟨t, j + 1, rfl, by go_num, by omega, by have := HT.out; omega, by omega, hid (by have := HZ.out; have := HSU.out; have := HT.out; omega), HB3⟩
          case measure => simp [intOf]; omega
        · rw [if_neg hzr] at HCA
          have HF : Hid (¬ S ≤ m) := hid (by have := HZ2.out; have := HSU.out; have := HS.out; have := HR.out; omega)
          go_wp2_with fail
          refine HCA.out.mono ?_
          rintro er w3 ⟨rfl, hb3⟩
          have HB3 := hid (HB.out.trans (hb3.mono HB.out.size))
          clear hb3 HCA k0 k1 k2 k3 k4 k5 a0 a1 a2 a3 a4 a5
          go_wp2_with fail
          go_ret
          exact ⟨by rw [HRN.out HF.out]; rfl, HQ1.out.trans (HB3.out.mono HQ1.out.size)⟩
    · obtain rfl : j = np := by omega
      have HE : Hid (s = S) := hid (by have e1 := HSU.out; rw [List.take_of_length_le (by rw [HNP.out]; exact Nat.le_refl _), ← HS.out] at e1; exact e1)
      by_cases hgt : m < s
      · have hgi : (m : Int) < (s : Int) := by omega
        go_wp2_with fail
        go_ret
        exact ⟨by rw [HRN.out (by rw [← HE.out]; omega)]; rfl, HQ1.out.trans (HB.out.mono HQ1.out.size)⟩
      · have hgi : ¬ (m : Int) < (s : Int) := by omega
        go_wp2_with fail
        go_ret
        exact ⟨by rw [HRP.out (by rw [← HE.out]; omega), ← HE.out]; rfl, HQ1.out.trans (HB.out.mono HQ1.out.size)⟩
theorem deep_step (l : List PT) (a : PT) : (l ++ [a]).foldl (fun n p => max n (p.deep + 1)) 0 = max (l.foldl (fun n p => max n (p.deep + 1)) 0) (a.deep + 1) := by
  rw [List.foldl_append]; rfl
set_option maxHeartbeats 4000000 in
theorem deep_any (p : PT) : ∀ (w : World), p.size ≤ 1000 → PIn w w.heap.size p →
    Calls Tryd.prog 29 #[.agg p.cells.toArray] w fun e w' => e = .returned (.int .i64 (p.deep : Int)) ∧ Below w.heap.size w w' := by
  induction p using PT.ind
  rename_i o n x d q A c ps ih
  intro w hm hp
  have HIH := hid ih
  rw [PT.size_eq] at hm
  have HM := hid hm
  obtain ⟨S, hS⟩ : ∃ S, (PT.mk o n x d q A c ps).deep = S := ⟨_, rfl⟩
  have HS : Hid (S = ps.foldl (fun n p => max n (p.deep + 1)) 0) := hid (by rw [← hS, PT.deep_eq])
  rw [hS]
  obtain ⟨h1, h2, h3, h4⟩ := hp.open'
  obtain ⟨w1, hw1⟩ : ∃ w1, w1 = w.alloc (.cells (PT.mk o n x d q A c ps).cells.toArray 29) := ⟨_, rfl⟩
  have HQ1 : Hid (Below w.heap.size w w1) := hid (by rw [hw1]; exact below_pr w _)
  have HPA : Hid (PrAt w1 w.heap.size (.mk o n x d q A c ps)) := hid (by rw [hw1]; exact PrAt.new w _)
  have HPI := hid h4
  have HEL := hid (h3.below HQ1.out)
  obtain ⟨np, hnp⟩ : ∃ np, ps.length = np := ⟨_, rfl⟩
  have HNP := hid hnp
  have hnp63 : np ≤ 9223372036854775807 := by omega
  have HPA5 := hid (fun W (hW : Below w1.heap.size w1 W) => (HPA.out.kept hW).all)
  rw [hnp] at HPA5
  unfold PT.cells at hw1 ⊢
  simp only [hnp] at hw1 ⊢
  clear ih hp h1 h2 h3 h4 hnp hS hm
  go_enter Tryd.func29, Tryd.ntmps29
  go_wp2_with fail
  rw [← hw1]
  clear hw1
  go_loopw [3, 4] (fun v i wr => ∃ s j : Nat, v = .int .i64 (s : Int) ∧ i = .int .i64 (j : Int) ∧ j ≤ np ∧ s ≤ 1001 ∧ Hid (s = (ps.take j).foldl (fun n p => max n (p.deep + 1)) 0) ∧ Hid (Below w1.heap.size w1 wr)) (fun _ i _ => np - (intOf i).toNat)
  case atStart => exact ⟨0, 0, rfl, rfl, Nat.zero_le _, by omega, hid (by simp), hid (Below.refl _ _)⟩
  case round =>
    obtain ⟨s, j, rfl, rfl, hj, hs2, HSU, HB⟩ := hrel
    obtain ⟨k0, k1, k2, k3, k4, k5⟩ := HPA5.out _ HB.out
    have hs0 : (0 : Int) ≤ (s : Int) := by omega
    by_cases hlt : j < np
    · obtain ⟨⟨o2, n2, x2, d2, q2, A2, c2, ps2⟩, hx⟩ : ∃ x, ps[j]? = some x := ⟨_, List.getElem?_eq_getElem (by rw [HNP.out]; exact hlt)⟩
      have HX := hid hx
      have HME : Hid (PT.mk o2 n2 x2 d2 q2 A2 c2 ps2 ∈ ps) := hid (List.mem_of_getElem? hx)
      obtain ⟨ad, aj, rfl, hab, ea, hbj, a0, a1, a2, a3, a4, a5⟩ := PIn.get (HEL.out.below (HB.out.mono HQ1.out.size)) hx
      have hj0 : (0 : Int) ≤ (j : Int) := Int.natCast_nonneg _
      have hj1 : (j : Int) < (np : Int) := by omega
      have HPN := hid (fun W (hW : Below w1.heap.size w1 W) => (HPI.out _ HME.out).now (HQ1.out.trans (hW.mono HQ1.out.size)))
      clear hx hab hbj
      have hz1000 : (PT.mk o2 n2 x2 d2 q2 A2 c2 ps2).size ≤ 1000 := by have e1 := HM.out; have e2 := sum_split HX.out; omega
      have HCA := hid (HIH.out _ HME.out wr hz1000 (HPN.out _ HB.out))
      unfold PT.cells at HCA
      simp only at HCA
      have hzd := deep_lt_size (PT.mk o2 n2 x2 d2 q2 A2 c2 ps2)
      obtain ⟨z, hz⟩ : ∃ z, (PT.mk o2 n2 x2 d2 q2 A2 c2 ps2).deep = z := ⟨_, rfl⟩
      have HT : Hid ((ps.take (j + 1)).foldl (fun n p => max n (p.deep + 1)) 0 = max s (z + 1)) := hid (by rw [take_snoc_of HX.out, deep_step, hz, ← HSU.out])
      rw [hz] at HCA hzd
      have hz1 : z ≤ 1000 := by omega
      have hz0 : (0 : Int) ≤ (z : Int) := by omega
      clear hz hzd hz1000
      by_cases hgt : s < z + 1
      · have hgi : (s : Int) < (z : Int) + 1 := by omega
        go_wp2_with fail
        refine HCA.out.mono ?_
        rintro er w3 ⟨rfl, hb3⟩
        have HB3 := hid (HB.out.trans (hb3.mono HB.out.size))
        clear hb3 HCA k0 k1 k2 k3 k4 k5 a0 a1 a2 a3 a4 a5
        go_wp2_with fail
        go_roundw
        case rel => exact ⟨z + 1, j + 1, by go_num, by go_num, by omega, by omega, hid (by rw [HT.out]; omega), HB3⟩
        case measure => simp [intOf]; omega
      · have hgi : ¬ (s : Int) < (z : Int) + 1 := by omega
        go_wp2_with fail
        refine HCA.out.mono ?_
        rintro er w3 ⟨rfl, hb3⟩
        have HB3 := hid (HB.out.trans (hb3.mono HB.out.size))
        clear hb3 HCA k0 k1 k2 k3 k4 k5 a0 a1 a2 a3 a4 a5
        go_wp2_with fail
        go_roundw
        case rel => exact ⟨s, j + 1, rfl, by go_num, by omega, hs2, hid (by rw [HT.out]; omega), HB3⟩
        case measure => simp [intOf]; omega
    · obtain rfl : j = np := by omega
      have HE : Hid (s = S) := hid (by have e1 := HSU.out; rw [List.take_of_length_le (by rw [HNP.out]; exact Nat.le_refl _), ← HS.out] at e1; exact e1)
      go_wp2_with fail
      go_ret
      exact ⟨by rw [← HE.out]; rfl, HQ1.out.trans (HB.out.mono HQ1.out.size)⟩
end Go.Proofs.YtfbapbpggicfbaaDoor.Sh
/-
  append to a row of the call's own, of one element and of many; rows that lie apart. Nothing of the program's own text.
-/
namespace Go.Proofs.YtfbapbpggicfbaaDoor.Sh
open Go Go.RowKit

set_option linter.unusedVariables false
set_option linter.unusedSimpArgs false
section
variable {α : Type} {E : Enc α} {P : Program} {w : World}
theorem wp_app1 {o : Oper} {a : Act} {K : Act → World → Prop} {Q : Exit → Act → World → Prop} {T S : TypeId} {bytes : Nat} (hT : SlN P T S E.k bytes) (s x : Operand)
    (ho : o.op = .call { callee := .builtin .append, args := #[s, x], argTypes := #[T, T] })
    {B : Nat} {v : Value} {l : List α} (hown : Own (E := E) w B S v l) (hs : a.eval s = v)
    {ad : Addr} {c : Nat} (y : α) (hx : a.eval x = .slice (some ad) 1 c) (hr : Reads w (some ad) (E.cells y))
    (hl : l.length ≤ 1000000000000) (hby : bytes ≤ 64) (hbase : B ≤ w.heap.size)
    (h : ∀ A' c' w', Own (E := E) w' B S (.slice A' (l.length + 1) c') (l ++ [y]) → w.grownBy w' v.ownBlock → ((Value.slice A' (l.length + 1) c').ownBlock = v.ownBlock ∨ (Value.slice A' (l.length + 1) c').ownBlock = some w.heap.size) → K (a.put o.dst (.slice A' (l.length + 1) c')) w') : o.wp P a w K Q := by
  have hm : (l.length + 1) * bytes ≤ (l.length + 1) * 64 := Nat.mul_le_mul_left _ hby
  obtain ⟨A', c', w', hrun, h2, h3, h4⟩ := run_appN (ty := o.type) hT hown (A := some ad) (m := 1) (c := c) (news := E.cells y) (by rw [E.len]; omega) hr (E.one y) (by omega) (by unfold maxLen; omega) hbase
  have h5 : Own (E := E) w' B S (.slice A' (l.length + 1) c') (l ++ [y]) := by
    unfold Own
    rw [ev_append, List.length_append, List.length_singleton]
    simpa [ev] using h2
  unfold Oper.wp execOp
  simp only [ho, resolve, invoke, builtin, Sem.run_bind, Sem.run_pure, Result.andThen_ok, List.map_toArray, List.map_cons, List.map_nil, hs, hx, hrun]
  exact h A' c' w' h5 h3 h4
theorem wpList_app1 {ops : Array Oper} {rest : List Oper} {o : Oper} {a : Act} {Q : Exit → Act → World → Prop} (hgd : o.guard = none) {T S : TypeId} {bytes : Nat} (hT : SlN P T S E.k bytes) (s x : Operand)
    (ho : o.op = .call { callee := .builtin .append, args := #[s, x], argTypes := #[T, T] })
    {B : Nat} {v : Value} {l : List α} (hown : Own (E := E) w B S v l) (hs : a.eval s = v)
    {ad : Addr} {c : Nat} (y : α) (hx : a.eval x = .slice (some ad) 1 c) (hr : Reads w (some ad) (E.cells y))
    (hl : l.length ≤ 1000000000000) (hby : bytes ≤ 64) (hbase : B ≤ w.heap.size)
    (h : ∀ A' c' w', Own (E := E) w' B S (.slice A' (l.length + 1) c') (l ++ [y]) → w.grownBy w' v.ownBlock → ((Value.slice A' (l.length + 1) c').ownBlock = v.ownBlock ∨ (Value.slice A' (l.length + 1) c').ownBlock = some w.heap.size) → wpList P ops Q rest (a.put o.dst (.slice A' (l.length + 1) c')) w') : wpList P ops Q (o :: rest) a w :=
  wpList_plain hgd fun _ hK => wp_app1 hT s x ho hown hs y hx hr hl hby hbase fun A' c' w' h2 h3 h4 => hK _ _ (h A' c' w' h2 h3 h4)
theorem step_app1 {ops : Array Oper} {o : Oper} {a : Act} {K : Act → World → Prop} {Q : Exit → Act → World → Prop} {F : Prop} (hgd : o.guard = none) {T S : TypeId} {bytes : Nat} (hT : SlN P T S E.k bytes) (s x : Operand)
    (ho : o.op = .call { callee := .builtin .append, args := #[s, x], argTypes := #[T, T] })
    {B : Nat} {v : Value} {l : List α} (hown : Own (E := E) w B S v l) (hs : a.eval s = v)
    {ad : Addr} {c : Nat} (y : α) (hx : a.eval x = .slice (some ad) 1 c) (hr : Reads w (some ad) (E.cells y))
    (hl : l.length ≤ 1000000000000) (hby : bytes ≤ 64) (hbase : B ≤ w.heap.size)
    (h : ∀ A' c' w', Own (E := E) w' B S (.slice A' (l.length + 1) c') (l ++ [y]) → w.grownBy w' v.ownBlock → ((Value.slice A' (l.length + 1) c').ownBlock = v.ownBlock ∨ (Value.slice A' (l.length + 1) c').ownBlock = some w.heap.size) → K (a.put o.dst (.slice A' (l.length + 1) c')) w') :
    if Region.wanted o (yielded ops a.tmps) = true then Oper.wp P o a w K Q else F := by
  have hw : Region.wanted o (yielded ops a.tmps) = true := by simp [Region.wanted, hgd]
  rw [if_pos hw]
  exact wp_app1 hT s x ho hown hs y hx hr hl hby hbase h
end
theorem Own.below {α : Type} {E : Enc α} {w w' : World} {B : Nat} {T : TypeId} {v : Value} {l : List α} (h : Own (E := E) w B T v l) (hb : Below w.heap.size w w') : Own (E := E) w' B T v l :=
  h.kept fun g e => hb.block g (h.lt g e).2
theorem own_els {α : Type} {E : Enc α} {w : World} {B n c : Nat} {T : TypeId} {A : Option Addr} {l : List α} (h : Own (E := E) w B T (.slice A n c) l) : Els E w w.heap.size A l := by
  obtain ⟨A', c', e, -, -, h'⟩ := h.els
  simp only [Value.slice.injEq] at e
  rw [e.1]
  exact h'
section
variable {α : Type} {E : Enc α} {w : World} {B : Nat} {A : Option Addr} {l : List α}
theorem Els.reads (h : Els E w B A l) : Reads w A (ev E l) := fun hn => by
  have hk := E.pos
  have : 0 < l.length := by
    rcases Nat.eq_zero_or_pos l.length with h0 | h0
    · rw [ev_length, h0, Nat.zero_mul] at hn; omega
    · exact h0
  obtain ⟨ad, e, _, hc⟩ := h this
  exact ⟨ad, e, hc⟩
theorem Els.head {hi : Nat} (h : Els E w B A l) : Els E w B A (l.take hi) := by
  intro hn
  simp only [List.length_take] at hn
  obtain ⟨ad, e, hb, hc⟩ := h (by omega)
  refine ⟨ad, e, hb, fun j x hx => hc j x ?_⟩
  rw [ev_take, List.getElem?_take] at hx
  split at hx
  · exact hx
  · cases hx
theorem ev_drop (l : List α) (n : Nat) : ev E (l.drop n) = (ev E l).drop (n * E.k) := by
  induction l generalizing n with
  | nil => simp [ev]
  | cons x t ih =>
    cases n with
    | zero => simp
    | succ n =>
      rw [List.drop_succ_cons, ev, ih, List.drop_append, E.len, List.drop_of_length_le (l := E.cells x) (by rw [E.len, Nat.add_mul]; omega), List.nil_append, show (n + 1) * E.k - E.k = n * E.k by rw [Nat.add_mul, Nat.one_mul]; omega]
/-- 's[lo:]'. -/
theorem Els.tail {lo cap : Nat} (h : Els E w B A l) (h3 : l.length ≤ cap) : Els E w B (if cap = lo then A else A.map (·.add (lo * E.k))) (l.drop lo) := by
  intro hn
  simp only [List.length_drop] at hn
  obtain ⟨ad, rfl, hb, hc⟩ := h (by omega)
  rw [if_neg (by omega)]
  refine ⟨ad.add (lo * E.k), rfl, by rw [block_add]; exact hb, fun j x hx => ?_⟩
  rw [add_add]
  refine hc _ x ?_
  rwa [ev_drop, List.getElem?_drop] at hx
/-- append of a whole list to a row of the call's own. -/
theorem wpList_appL {P : Program} {ops : Array Oper} {rest : List Oper} {o : Oper} {a : Act} {Q : Exit → Act → World → Prop} (hgd : o.guard = none) {T S : TypeId} {bytes : Nat} (hT : SlN P T S E.k bytes) (s x : Operand)
    (ho : o.op = .call { callee := .builtin .append, args := #[s, x], argTypes := #[T, T] })
    {v : Value} (hown : Own (E := E) w B S v l) (hs : a.eval s = v)
    {m c : Nat} (k : List α) (hx : a.eval x = .slice A m c) (hl : k.length = m) (hr : Reads w A (ev E k)) (hb : l.length + m ≤ 1000000000000) (hby : bytes ≤ 64) (hbase : B ≤ w.heap.size)
    (h : ∀ A' c' w', Own (E := E) w' B S (.slice A' (l.length + m) c') (l ++ k) → w.grownBy w' v.ownBlock → ((Value.slice A' (l.length + m) c').ownBlock = v.ownBlock ∨ (Value.slice A' (l.length + m) c').ownBlock = some w.heap.size) → wpList P ops Q rest (a.put o.dst (.slice A' (l.length + m) c')) w') : wpList P ops Q (o :: rest) a w := by
  have hm : (l.length + m) * bytes ≤ (l.length + m) * 64 := Nat.mul_le_mul_left _ hby
  refine wpList_appN hgd hT s x ho hown hs hx (by rw [ev_length, hl]) hr (ev_one E k) (by omega) (by unfold maxLen; omega) hbase rfl fun A' c' w' h2 h3 h4 => h A' c' w' ?_ h3 h4
  unfold Own
  rw [ev_append, List.length_append, hl]
  exact h2
end
section
variable {α : Type} {E : Enc α} {w w' : World} {B : Nat} {A : Option Addr} {l : List α} {v : Value} {T : TypeId}
theorem Els.far (h : Els E w B A l) (hB : B ≤ w.heap.size) (hg : w.grownBy w' v.ownBlock) (hf : FarV A v) : Els E w' B A l :=
  h.keep fun ad e hb => hg.block _ (by omega) (hf ad e)
theorem Own.keptBy {row : Option Nat} (h : Own (E := E) w B T v l) (hg : w.grownBy w' row) (ha : ∀ g, v.ownBlock = some g → row ≠ some g) : Own (E := E) w' B T v l :=
  h.kept fun g e => hg.block g (h.lt g e).2 (fun e2 => ha g e e2.symm)
theorem own_far {n c : Nat} (h : ∀ g, v.ownBlock = some g → (Value.slice A n c).ownBlock ≠ some g) : FarV A v := fun ad e e2 => by
  subst e
  exact h ad.block e2.symm rfl
end
theorem counts_mem {out l : List Crd} (h : CountsOf out l) {c : Crd} (hc : c ∈ out) : mayC c = true ∧ c ∈ l := by
  have h1 : c ∈ out.filter (idIs c.d c.q) := List.mem_filter.2 ⟨hc, by simp [idIs]⟩
  rw [h.2] at h1
  have h2 := List.mem_filter.1 (List.mem_of_mem_take h1)
  simp only [Bool.and_eq_true] at h2
  exact ⟨h2.2.2, h2.1⟩
theorem idIs_iff {c x : Crd} : idIs c.d c.q x = true ↔ x.d = c.d ∧ x.q = c.q := by unfold idIs; simp
/-- Of those of one ID there is at most one. -/
theorem counts_one {out l : List Crd} (h : CountsOf out l) {c : Crd} (hc : c ∈ out) : out.filter (idIs c.d c.q) = [c] := by
  have h1 : c ∈ out.filter (idIs c.d c.q) := List.mem_filter.2 ⟨hc, by simp [idIs]⟩
  have h2 : (out.filter (idIs c.d c.q)).length ≤ 1 := by rw [h.2, List.length_take]; omega
  match hf : out.filter (idIs c.d c.q), h1, h2 with
  | [x], h1, _ => rw [List.mem_singleton.1 h1]
/-- Those that count, in any order, count still. -/
theorem counts_back {out out2 l : List Crd} (h : CountsOf out l) (h2 : CountsOf out2 out.reverse) (c : Crd) : c ∈ out2 ↔ c ∈ out := by
  constructor
  · intro hc
    exact List.mem_reverse.1 (counts_mem h2 hc).2
  · intro hc
    have hm := (counts_mem h hc).1
    have h3 := h2.2 c.d c.q
    have h4 : out.reverse.filter (fun x => idIs c.d c.q x && mayC x) = [c] := by
      rw [List.filter_reverse, show (fun x => idIs c.d c.q x && mayC x) = (fun x => mayC x && idIs c.d c.q x) from funext fun x => Bool.and_comm _ _, ← List.filter_filter, counts_one h hc]
      simp [hm]
    rw [h4] at h3
    exact (List.mem_filter.1 (by rw [h3]; simp : c ∈ out2.filter (idIs c.d c.q))).1
/-- With more behind, those that count count still. -/
theorem counts_more {out out2 l more : List Crd} (h : CountsOf out l) (h2 : CountsOf out2 (l ++ more)) (c : Crd) (hc : c ∈ out) : c ∈ out2 := by
  have h1 := counts_one h hc
  rw [h.2] at h1
  have h3 := h2.2 c.d c.q
  rw [List.filter_append] at h3
  have h4 : ((l.filter fun x => idIs c.d c.q x && mayC x) ++ (more.filter fun x => idIs c.d c.q x && mayC x)).take 1 = [c] := by
    cases hf : (l.filter fun x => idIs c.d c.q x && mayC x) with
    | nil => rw [hf] at h1; cases h1
    | cons x t => rw [hf] at h1; simpa using h1
  rw [h4] at h3
  exact (List.mem_filter.1 (by rw [h3]; simp : c ∈ out2.filter (idIs c.d c.q))).1
theorem counts_len {out l : List Crd} (h : CountsOf out l) : out.length ≤ l.length := by
  have hn : out.Nodup := by
    have : ∀ (a : List Crd), (∀ c ∈ a, a.filter (idIs c.d c.q) = [c]) → a.Nodup := by
      intro a
      induction a with
      | nil => intro _; exact List.nodup_nil
      | cons x t ih =>
        intro ha
        have hx := ha x (by simp)
        rw [List.filter_cons_of_pos (by simp [idIs])] at hx
        have hx0 : t.filter (idIs x.d x.q) = [] := (List.cons.inj hx).2
        have hnot : ∀ c ∈ t, ¬ (c.d = x.d ∧ c.q = x.q) := fun c hc hh => by
          have : c ∈ t.filter (idIs x.d x.q) := List.mem_filter.2 ⟨hc, idIs_iff.2 hh⟩
          rw [hx0] at this
          cases this
        refine List.nodup_cons.2 ⟨fun hh => hnot x hh ⟨rfl, rfl⟩, ih fun c hc => ?_⟩
        have hc1 := ha c (by simp [hc])
        rwa [List.filter_cons_of_neg (by rw [idIs_iff]; intro hh; exact hnot c hc ⟨hh.1.symm, hh.2.symm⟩)] at hc1
    exact this out fun c hc => counts_one h hc
  classical
  exact nodup_length hn fun c hc => (counts_mem h hc).2
theorem may_kd {c : Crd} (h : mayC c = true) : (c.kd = 1 ∨ c.kd = 2 ∨ c.kd = 3 ∨ c.kd = 4) ∧ 1 ≤ c.d ∧ c.d ≤ 16 := by
  unfold mayC headOk kindOk at h
  simp only [Bool.and_eq_true, decide_eq_true_eq] at h
  refine ⟨?_, h.1.1.1, h.1.1.2.1⟩
  have h2 := h.2
  by_cases h1 : c.kd = 1
  · exact .inl h1
  · rw [if_neg h1] at h2
    simp only [Bool.and_eq_true] at h2
    have h3 := h2.2
    by_cases k2 : c.kd = 2
    · exact .inr (.inl k2)
    · rw [if_neg k2] at h3
      by_cases k3 : c.kd = 3
      · exact .inr (.inr (.inl k3))
      · rw [if_neg k3] at h3
        by_cases k4 : c.kd = 4
        · exact .inr (.inr (.inr k4))
        · rw [if_neg k4] at h3; cases h3
end Go.Proofs.YtfbapbpggicfbaaDoor.Sh
