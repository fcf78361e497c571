/-
  Bytes that may share their array with others: a side of the program's tape. append in one law: what it owns behind it, what another slice of the same array still reads.
-/
import Derived.Test.YtdigfbgjefffiaaBaQ
import Derived.Test.YtdigfbgjefffiaaTpMem
import Derived.Deep.AppendSrc
import Derived.Deep.Upon
namespace Go.Proofs.Ytdigfbgjefffiaa.Sh
open Go Go.RowKit

set_option linter.unusedSimpArgs false
set_option linter.unusedVariables false
/-- A slice of the first bytes of an array in blocks Q: with all of the array behind it, or with no room. -/
structure SdE (w : World) (Q : Nat → Prop) (A : Option Addr) (n c : Nat) (l : List UInt8) : Prop where
  len : l.length = n
  le : n ≤ c
  cm : c ≤ 9223372036854775807
  lie : (A = none ∧ c = 0) ∨ ∃ g cs, A = some ⟨g, 0, none⟩ ∧ Q g ∧ w.heap[g]? = some (.cells cs 5 (0, 0)) ∧ cs.toList.take n = bv l ∧ (c = n ∨ cs.size = c)
/-- v = (A, n, c) writes nothing over that (B, m, ..) reads: there is no room, or it is longer, or they lie apart. -/
def Fre (A : Option Addr) (n c : Nat) (B : Option Addr) (m : Nat) : Prop := c = n ∨ m ≤ n ∨ ∀ ad bd, A = some ad → B = some bd → ad.block ≠ bd.block
section
variable {w w' : World} {Q R X : Nat → Prop} {A B : Option Addr} {n m c d : Nat} {l k : List UInt8}
theorem SdE.nil : SdE w Q none 0 0 [] := ⟨rfl, Nat.le_refl _, by omega, .inl ⟨rfl, rfl⟩⟩
theorem SdE.kept (h : SdE w Q A n c l) (hk : ∀ b, Q b → b < w.heap.size → w'.heap[b]? = w.heap[b]?) : SdE w' Q A n c l :=
  ⟨h.len, h.le, h.cm, h.lie.imp id fun ⟨g, cs, e, hq, hg, r⟩ => ⟨g, cs, e, hq, (hk g hq (Array.getElem?_eq_some_iff.1 hg).1).trans hg, r⟩⟩
theorem SdE.imp (h : SdE w Q A n c l) (hq : ∀ b, Q b → b < w.heap.size → R b) : SdE w R A n c l :=
  ⟨h.len, h.le, h.cm, h.lie.imp id fun ⟨g, cs, e, hQ, hg, r⟩ => ⟨g, cs, e, hq g hQ (Array.getElem?_eq_some_iff.1 hg).1, hg, r⟩⟩
theorem SdE.byt (h : SdE w Q A n c l) : BytQ w Q A l := fun hn => by
  have hl := h.len
  rcases h.lie with ⟨-, h0⟩ | ⟨g, cs, e, hQ, hg, ht, -⟩
  · have := h.le; omega
  · refine ⟨_, e, hQ, (Array.getElem?_eq_some_iff.1 hg).1, fun j x hx => ?_⟩
    have e2 : (⟨g, 0, none⟩ : Addr).add j = ⟨g, j, none⟩ := by
      rcases Nat.eq_zero_or_pos j with e | e
      · subst e; rw [add_zero]
      · rw [add_pos _ j e]; simp
    rw [e2, cell_of_row w g j cs _ (0, 0) hg]
    have hv : (bv l)[j]? = some (.int .u8 (x.toNat : Int)) := by unfold bv; rw [List.getElem?_map, hx]; rfl
    rw [← ht, List.getElem?_take] at hv
    split at hv
    · simpa using hv
    · cases hv
theorem SdE.own {b : Nat} (h : OwnB w b (.slice A n c) n l) (hQ : ∀ g, b ≤ g → g < w.heap.size → Q g) : SdE w Q A n c l := by
  refine ⟨h.len, h.cap, h.cap_max, ?_⟩
  rcases h.2 with ⟨hv, h0⟩ | ⟨g, cap, cur, hv, hB, hb, hc, hM, hs, ht⟩
  · simp only [Value.slice.injEq] at hv
    exact .inl ⟨hv.1, hv.2.2⟩
  · simp only [Value.slice.injEq] at hv
    obtain ⟨rfl, -, rfl⟩ := hv
    exact .inr ⟨g, cur, rfl, hQ g hB (Array.getElem?_eq_some_iff.1 hb).1, hb, by rw [← ht, Nat.mul_one], .inr (by rw [hs, Nat.mul_one])⟩
/-- 's[:n:n]'. -/
theorem SdE.cut {j : Nat} (h : SdE w Q A n c l) (hj : j ≤ n) : SdE w Q A j j (l.take j) := by
  have hl := h.len
  have hc := h.cm
  have hn := h.le
  refine ⟨by rw [List.length_take]; omega, Nat.le_refl _, by omega, ?_⟩
  rcases h.lie with ⟨e, h0⟩ | ⟨g, cs, e, hQ, hg, ht, hcs⟩
  · exact .inl ⟨e, by omega⟩
  · refine .inr ⟨g, cs, e, hQ, hg, ?_, .inl rfl⟩
    have e3 : bv (l.take j) = (bv l).take j := by simp [bv, List.map_take]
    rw [e3, ← ht, List.take_take, Nat.min_eq_left hj]
theorem Fre.self : Fre A n c B n := .inr (.inl (Nat.le_refl _))
theorem Fre.full : Fre A n n B m := .inl rfl
end
theorem src_any {w : World} {X : Option Addr} {m d : Nat} {k : List UInt8} (hl : k.length = m) (hr : Reads w X (bv k)) : Src Try.prog 1 28 (.slice X m d) m (bv k) w := by
  rcases X with _ | ad
  · obtain rfl : m = 0 := by
      rcases Nat.eq_zero_or_pos m with h | h
      · exact h
      · obtain ⟨_, h, _⟩ := hr (by rw [bv_length]; omega)
        cases h
    obtain rfl : k = [] := List.eq_nil_of_length_eq_zero hl
    exact Src.ofNil w slB.und d
  · refine Src.ofSlice w slB.und ad m d (bv k) (by rw [bv_length, hl, Nat.mul_one]) (fun j u hu => ?_) (bv_one k)
    obtain ⟨_, h, hc⟩ := hr (Nat.lt_of_le_of_lt (Nat.zero_le _) (List.getElem?_eq_some_iff.1 hu).1)
    injection h with h
    subst h
    exact hc j u hu
/-- Behind an append of k to (A, n, c), which has l. -/
structure AppS (w w' : World) (Q : Nat → Prop) (A : Option Addr) (n c : Nat) (l k : List UInt8) (A' : Option Addr) (n' c' : Nat) : Prop where
  sd : SdE w' (fun g => Q g ∨ g = w.heap.size) A' n' c' (l ++ k)
  g : Grew w w' Q
  oth : ∀ {R : Nat → Prop} {B : Option Addr} {m d : Nat} {lu : List UInt8}, SdE w R B m d lu → Fre A n c B m → SdE w' R B m d lu ∧ Fre A' n' c' B m
theorem SdE.lt {w : World} {Q : Nat → Prop} {A : Option Addr} {n c : Nat} {l : List UInt8} (h : SdE w Q A n c l) : ∀ ad, A = some ad → ad.block < w.heap.size ∧ Q ad.block := fun ad e => by
  rcases h.lie with ⟨e2, -⟩ | ⟨g, cs, e2, hQ, hg, -⟩
  · rw [e] at e2; cases e2
  · rw [e] at e2; cases e2
    exact ⟨(Array.getElem?_eq_some_iff.1 hg).1, hQ⟩
/-- THE LAW. -/
theorem run_appS {w : World} {Q : Nat → Prop} {A X : Option Addr} {n c m d : Nat} {l k : List UInt8} {ty : TypeId} (h : SdE w Q A n c l) (hl : k.length = m) (hr : Reads w X (bv k)) (hb : n + m ≤ 70368744177664) :
    ∃ A' c' w', (Builtin.append_ #[28, 28] ty #[.slice A n c, .slice X m d]).run Try.prog w = .ok (.slice A' (n + m) c') w' ∧ AppS w w' Q A n c l k A' (n + m) c' := by
  obtain ⟨i, z, hi, hz, hs, hby, hzs⟩ := slB.info
  have hsrc := src_any (d := d) hl hr
  have hln := h.len
  have hle := h.le
  have hcm := h.cm
  by_cases hroom : n + m ≤ c
  · rcases h.lie with ⟨rfl, rfl⟩ | ⟨g, cs, rfl, hQ, hg, ht, hcs⟩
    · obtain rfl : m = 0 := by omega
      obtain rfl : n = 0 := by omega
      obtain rfl : k = [] := List.eq_nil_of_length_eq_zero hl
      have hrun := run_append_nothing (P := Try.prog) w 28 28 ty 5 i slB.und hi none 0 0 (Nat.le_refl _) (.slice X 0 d) (by rw [hs]; exact hsrc)
      refine ⟨none, 0, w, hrun, ⟨?_, Grew.refl _ _, fun hu hf => ⟨hu, hf⟩⟩⟩
      rw [List.append_nil]
      exact h.imp fun b hb _ => .inl hb
    · have hsz : n ≤ cs.size := by
        have e1 : (cs.toList.take n).length = l.length := by rw [ht, bv_length]
        rw [List.length_take, Array.length_toList] at e1
        omega
      have hfit : n * 1 + (bv k).length ≤ cs.size := by
        rw [bv_length]
        rcases hcs with e | e <;> omega
      rcases X with _ | ad
      · obtain rfl : m = 0 := by
          rcases Nat.eq_zero_or_pos m with h | h
          · exact h
          · obtain ⟨_, h, _⟩ := hr (by rw [bv_length]; omega)
            cases h
        obtain rfl : k = [] := List.eq_nil_of_length_eq_zero hl
        have hrun := run_append_nothing (P := Try.prog) w 28 28 ty 5 i slB.und hi (some ⟨g, 0, none⟩) n c hle (.slice none 0 d) (by rw [hs]; exact hsrc)
        refine ⟨_, c, w, hrun, ⟨?_, Grew.refl _ _, fun hu hf => ⟨hu, hf⟩⟩⟩
        rw [List.append_nil]
        exact h.imp fun b hb _ => .inl hb
      · have hc : ∀ j u, (bv k)[j]? = some u → w.cell? (ad.add j) = some u := fun j u hu => by
          obtain ⟨_, h, hc⟩ := hr (Nat.lt_of_le_of_lt (Nat.zero_le _) (List.getElem?_eq_some_iff.1 hu).1)
          injection h with h
          subst h
          exact hc j u hu
        have hrun := run_append_room (P := Try.prog) w 28 ty 5 i slB.und hi g n c cs hg ad m d (bv k) (by rw [bv_length, hs, hl, Nat.mul_one]) hc (bv_one k) hroom (by rw [hs]; exact hfit)
        rw [hs, Nat.mul_one] at hrun
        rw [Nat.mul_one] at hfit
        have hnew := setRow_heap w g cs (cs.toList.take n ++ bv k ++ cs.toList.drop (n + (bv k).length)).toArray 5 (0, 0) hg
        refine ⟨_, c, _, hrun, ⟨⟨by rw [List.length_append]; omega, hroom, hcm, .inr ⟨g, _, rfl, .inl hQ, hnew, ?_, ?_⟩⟩, ⟨rfl, rfl, rfl, by simp [World.setRow], fun b hb hq => setRow_other w g b _ (fun e => hq (e ▸ hQ))⟩, fun {R B mB dB lu} hu hf => ⟨⟨hu.len, hu.le, hu.cm, ?_⟩, ?_⟩⟩⟩
        · show (cs.toList.take n ++ bv k ++ _).take (n + m) = _
          rw [ht, ← bv_append, List.take_left' (by rw [bv_length, List.length_append]; omega)]
        · rcases hcs with e | e
          · left; omega
          · right
            rw [List.size_toArray, List.length_append, List.length_append, List.length_take, List.length_drop, Array.length_toList]
            rw [bv_length] at hfit ⊢
            omega
        · rcases hu.lie with h1 | ⟨g2, cs2, e2, hR, hg2, ht2, hc2⟩
          · exact .inl h1
          · by_cases hgg : g2 = g
            · subst hgg
              rw [hg] at hg2
              have hcc : cs = cs2 := by
                injection hg2 with e9
                injection e9
              subst hcc
              have hsz2 : mB ≤ cs.size := by
                have e1 : (cs.toList.take mB).length = lu.length := by rw [ht2, bv_length]
                have := hu.len
                rw [List.length_take, Array.length_toList] at e1
                omega
              refine .inr ⟨g2, _, e2, hR, hnew, ?_, ?_⟩
              · rw [← ht2]
                show (cs.toList.take n ++ bv k ++ cs.toList.drop (n + (bv k).length)).take mB = _
                rcases hf with e | e | e
                · have hm0 : m = 0 := by omega
                  have hk0 : k = [] := List.eq_nil_of_length_eq_zero (by omega)
                  subst hk0
                  show (cs.toList.take n ++ [] ++ cs.toList.drop (n + 0)).take mB = _
                  rw [List.append_nil, Nat.add_zero, List.take_append_drop]
                · rw [List.append_assoc, List.take_append_of_le_length (by rw [List.length_take, Array.length_toList]; omega), List.take_take, Nat.min_eq_left e]
                · exact absurd rfl (e _ _ rfl e2)
              · refine hc2.imp id fun e => ?_
                rw [List.size_toArray, List.length_append, List.length_append, List.length_take, List.length_drop, Array.length_toList]
                omega
            · exact .inr ⟨g2, cs2, e2, hR, (setRow_other w g g2 _ hgg).trans hg2, ht2, hc2⟩
        · rcases hf with e | e | e
          · exact .inl (by omega)
          · exact .inr (.inl (by omega))
          · exact .inr (.inr e)
  · have hold : (Builtin.firstCells i.size n (.slice A n c)).run Try.prog w.drew = .ok (bv l).toArray w.drew := by
      rw [hs]
      rcases A with _ | ad
      · rcases h.lie with ⟨-, e⟩ | ⟨g, cs, e, _⟩
        · obtain rfl : n = 0 := by omega
          obtain rfl : l = [] := List.eq_nil_of_length_eq_zero hln
          exact run_firstCells_none w.drew 1 0 0 c
        · cases e
      · refine run_firstCells_some w.drew 1 n ad n c (bv l) (by rw [bv_length]; omega) ?_
        intro j u hu
        obtain ⟨x, hx, rfl⟩ := bv_get hu
        obtain ⟨ad2, e, -, -, hc⟩ := h.byt (Nat.lt_of_le_of_lt (Nat.zero_le _) (List.getElem?_eq_some_iff.1 hx).1)
        injection e with e
        subst e
        exact hc j x hx
    have hrun := run_append_grow_src (P := Try.prog) w 28 28 ty 5 i z slB.und hi hz A n c (bv l) hold (.slice X m d) m (bv k) (by rw [hs]; exact hsrc) (by omega) (by omega) (growslice_fits (by omega) (by rw [hby]; omega))
    have hge := grownCap_ge w (n + m) c 5
    have hgm : grownCap w (n + m) c 5 ≤ maxLen := grownCap_le_maxLen w (n + m) c 5 (by unfold maxLen; omega)
    have hnew := heap_alloc_new w.drew (.cells ((bv l ++ bv k).toArray ++ Builtin.zeroCells z.cells (grownCap w (n + m) c 5 - (n + m))) 5)
    have hoth : ∀ b, b < w.heap.size → (w.drew.alloc (.cells ((bv l ++ bv k).toArray ++ Builtin.zeroCells z.cells (grownCap w (n + m) c 5 - (n + m))) 5)).heap[b]? = w.heap[b]? := fun b hb => heap_alloc_old w.drew _ hb
    refine ⟨_, _, _, hrun, ⟨⟨by rw [List.length_append]; omega, hge, by unfold maxLen at hgm; exact hgm, .inr ⟨w.heap.size, _, rfl, .inr rfl, hnew, ?_, .inr ?_⟩⟩, ⟨rfl, rfl, rfl, by simp, fun b hb _ => hoth b hb⟩, fun {R B mB dB lu} hu hf => ⟨⟨hu.len, hu.le, hu.cm, ?_⟩, ?_⟩⟩⟩
    · rw [Array.toList_append]
      show ((bv l ++ bv k) ++ _).take (n + m) = _
      rw [← bv_append, List.take_left' (by rw [bv_length, List.length_append]; omega)]
    · simp only [Array.size_append, List.size_toArray, List.length_append, size_zeroCells, hzs, bv_length, hln, hl]
      omega
    · refine hu.lie.imp id fun ⟨g2, cs2, e2, hR, hg2, r⟩ => ⟨g2, cs2, e2, hR, (hoth g2 (Array.getElem?_eq_some_iff.1 hg2).1).trans hg2, r⟩
    · refine .inr (.inr fun ad bd e1 e2 e3 => ?_)
      cases e1
      have := (hu.lt bd e2).1
      simp only at e3
      omega
theorem wpList_appS {ops : Array Oper} {rest : List Oper} {o : Oper} {a : Act} {w : World} {E : Exit → Act → World → Prop} (hgd : o.guard = none) (s x : Operand)
    (ho : o.op = .call { callee := .builtin .append, args := #[s, x], argTypes := #[28, 28] })
    {Q : Nat → Prop} {A : Option Addr} {n c : Nat} {l : List UInt8} (h : SdE w Q A n c l) (hs : a.eval s = .slice A n c)
    (X : Option Addr) (m d : Nat) (k : List UInt8) (hx : a.eval x = .slice X m d) (hl : k.length = m) (hr : Reads w X (bv k)) (hb : n + m ≤ 70368744177664) (n' : Nat) (hn : n + m = n')
    (hK : ∀ A' c' w', AppS w w' Q A n c l k A' n' c' → wpList Try.prog ops E rest (a.put o.dst (.slice A' n' c')) w') : wpList Try.prog ops E (o :: rest) a w := by
  subst hn
  refine wpList_plain hgd fun K hK2 => ?_
  obtain ⟨A', c', w', hrun, h2⟩ := run_appS (ty := o.type) h (X := X) (d := d) hl hr hb
  unfold Oper.wp execOp
  simp only [ho, resolve, invoke, builtin, Sem.run_bind, Sem.run_pure, Result.andThen_ok, List.map_toArray, List.map_cons, List.map_nil, hs, hx, hrun]
  exact hK2 _ _ (hK A' c' w' h2)
theorem step_appS {ops : Array Oper} {o : Oper} {a : Act} {w : World} {K : Act → World → Prop} {E : Exit → Act → World → Prop} {F : Prop} (hgd : o.guard = none) (s x : Operand)
    (ho : o.op = .call { callee := .builtin .append, args := #[s, x], argTypes := #[28, 28] })
    {Q : Nat → Prop} {A : Option Addr} {n c : Nat} {l : List UInt8} (h : SdE w Q A n c l) (hs : a.eval s = .slice A n c)
    (X : Option Addr) (m d : Nat) (k : List UInt8) (hx : a.eval x = .slice X m d) (hl : k.length = m) (hr : Reads w X (bv k)) (hb : n + m ≤ 70368744177664) (n' : Nat) (hn : n + m = n')
    (hK : ∀ A' c' w', AppS w w' Q A n c l k A' n' c' → K (a.put o.dst (.slice A' n' c')) w') :
    if Region.wanted o (yielded ops a.tmps) = true then Oper.wp Try.prog o a w K E else F := by
  have hw : Region.wanted o (yielded ops a.tmps) = true := by simp [Region.wanted, hgd]
  rw [if_pos hw]
  subst hn
  obtain ⟨A', c', w', hrun, h2⟩ := run_appS (ty := o.type) h (X := X) (d := d) hl hr hb
  unfold Oper.wp execOp
  simp only [ho, resolve, invoke, builtin, Sem.run_bind, Sem.run_pure, Result.andThen_ok, List.map_toArray, List.map_cons, List.map_nil, hs, hx, hrun]
  exact hK A' c' w' h2
end Go.Proofs.Ytdigfbgjefffiaa.Sh
