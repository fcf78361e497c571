/-
  append of headers of no rows ('append(l, make([][]int, k)...)') to a list of the call's own; lists without empty ones at the end, made by and by.
-/
import Derived.Test.YtifoppnpgljphaaRePgG
import Derived.Laws.CopyRow
namespace Go.Proofs.Ytifoppnpgljphaa.Sh
open Go Go.RowKit

set_option linter.unusedSimpArgs false
set_option linter.unusedVariables false
theorem trimL_snoc_nil (l : List (List Int)) : trimL (l ++ [[]]) = trimL l := by
  induction l with
  | nil => rfl
  | cons x t ih =>
    show (match trimL (t ++ [[]]) with | [] => if x = [] then [] else [x] | y :: s => x :: y :: s) = (match trimL t with | [] => if x = [] then [] else [x] | y :: s => x :: y :: s)
    rw [ih]
theorem trimL_snoc_ne (l : List (List Int)) {x : List Int} (h : x ≠ []) : trimL (l ++ [x]) = l ++ [x] := by
  induction l with
  | nil => show (if x = [] then [] else [x]) = [x]; rw [if_neg h]
  | cons y t ih =>
    show (match trimL (t ++ [x]) with | [] => if y = [] then [] else [y] | z :: s => y :: z :: s) = y :: (t ++ [x])
    rw [ih]
    cases t <;> rfl
theorem trimL_pad (l : List (List Int)) : (trimL l).length ≤ l.length ∧ l = trimL l ++ List.replicate (l.length - (trimL l).length) [] := by
  induction l with
  | nil => exact ⟨Nat.le_refl _, rfl⟩
  | cons x t ih =>
    obtain ⟨h1, h2⟩ := ih
    have hd : trimL (x :: t) = (match trimL t with | [] => if x = [] then [] else [x] | y :: s => x :: y :: s) := rfl
    cases e : trimL t with
    | nil =>
      rw [e] at h1 h2 hd
      simp only [List.length_nil, Nat.sub_zero, List.nil_append] at h2
      by_cases hx : x = []
      · simp only [if_pos hx] at hd
        rw [hd]
        refine ⟨Nat.zero_le _, ?_⟩
        simp only [List.length_nil, Nat.sub_zero, List.nil_append, List.length_cons, List.replicate_succ]
        rw [hx, ← h2]
      · simp only [if_neg hx] at hd
        rw [hd]
        refine ⟨by simp, ?_⟩
        simp only [List.length_cons, List.length_nil, List.cons_append, List.nil_append]
        rw [show t.length + 1 - (0 + 1) = t.length by omega, ← h2]
    | cons y s =>
      rw [e] at h1 h2 hd
      simp only at hd
      rw [hd]
      refine ⟨by simp only [List.length_cons] at h1 ⊢; omega, ?_⟩
      simp only [List.length_cons, List.cons_append] at h1 h2 ⊢
      rw [show t.length + 1 - (s.length + 1 + 1) = t.length - (s.length + 1) by omega, ← h2]
def nilHd : Hd := ⟨none, 0, 0⟩
theorem zeroCells_nil (k : Nat) : (Builtin.zeroCells (Value.slice none 0 0).cells k).toList = ev encH (List.replicate k nilHd) := by
  rw [ev_hd]
  refine List.ext_getElem? fun i => ?_
  simp only [Builtin.zeroCells, Value.cells]
  by_cases h : i < k
  · simp [h, nilHd, Hd.val, Nat.mod_one]
  · simp [h]
theorem run_appZ {w : World} {B : Nat} {v : Value} {hs : List Hd} (hown : Own (E := encH) w B 30 v hs) (k : Nat) (hk : k ≤ 16) (hl : hs.length ≤ 16) (hB : B ≤ w.heap.size) (ty : TypeId) :
    ∃ A' c' w', (Builtin.append_ #[31, 3] ty #[v, .int .i64 (k : Int)]).run Try.prog w = .ok (.slice A' (hs.length + k) c') w' ∧ Own (E := encH) w' B 30 (.slice A' (hs.length + k) c') (hs ++ List.replicate k nilHd) ∧ w.grownBy w' v.ownBlock := by
  obtain ⟨i, hi, hz, hs1, hby⟩ := info_parts (P := Try.prog) (e := 30) (z := .slice none 0 0) (size := 1) (bytes := 24) (by kernel_rfl)
  have ht := Try.underlying31
  have htn := Try.underlying3
  have hwr : IntKind.i64.wrap (k : Int) = (k : Int) := wrap_in _ (by omega)
  have hneg : ¬ ((k : Int) < 0) := by omega
  have h48i : ¬ (281474976710656 < (k : Int) * 24) := by omega
  have hlen : (ev encH (hs ++ List.replicate k nilHd)).length = (hs.length + k) * encH.k := by rw [ev_length, List.length_append, List.length_replicate]
  have hzl : (ev encH (List.replicate k nilHd)).length = k := by rw [ev_length, List.length_replicate]; exact Nat.mul_one k
  have hevh : (ev encH hs).length = hs.length := by rw [ev_length]; exact Nat.mul_one _
  have hapl : (hs ++ List.replicate k nilHd).length = hs.length + k := by rw [List.length_append, List.length_replicate]
  rcases Nat.eq_zero_or_pos k with h0 | h0
  · subst h0
    obtain ⟨A, c, e, h1, h2, -⟩ := hown.els
    subst e
    refine ⟨A, c, w, ?_, by simpa using hown, World.grownBy.refl _ _⟩
    have hroom : hs.length ≤ c := h1
    have hw0 : IntKind.i64.wrap 0 = 0 := wrap_in 0 (by omega)
    cases A with
    | none => simp [Builtin.append_, run_underlying ht, run_underlying htn, sizeOf, typeInfo, zeroValue, hi, hz, hs1, hby, asInt, asIntOf, hw0, hroom]
    | some ad => simp [Builtin.append_, run_underlying ht, run_underlying htn, sizeOf, typeInfo, zeroValue, hi, hz, hs1, hby, asInt, asIntOf, hw0, hroom, storeCells]
  · have hns : ¬ (k * 1 = 0) := by omega
    obtain ⟨g0, hown2⟩ := hown
    have grown : ∀ (old : Nat) (A : Option Addr), old < hs.length + k → (Builtin.firstCells 1 hs.length (.slice A hs.length old)).run Try.prog w.drew = .ok (ev encH hs).toArray w.drew →
        ∃ A' c' w', (Builtin.append_ #[31, 3] ty #[.slice A hs.length old, .int .i64 (k : Int)]).run Try.prog w = .ok (.slice A' (hs.length + k) c') w' ∧ Own (E := encH) w' B 30 (.slice A' (hs.length + k) c') (hs ++ List.replicate k nilHd) ∧ ∀ row, w.grownBy w' row := fun old A ho hold => by
      have hr := Lib.run_append_grow_zeros w 31 3 ty 30 i (.slice none 0 0) .i64 .i64 ht htn hi hz A hs.length old (ev encH hs) (by rw [hs1]; exact hold) k h0 (by rw [hs1]; omega) ho (by omega) (by rw [hby]; omega) (growslice_fits (by omega) (by rw [hby]; omega))
      have hge := grownCap_ge w (hs.length + k) old 30
      have hcm := grownCap_le_maxLen w (hs.length + k) old 30 (by unfold maxLen; omega)
      refine ⟨_, _, _, hr, ⟨by rw [hlen, hapl], .inr ⟨w.heap.size, _, _, by rw [hapl], hB, heap_alloc_new w.drew _, by rw [hapl]; exact hge, hcm, ?_, ?_⟩⟩, fun row => ⟨rfl, rfl, rfl, by simp, fun b hb _ => heap_alloc_old w.drew _ hb⟩⟩
      · rw [Array.size_append, Array.size_append, size_zeroCells, size_zeroCells]
        simp only [Value.cells, List.size_toArray, hevh]
        simp [encH]
        omega
      · rw [hapl, Array.toList_append, Array.toList_append, zeroCells_nil, ev_append]
        rw [show (ev encH hs).toArray.toList = ev encH hs from rfl, show (hs.length + k) * encH.k = hs.length + k from Nat.mul_one _]
        rw [List.take_append_of_le_length (by rw [List.length_append, hzl, hevh]; exact Nat.le_refl _)]
        exact List.take_of_length_le (by rw [List.length_append, hzl, hevh]; exact Nat.le_refl _)
    rcases hown2 with ⟨rfl, hn0⟩ | ⟨g, cap, cur, rfl, hbg, hg, hnc, hcm, hcs, htake⟩
    · have hn : hs = [] := List.eq_nil_of_length_eq_zero hn0
      subst hn
      obtain ⟨A', c', w', h1, h2, h3⟩ := grown 0 none (by simpa using h0) (run_firstCells_none (P := Try.prog) (w := w.drew) 1 0 0 0)
      exact ⟨A', c', w', h1, h2, h3 _⟩
    · by_cases hroom : hs.length + k ≤ cap
      · have hcs1 : cur.size = cap := by rw [hcs]; exact Nat.mul_one _
        have hst := run_storeCells_at Try.prog g (hs.length * 1) 30 (ev encH (List.replicate k nilHd)) 0 cur w hg (by rw [hzl, hcs1]; omega) (ev_one encH _)
        simp only [Nat.add_zero, Nat.mul_one] at hst
        refine ⟨some ⟨g, 0, none⟩, cap, w.setRow g (cur.toList.take (hs.length) ++ ev encH (List.replicate k nilHd) ++ cur.toList.drop (hs.length + (ev encH (List.replicate k nilHd)).length)).toArray, ?_, ⟨by rw [hlen, hapl], .inr ⟨g, cap, _, by rw [hapl], hbg, setRow_heap w g cur _ 30 _ hg, by rw [hapl]; exact hroom, hcm, ?_, ?_⟩⟩, ⟨rfl, rfl, rfl, by simp, fun b _ hb => setRow_other w g b _ (fun e => hb (by simp [Value.ownBlock, e]))⟩⟩
        · have hk0 : k ≠ 0 := by omega
          have hzz : (Builtin.zeroCells #[Value.slice none 0 0] k).toList = ev encH (List.replicate k nilHd) := zeroCells_nil k
          simp [Builtin.append_, run_underlying ht, run_underlying htn, sizeOf, typeInfo, zeroValue, hi, hz, hs1, hby, asInt, asIntOf, hwr, hneg, hk0, h48i, hroom, Addr.add_lit, Value.cells, hzz, hst]
        · simp only [List.size_toArray, List.length_append, List.length_take, List.length_drop, Array.length_toList, hzl, hcs1]
          simp [encH]
          omega
        · rw [hapl, ev_append]
          have e1 : cur.toList.take hs.length = ev encH hs := by rw [← htake]; congr 1; exact (Nat.mul_one _).symm
          rw [e1]
          rw [show (hs.length + k) * encH.k = hs.length + k from Nat.mul_one _]
          rw [List.take_append_of_le_length (by rw [List.length_append, hzl, hevh]; exact Nat.le_refl _)]
          exact List.take_of_length_le (by rw [List.length_append, hzl, hevh]; exact Nat.le_refl _)
      · have holds : ∀ j u, (ev encH hs)[j]? = some u → w.drew.cell? ((⟨g, 0, none⟩ : Addr).add j) = some u := fun j u hu => (World.ownsRow.cells (w := w) (v := .slice (some ⟨g, 0, none⟩) hs.length cap) ⟨g0, .inr ⟨g, cap, cur, rfl, hbg, hg, hnc, hcm, hcs, htake⟩⟩ (g := g) rfl j u hu)
        obtain ⟨A', c', w', h1, h2, h3⟩ := grown cap (some ⟨g, 0, none⟩) (by omega) (run_firstCells_some (P := Try.prog) w.drew 1 hs.length ⟨g, 0, none⟩ hs.length cap (ev encH hs) (by rw [hevh]; omega) holds)
        exact ⟨A', c', w', h1, h2, h3 _⟩
theorem OwnLL.pad {w w' : World} {B m k c' : Nat} {A' : Option Addr} {v : Value} {ll : List (List Int)} {hh : List Hd} (h1 : Own (E := encH) w B 30 v hh) (h2 : hh.length = ll.length) (h3 : ∀ (i : Nat) (h : Hd) (l : List Int), hh[i]? = some h → ll[i]? = some l → l.length = h.n ∧ Own (E := encN) w B 3 h.val l)
    (hg : w.grownBy w' v.ownBlock) (hs : Own (E := encH) w' B 30 (.slice A' m c') (hh ++ List.replicate k nilHd)) : OwnLL w' B (.slice A' m c') (ll ++ List.replicate k []) := by
  have kept : ∀ {y : Hd} {k : List Int}, Own (E := encN) w B 3 y.val k → Own (E := encN) w' B 3 y.val k := fun q => q.keptBy hg fun g e => fun e2 => own_apartN q h1 (by decide) g e e2
  refine ⟨hh ++ List.replicate k nilHd, hs, by simp [h2], fun i y z hy hz => ?_⟩
  by_cases hi : i < hh.length
  · rw [List.getElem?_append_left hi] at hy
    rw [List.getElem?_append_left (by omega)] at hz
    obtain ⟨q1, q2⟩ := h3 i y z hy hz
    exact ⟨q1, kept q2⟩
  · rw [List.getElem?_append_right (by omega), List.getElem?_replicate] at hy
    rw [List.getElem?_append_right (by omega), List.getElem?_replicate] at hz
    split at hy
    · split at hz
      · injection hy with hy
        injection hz with hz
        subst hy; subst hz
        exact ⟨rfl, Own.nil _ _ _⟩
      · cases hz
    · cases hy
end Go.Proofs.Ytifoppnpgljphaa.Sh
