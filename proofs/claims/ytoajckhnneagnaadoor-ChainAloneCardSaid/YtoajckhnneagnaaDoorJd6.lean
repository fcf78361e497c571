/-
  A look-up in a map of rows, at the operation; what stays beside what add turns.
-/
import Derived.Test.YtoajckhnneagnaaDoorJd5
import Derived.Test.YtoajckhnneagnaaDoorJd2
import Derived.Test.YtoajckhnneagnaaDoorJd3
set_option linter.unusedVariables false
set_option linter.unusedSimpArgs false
namespace Go.Proofs.YtoajckhnneagnaaDoor.Sh
open Go Go.RowKit
open Go.Maps (Keyed)

section
variable {α κ : Type} {P : Program} {E : Enc α} {kT eT sT t : TypeId} {kl : κ → Lit} {ok : κ → Prop} {i B n n' b : Nat} {w w' : World} {col col' : Col} {G : κ → List α} {D : DataW Value}
theorem map_at (h : w.ownsMap P kT tokR b n D) (hb : w'.heap[b]? = w.heap[b]?) : w'.ownsMap P kT tokR b n D := by
  obtain ⟨es, clock, h1, r⟩ := h
  exact ⟨es, clock, hb.trans h1, r⟩
theorem Grp.look (h : Grp P E kT eT kl ok i B n b w col G) (K : Keyed P kT) (ht : P.underlying t = some (.map kT sT)) (hz : ∀ w, (zeroValue sT).run P w = .ok (.slice none 0 0) w) {k : κ} (hok : ok k) {key : Value} (hkey : keyOf P kT key = some (kl k)) :
    ∃ v, (∀ W : World, W.heap[b]? = w.heap[b]? → (Instr.lookup t (.map (some b)) key false).run P W = .ok v W) ∧ Own (E := E) w B eT v (G k) ∧ (G k).length ≤ n ∧ ∀ g, v.ownBlock = some g → col g = some (i + 10, kl k) := by
  obtain ⟨D, hD⟩ := h
  obtain ⟨v, e, h1, h2, h3⟩ := hD.val k hok
  refine ⟨v, fun W hW => ?_, h1, h2, h3⟩
  rcases map_cases (map_at hD.map hW) K ht (hz W) hkey false with ⟨h4, h5⟩ | ⟨u, h4, h5⟩
  · rw [h5]
    rw [h4] at e
    subst e
    rfl
  · rw [h5]
    rw [h4] at e
    subst e
    rfl
theorem own_sub {v : Value} {T : TypeId} {l : List α} (h : Own (E := E) w B T v l) {M : Nat → Prop} (hx : Ext M w w' col col') (hc : ∀ g, v.ownBlock = some g → ∀ c, col g = some c → ¬ M c.1) : Own (E := E) w' B T v l :=
  h.kept fun g hg => hx.block g (h.lt g hg).2 (hc g hg)
end
section
variable {w w' : World} {B sb b0 b1 b2 b3 b4 : Nat} {vF : Value} {col col' : Col} {s : St}
end
theorem foldl_take_succ {σ α : Type} (f : σ → α → σ) (s : σ) {l : List α} {k : Nat} {x : α} (h : l[k]? = some x) : (l.take (k + 1)).foldl f s = f ((l.take k).foldl f s) x := by
  rw [take_snoc_of h, List.foldl_append]; rfl
end Go.Proofs.YtoajckhnneagnaaDoor.Sh
namespace Go.Proofs.YtoajckhnneagnaaDoor.Sh
open Go Go.RowKit
open Go.Maps (Keyed)

section
variable {α κ : Type} [DecidableEq κ] {P : Program} {E : Enc α} {kT eT sT t : TypeId} {kl : κ → Lit} {ok : κ → Prop} {i B n n' b : Nat} {w w' : World} {col col' : Col} {G : κ → List α} {D : DataW Value}
theorem Grp.entry (hinj : ∀ k k', ok k → ok k' → kl k = kl k' → k = k') (h : Grp P E kT eT kl ok i B n b w col G) (K : WideMaps.KeyLaw P kT) (ht : P.underlying t = some (.map kT sT)) (hz : ∀ w, (zeroValue sT).run P w = .ok (.slice none 0 0) w) (hn : n < maxLen) {k : κ} (hok : ok k) {key : Value} (hkey : keyOf P kT key = some (kl k)) :
    ∃ v, Own (E := E) w B eT v (G k) ∧ (G k).length ≤ n ∧ (∀ g, v.ownBlock = some g → col g = some (i + 10, kl k)) ∧ ∀ W : World, W.heap[b]? = w.heap[b]? →
      ∃ (st : Int) (w1 : World), (Instr.mapEntry t (.map (some b)) key).run P W = .ok (.tuple #[v, .int .i64 st]) w1 ∧ W.grownBy w1 (some b) ∧ w1.heap.size = W.heap.size ∧
        ∀ (w2 : World) (v' : Value), w2.heap[b]? = w1.heap[b]? → ∃ w3, (Instr.entryStore t (.map (some b)) (.int .i64 st) v').run P w2 = .ok () w3 ∧ w2.grownBy w3 (some b) ∧ w3.heap.size = w2.heap.size ∧
          ∀ x, Own (E := E) w3 B eT v' (G k ++ [x]) → (∀ g, g < w.heap.size → g ≠ b → some g ≠ v.ownBlock → w3.heap[g]? = w.heap[g]?) → (v'.ownBlock = v.ownBlock ∨ ∃ g, v'.ownBlock = some g ∧ w.heap.size ≤ g) →
            Grp P E kT eT kl ok i B (n + 1) b w3 (paint col v' (i + 10, kl k)) (upd G k x) := by
  obtain ⟨D, hD⟩ := h
  obtain ⟨v, e, h1, h2, h3⟩ := hD.val k hok
  refine ⟨v, h1, h2, h3, fun W hW => ?_⟩
  obtain ⟨st, w1, r1, g1, z1, hst⟩ := map_entry (map_at hD.map hW) K ht hn hz hkey
  refine ⟨st, w1, by rw [r1, e]; rfl, g1, z1, fun w2 v' hw2 => ?_⟩
  obtain ⟨w3, r3, o3, g3, z3⟩ := hst w2 v' hw2
  exact ⟨w3, r3, g3, z3, fun x ho hf hl => hD.put hinj (Keyed.of_law K) hok hkey v e o3 ho hf hl⟩
end
def Mg (i j : Nat) : Prop := j = i ∨ j = i + 10
section
variable {w w' : World} {B sb b0 b1 b2 b3 b4 : Nat} {vF v v' : Value} {col : Col} {s : St} {z : Lit}
end
end Go.Proofs.YtoajckhnneagnaaDoor.Sh
namespace Go.Proofs.YtoajckhnneagnaaDoor.Sh
open Go Go.RowKit
open Go.Maps (Keyed)

def Kp (gs : List Nat) (w W : World) : Prop := ∀ g ∈ gs, W.heap[g]? = w.heap[g]?
section
variable {gs : List Nat} {w W W' : World}
theorem Kp.refl (gs : List Nat) (w : World) : Kp gs w w := fun _ _ => rfl
theorem Kp.drew (h : Kp gs w W) : Kp gs w W.drew := h
theorem Kp.grown {r : Option Nat} (h : Kp gs w W) (hg : W.grownBy W' r) (hl : ∀ g ∈ gs, g < W.heap.size) (hr : ∀ g ∈ gs, some g ≠ r) : Kp gs w W' := fun g hm => (hg.block g (hl g hm) (hr g hm)).trans (h g hm)
theorem Kp.alloc (h : Kp gs w W) (hl : ∀ g ∈ gs, g < W.heap.size) (o : Obj) : Kp gs w (W.alloc o) := fun g hm => ((MapKept.heap_alloc W o).2 g (hl g hm)).trans (h g hm)
theorem Reads.grown {A : Option Addr} {us : List Value} {r : Option Nat} (h : Reads W A us) (hg : W.grownBy W' r) (hA : ∀ ad, A = some ad → ad.block < W.heap.size ∧ some ad.block ≠ r) : Reads W' A us := fun hn => by
  obtain ⟨ad, e, hc⟩ := h hn
  refine ⟨ad, e, fun j u hu => ?_⟩
  rw [← hc j u hu]
  unfold World.cell?
  rw [block_add, hg.block _ (hA ad e).1 (hA ad e).2]
end
theorem loc_of {v' v : Value} {a b : Nat} (h : v'.ownBlock = v.ownBlock ∨ v'.ownBlock = some b) (hb : a ≤ b) : v'.ownBlock = v.ownBlock ∨ ∃ g, v'.ownBlock = some g ∧ a ≤ g := by
  rcases h with h | h
  · exact .inl h
  · exact .inr ⟨b, h, hb⟩
theorem own_behind {α : Type} {E : Enc α} {B b n : Nat} {T : TypeId} {w5 w6 : World} {v' v : Value} {l : List α} (h : Own (E := E) w5 B T v' l) (hg : w5.grownBy w6 (some b)) (hl : v'.ownBlock = v.ownBlock ∨ ∃ g, v'.ownBlock = some g ∧ n ≤ g)
    (hv : ∀ g, v.ownBlock = some g → g ≠ b) (hb : b < n) : Own (E := E) w6 B T v' l :=
  h.kept fun g e => hg.block g (h.lt g e).2 (by
    simp only [ne_eq, Option.some.injEq]
    intro e'
    rcases hl with q | ⟨g', q, q'⟩
    · exact hv g (q ▸ e) e'
    · rw [e] at q
      injection q with q
      omega)
end Go.Proofs.YtoajckhnneagnaaDoor.Sh
namespace Go.Proofs.YtoajckhnneagnaaDoor.Sh
open Go Go.RowKit
open Go.Maps (Keyed)

set_option linter.unusedSimpArgs false
set_option linter.unusedVariables false
def okC (c : Crd) : Prop := okB c.nm ∧ okB c.wh ∧ okB c.ao ∧ okB c.an ∧ okB c.bo ∧ okB c.bn
theorem ok_dom (d : Int) : okB (domB d) := Nat.le_trans (domB_size d) (by unfold maxLen; omega)
end Go.Proofs.YtoajckhnneagnaaDoor.Sh
namespace Go.Proofs.YtoajckhnneagnaaDoor.Sh
open Go Go.RowKit
open Go.Maps (Keyed)

set_option linter.unusedSimpArgs false
set_option linter.unusedVariables false
end Go.Proofs.YtoajckhnneagnaaDoor.Sh
namespace Go.Proofs.YtoajckhnneagnaaDoor.Sh
open Go Go.RowKit
open Go.Maps (Keyed)

set_option linter.unusedSimpArgs false
set_option linter.unusedVariables false
end Go.Proofs.YtoajckhnneagnaaDoor.Sh
namespace Go.Proofs.YtoajckhnneagnaaDoor.Sh
open Go Go.RowKit
open Go.Maps (Keyed)

set_option linter.unusedSimpArgs false
set_option linter.unusedVariables false
end Go.Proofs.YtoajckhnneagnaaDoor.Sh
namespace Go.Proofs.YtoajckhnneagnaaDoor.Sh
open Go Go.RowKit
open Go.Maps (Keyed)

set_option linter.unusedSimpArgs false
set_option linter.unusedVariables false
end Go.Proofs.YtoajckhnneagnaaDoor.Sh
namespace Go.Proofs.YtoajckhnneagnaaDoor.Sh
open Go Go.RowKit
open Go.Maps (Keyed)

end Go.Proofs.YtoajckhnneagnaaDoor.Sh
namespace Go.Proofs.YtoajckhnneagnaaDoor.Sh
open Go Go.RowKit
open Go.Maps (Keyed)

end Go.Proofs.YtoajckhnneagnaaDoor.Sh
namespace Go.Proofs.YtoajckhnneagnaaDoor.Sh
open Go Go.RowKit

section
variable {S : Crd → Prop} {X : ByteArray → Prop} {s : St} {q : Pr} {f0 : List Pr}
end

section
variable {w : World} {B sb b0 b1 b2 b3 b4 : Nat} {vF : Value} {col : Col} {s : St}
open Go.Maps (Keyed)
end
end Go.Proofs.YtoajckhnneagnaaDoor.Sh
namespace Go.Proofs.YtoajckhnneagnaaDoor.Sh
open Go Go.RowKit
open Go.Maps (Keyed)

set_option linter.unusedSimpArgs false
set_option linter.unusedVariables false
end Go.Proofs.YtoajckhnneagnaaDoor.Sh
namespace Go.Proofs.YtoajckhnneagnaaDoor.Sh
open Go Go.RowKit
open Go.Maps (Keyed)

set_option linter.unusedSimpArgs false
set_option linter.unusedVariables false
end Go.Proofs.YtoajckhnneagnaaDoor.Sh
namespace Go.Proofs.YtoajckhnneagnaaDoor.Sh
open Go Go.RowKit
open Go.Maps (Keyed)

end Go.Proofs.YtoajckhnneagnaaDoor.Sh
namespace Go.Proofs.YtoajckhnneagnaaDoor.Sh
open Go Go.RowKit
open Go.Maps (Keyed)

set_option linter.unusedSimpArgs false
set_option linter.unusedVariables false
section
variable {w : World} {B sb b0 b1 b2 b3 b4 : Nat} {vF : Value} {col : Col} {s : St}
end
end Go.Proofs.YtoajckhnneagnaaDoor.Sh
namespace Go.Proofs.YtoajckhnneagnaaDoor.Sh
open Go Go.RowKit
open Go.Maps (Keyed)

theorem grp_made {α κ : Type} (P : Program) (E : Enc α) (kT eT : TypeId) (kl : κ → Lit) (ok : κ → Prop) (i B b : Nat) (w : World) (col : Col) (hb : w.heap[b]? = some (.map #[] 0)) (hc : col b = some (i, .nil)) : Grp P E kT eT kl ok i B 0 b w col (fun _ => []) :=
  ⟨.map [], ⟨#[], 0, hb, ⟨by simp, MapKept.stamped_empty 0, by simp⟩, Nat.le_refl _, rfl⟩, hc, (fun z hz => by simp [Maps.has] at hz), fun k _ => .inl ⟨rfl, rfl⟩⟩
theorem okC_of {c : Crd} (h : mayC c = true) : okC c := by
  have := may_sizes h
  unfold okC okB maxLen
  omega
end Go.Proofs.YtoajckhnneagnaaDoor.Sh
namespace Go.Proofs.YtoajckhnneagnaaDoor.Sh
open Go Go.RowKit

def SameF (a b : List Crd) : Prop := ∀ d q, a.filter (idIs d q) = b.filter (idIs d q)
structure Mix (a b : Nat) (l l' : List Crd) : Prop where
  len : l'.length = l.length
  same : SameF l' l
  out : ∀ k, k < a ∨ b ≤ k → l'[k]? = l[k]?
  inn : ∀ k x, a ≤ k → k < b → l'[k]? = some x → ∃ j, a ≤ j ∧ j < b ∧ l[j]? = some x
def Srt (a b : Nat) (l : List Crd) : Prop := ∀ i j x y, a ≤ i → i < j → j < b → l[i]? = some x → l[j]? = some y → bef y x = false
theorem Mix.refl (a b : Nat) (l : List Crd) : Mix a b l l := ⟨rfl, fun _ _ => rfl, fun _ _ => rfl, fun k _ h1 h2 h => ⟨k, h1, h2, h⟩⟩
theorem Mix.trans {a b : Nat} {l l' l'' : List Crd} (h : Mix a b l l') (h' : Mix a b l' l'') : Mix a b l l'' :=
  ⟨h'.len.trans h.len, fun d q => (h'.same d q).trans (h.same d q), fun k hk => (h'.out k hk).trans (h.out k hk), fun k x h1 h2 hx => by
    obtain ⟨j, g1, g2, g3⟩ := h'.inn k x h1 h2 hx
    exact h.inn j x g1 g2 g3⟩
theorem Mix.wide {a b a' b' : Nat} {l l' : List Crd} (h : Mix a b l l') (ha : a' ≤ a) (hb : b ≤ b') : Mix a' b' l l' :=
  ⟨h.len, h.same, fun k hk => h.out k (by omega), fun k x h1 h2 hx => by
    by_cases hin : a ≤ k ∧ k < b
    · obtain ⟨j, g1, g2, g3⟩ := h.inn k x hin.1 hin.2 hx
      exact ⟨j, by omega, by omega, g3⟩
    · rw [h.out k (by omega)] at hx
      exact ⟨k, h1, h2, hx⟩⟩
theorem Srt.out {a b c d : Nat} {l l' : List Crd} (h : Srt c d l) (hm : Mix a b l l') (hd : d ≤ a ∨ b ≤ c) : Srt c d l' := fun i j x y h1 h2 h3 hx hy => by
  rw [hm.out i (by omega)] at hx
  rw [hm.out j (by omega)] at hy
  exact h i j x y h1 h2 h3 hx hy
theorem Srt.less {a b c d : Nat} {l : List Crd} (h : Srt a b l) (h1 : a ≤ c) (h2 : d ≤ b) : Srt c d l := fun i j x y g1 g2 g3 hx hy => h i j x y (by omega) g2 (by omega) hx hy
theorem Srt.one {a b : Nat} {l : List Crd} (h : b ≤ a + 1) : Srt a b l := fun i j _ _ _ _ _ => by omega
theorem Srt.full {l : List Crd} (h : Srt 0 l.length l) : Sd l := by
  unfold Sd
  rw [List.pairwise_iff_getElem]
  intro i j hi hj hij
  exact h i j _ _ (Nat.zero_le _) hij hj (List.getElem?_eq_getElem hi) (List.getElem?_eq_getElem hj)
theorem Mix.sorts {l l' : List Crd} (h : Mix 0 l.length l l') (hs : Srt 0 l.length l') : SortOf l' l := ⟨Srt.full (by rw [h.len]; exact hs), h.same⟩

theorem bef_id {x y : Crd} (h : bef y x = true) (d q : Int) : ¬ (idIs d q x = true ∧ idIs d q y = true) := fun ⟨h1, h2⟩ => by
  unfold idIs at h1 h2
  unfold bef at h
  simp only [decide_eq_true_eq] at h h1 h2
  omega
theorem same_swap (P X Y S : List Crd) (h : ∀ x ∈ X, ∀ y ∈ Y, bef y x = true) : SameF (P ++ Y ++ X ++ S) (P ++ X ++ Y ++ S) := fun d q => by
  have hxy : Y.filter (idIs d q) ++ X.filter (idIs d q) = X.filter (idIs d q) ++ Y.filter (idIs d q) := by
    cases hX : X.filter (idIs d q) with
    | nil => simp
    | cons x t =>
      cases hY : Y.filter (idIs d q) with
      | nil => simp
      | cons y s =>
        have hx : x ∈ X.filter (idIs d q) := by rw [hX]; simp
        have hy : y ∈ Y.filter (idIs d q) := by rw [hY]; simp
        rw [List.mem_filter] at hx hy
        exact absurd ⟨hx.2, hy.2⟩ (bef_id (h x hx.1 y hy.1) d q)
  simp only [List.filter_append, List.append_assoc]
  rw [← List.append_assoc (Y.filter _), hxy, List.append_assoc]
theorem mid_get {P X S : List Crd} {k : Nat} (h1 : P.length ≤ k) (h2 : k < P.length + X.length) : (P ++ X ++ S)[k]? = X[k - P.length]? := by
  rw [List.append_assoc, List.getElem?_append_right h1, List.getElem?_append_left (by omega)]
theorem mix_swap (P X Y S : List Crd) (h : ∀ x ∈ X, ∀ y ∈ Y, bef y x = true) : Mix P.length (P.length + X.length + Y.length) (P ++ X ++ Y ++ S) (P ++ Y ++ X ++ S) := by
  refine ⟨by simp; omega, same_swap P X Y S h, fun k hk => ?_, fun k x h1 h2 hx => ?_⟩
  · rcases hk with hk | hk
    · simp only [List.append_assoc]
      rw [List.getElem?_append_left hk, List.getElem?_append_left hk]
    · rw [List.getElem?_append_right (by simp; omega), List.getElem?_append_right (by simp; omega)]
      congr 1
      simp
      omega
  · rw [List.append_assoc P Y X, mid_get h1 (by rw [List.length_append]; omega)] at hx
    have hm : x ∈ X ++ Y := by
      rcases List.mem_append.1 (List.mem_of_getElem? hx) with h | h
      · exact List.mem_append.2 (.inr h)
      · exact List.mem_append.2 (.inl h)
    obtain ⟨j, hj⟩ := List.getElem?_of_mem hm
    have hjl := (List.getElem?_eq_some_iff.1 hj).1
    rw [List.length_append] at hjl
    refine ⟨P.length + j, by omega, by omega, ?_⟩
    rw [List.append_assoc P X Y, mid_get (by omega) (by rw [List.length_append]; omega), show P.length + j - P.length = j by omega]
    exact hj
theorem cut_two {l : List Crd} {k : Nat} {x y : Crd} (hx : l[k]? = some x) (hy : l[k + 1]? = some y) : l = l.take k ++ [x] ++ [y] ++ l.drop (k + 2) ∧ (l.take k).length = k := by
  have h1 := (List.getElem?_eq_some_iff.1 hx)
  have h2 := (List.getElem?_eq_some_iff.1 hy)
  obtain ⟨g1, e1⟩ := h1
  obtain ⟨g2, e2⟩ := h2
  refine ⟨?_, by rw [List.length_take]; omega⟩
  conv => lhs; rw [← List.take_append_drop k l, List.drop_eq_getElem_cons g1, List.drop_eq_getElem_cons g2, e1, e2]
  simp
theorem mix_adj {l : List Crd} {k : Nat} {x y : Crd} (hx : l[k]? = some x) (hy : l[k + 1]? = some y) (h : bef y x = true) : Mix k (k + 2) l ((l.set k y).set (k + 1) x) := by
  obtain ⟨e, hk⟩ := cut_two hx hy
  have hm := mix_swap (l.take k) [x] [y] (l.drop (k + 2)) (fun a ha b hb => by rw [List.mem_singleton.1 ha, List.mem_singleton.1 hb]; exact h)
  have e2 : (l.set k y).set (k + 1) x = l.take k ++ [y] ++ [x] ++ l.drop (k + 2) := by
    have hl := (List.getElem?_eq_some_iff.1 hy).1
    refine List.ext_getElem? fun t => ?_
    rw [List.getElem?_set, List.getElem?_set]
    simp only [List.append_assoc, List.cons_append, List.nil_append]
    by_cases h1 : k + 1 = t
    · subst h1
      rw [if_pos rfl, if_pos (by simp; omega), List.getElem?_append_right (by omega)]
      simp [hk]
    · rw [if_neg h1]
      by_cases h2 : k = t
      · subst h2
        rw [if_pos rfl, if_pos (by omega), List.getElem?_append_right (by omega)]
        simp [hk]
      · rw [if_neg h2]
        by_cases h3 : t < k
        · rw [List.getElem?_append_left (by omega), List.getElem?_take, if_pos h3]
        · rw [List.getElem?_append_right (by omega), hk]
          obtain ⟨u, rfl⟩ : ∃ u, t = k + 2 + u := ⟨t - (k + 2), by omega⟩
          rw [show k + 2 + u - k = u + 2 by omega]
          simp [List.getElem?_drop]
  rw [hk] at hm
  rw [← e, ← e2] at hm
  exact hm
theorem mix_adj' {l : List Crd} {k : Nat} {x y : Crd} (hx : l[k]? = some x) (hy : l[k + 1]? = some y) (h : bef y x = true) : Mix k (k + 2) l ((l.set (k + 1) x).set k y) := by
  rw [List.set_comm _ _ (by omega)]
  exact mix_adj hx hy h

structure Dn (l cur : List Crd) (j i : Nat) (x : Crd) : Prop where
  at_ : cur[j]? = some x
  mid : ∀ t, j < t → t ≤ i → cur[t]? = l[t - 1]?
  out : ∀ t, t < j ∨ i < t → cur[t]? = l[t]?
  len : cur.length = l.length
  le : j ≤ i
theorem Dn.start {l : List Crd} {i : Nat} {x : Crd} (h : l[i]? = some x) : Dn l l i i x := ⟨h, fun t h1 h2 => by omega, fun _ _ => rfl, rfl, Nat.le_refl _⟩
theorem Dn.step {l cur : List Crd} {j i : Nat} {x y : Crd} (h : Dn l cur (j + 1) i x) (hy : cur[j]? = some y) : Dn l ((cur.set (j + 1) y).set j x) j i x := by
  have h1 := (List.getElem?_eq_some_iff.1 h.at_).1
  have h2 := (List.getElem?_eq_some_iff.1 hy).1
  have hle := h.le
  refine ⟨?_, fun t g1 g2 => ?_, fun t g => ?_, by simp [h.len], by omega⟩
  · rw [List.getElem?_set, if_pos rfl, if_pos (by rw [List.length_set]; omega)]
  · rw [List.getElem?_set, if_neg (by omega), List.getElem?_set]
    by_cases e : j + 1 = t
    · subst e
      rw [if_pos rfl, if_pos (by omega), ← hy, h.out j (.inl (by omega))]
      rfl
    · rw [if_neg e, h.mid t (by omega) g2]
  · rw [List.getElem?_set, if_neg (by omega), List.getElem?_set, if_neg (by omega), h.out t (by omega)]
theorem Dn.ahead {l cur : List Crd} {j i : Nat} {x : Crd} (h : Dn l cur j i x) {t : Nat} (ht : t < j) : cur[t]? = l[t]? := h.out t (.inl ht)
theorem Dn.srt {l cur : List Crd} {a j i : Nat} {x : Crd} (h : Dn l cur j i x) (ha : a ≤ j) (hs : Srt a i l) (h1 : ∀ t y, j ≤ t → t < i → l[t]? = some y → bef x y = true) (h2 : ∀ t y, a ≤ t → t < j → l[t]? = some y → bef x y = false) : Srt a (i + 1) cur := by
  intro p q u v g1 g2 g3 hu hv
  have hle := h.le
  rcases Nat.lt_trichotomy p j with hp | hp | hp
  · rw [h.out p (.inl hp)] at hu
    rcases Nat.lt_trichotomy q j with hq | hq | hq
    · rw [h.out q (.inl hq)] at hv
      exact hs p q u v g1 g2 (by omega) hu hv
    · subst hq
      rw [h.at_] at hv
      injection hv with hv
      subst hv
      exact h2 p u g1 hp hu
    · rw [h.mid q hq (by omega)] at hv
      exact hs p (q - 1) u v g1 (by omega) (by omega) hu hv
  · subst hp
    rw [h.at_] at hu
    injection hu with hu
    subst hu
    rw [h.mid q g2 (by omega)] at hv
    exact bef_asymm (h1 (q - 1) v (by omega) (by omega) hv)
  · rw [h.mid p hp (by omega)] at hu
    rw [h.mid q (by omega) (by omega)] at hv
    exact hs (p - 1) (q - 1) u v (by omega) (by omega) (by omega) hu hv

structure Up (l cur : List Crd) (a k : Nat) (x : Crd) : Prop where
  at_ : cur[k]? = some x
  mid : ∀ t, a ≤ t → t < k → cur[t]? = l[t + 1]?
  out : ∀ t, t < a ∨ k < t → cur[t]? = l[t]?
  len : cur.length = l.length
  le : a ≤ k
theorem Up.start {l : List Crd} {a : Nat} {x : Crd} (h : l[a]? = some x) : Up l l a a x := ⟨h, fun t h1 h2 => by omega, fun _ _ => rfl, rfl, Nat.le_refl _⟩
theorem Up.step {l cur : List Crd} {a k : Nat} {x y : Crd} (h : Up l cur a k x) (hy : cur[k + 1]? = some y) : Up l ((cur.set k y).set (k + 1) x) a (k + 1) x := by
  have h1 := (List.getElem?_eq_some_iff.1 hy).1
  have hle := h.le
  refine ⟨?_, fun t g1 g2 => ?_, fun t g => ?_, by simp [h.len], by omega⟩
  · rw [List.getElem?_set, if_pos rfl, if_pos (by rw [List.length_set]; omega)]
  · rw [List.getElem?_set, if_neg (by omega), List.getElem?_set]
    by_cases e : k = t
    · subst e
      rw [if_pos rfl, if_pos (by omega), ← hy, h.out (k + 1) (.inr (by omega))]
    · rw [if_neg e, h.mid t g1 (by omega)]
  · rw [List.getElem?_set, if_neg (by omega), List.getElem?_set, if_neg (by omega), h.out t (by omega)]
theorem Up.srt {l cur : List Crd} {a k b : Nat} {x : Crd} (h : Up l cur a k x) (hkb : k < b) (hs : Srt (a + 1) b l) (h1 : ∀ t y, a < t → t ≤ k → l[t]? = some y → bef y x = true) (h2 : ∀ t y, k < t → t < b → l[t]? = some y → bef y x = false) : Srt a b cur := by
  intro p q u v g1 g2 g3 hu hv
  have hle := h.le
  rcases Nat.lt_trichotomy p k with hp | hp | hp
  · rw [h.mid p g1 hp] at hu
    rcases Nat.lt_trichotomy q k with hq | hq | hq
    · rw [h.mid q (by omega) hq] at hv
      exact hs (p + 1) (q + 1) u v (by omega) (by omega) (by omega) hu hv
    · subst hq
      rw [h.at_] at hv
      injection hv with hv
      subst hv
      exact bef_asymm (h1 (p + 1) u (by omega) (by omega) hu)
    · rw [h.out q (.inr hq)] at hv
      exact hs (p + 1) q u v (by omega) (by omega) g3 hu hv
  · subst hp
    rw [h.at_] at hu
    injection hu with hu
    subst hu
    rw [h.out q (.inr g2)] at hv
    exact h2 q v g2 g3 hv
  · rw [h.out p (.inr hp)] at hu
    rw [h.out q (.inr (by omega))] at hv
    exact hs p q u v (by omega) g2 g3 hu hv
end Go.Proofs.YtoajckhnneagnaaDoor.Sh
namespace Go.Proofs.YtoajckhnneagnaaDoor.Sh
open Go Go.RowKit

def RowL (w : World) (g : Nat) (tl : List Value) (l : List Crd) : Prop := w.heap[g]? = some (.cells (cv l ++ tl).toArray 55 (0, 0))
theorem set_cells (g : Nat) (t : TypeId) : ∀ (vs us P Q : List Value) (w : World), us.length = vs.length → w.heap[g]? = some (.cells (P ++ us ++ Q).toArray t (0, 0)) → (w.setCells g P.length vs).heap[g]? = some (.cells (P ++ vs ++ Q).toArray t (0, 0))
  | [], us, P, Q, w, hl, h => by
    obtain rfl : us = [] := List.eq_nil_of_length_eq_zero hl
    exact h
  | v :: r, [], P, Q, w, hl, h => by simp at hl
  | v :: r, u :: s, P, Q, w, hl, h => by
    have h1 : (w.setCell ⟨g, P.length, none⟩ v).heap[g]? = some (.cells ((P ++ [v]) ++ s ++ Q).toArray t (0, 0)) := by
      have := heap_setCell_same w g P.length _ _ v h
      rw [this]
      congr 2
      simp
    have := set_cells g t r s (P ++ [v]) Q (w.setCell ⟨g, P.length, none⟩ v) (by simpa using hl) h1
    rw [List.length_append, List.length_singleton] at this
    rw [World.setCells]
    rw [this]
    congr 2
    simp
section
variable {w w' : World} {g j : Nat} {tl : List Value} {l : List Crd} {x : Crd}
theorem RowL.lt (h : RowL w g tl l) : g < w.heap.size := (Array.getElem?_eq_some_iff.1 h).1
theorem RowL.kept (h : RowL w g tl l) (hb : Below w.heap.size w w') : RowL w' g tl l := (hb.block g h.lt).trans h
theorem RowL.f (h : RowL w g tl l) (k : Nat) : w.frozen? ⟨g, k, none⟩ = false := frozen_of_row w g k _ _ h
theorem RowL.cell (h : RowL w g tl l) (hj : l[j]? = some x) {i : Nat} {v : Value} (hv : x.cells[i]? = some v) : w.cell? ⟨g, j * 9 + i, none⟩ = some v := by
  have hi : i < 9 := (List.getElem?_eq_some_iff.1 hv).1
  have hlt := (List.getElem?_eq_some_iff.1 hj).1
  rw [cell_of_row w g _ _ _ (0, 0) h, List.getElem?_toArray, List.getElem?_append_left (by rw [cv_length]; omega), cv_get hj hi, hv]
theorem RowL.range (h : RowL w g tl l) (hj : l[j]? = some x) : w.rangeAt g (j * 9) x.cells := fun _ _ hv => h.cell hj hv
theorem RowL.thereL (h : RowL w g tl l) (hj : j < l.length) : w.there g (j * 9) 9 := fun i hi => by
  refine ⟨?_, h.f _⟩
  rw [h.cell (List.getElem?_eq_getElem hj) (i := i) (List.getElem?_eq_getElem (by rw [cells_len]; exact hi))]
  rfl
theorem cells_one (c : Crd) : ∀ v ∈ c.cells, v.oneCell' = true := fun v hv => cv_one [c] v (by simpa [cv] using hv)
theorem RowL.thereC (h : RowL w g tl l) (hj : j < l.length) (y : Crd) : w.there g (j * 9) y.cells.toArray.size := h.thereL hj
theorem info_credC (y : Crd) : (Tryd.prog.info? 55).map (·.size) = some y.cells.toArray.size := info_cred
theorem info_credL (y : Crd) : (Tryd.prog.info? 55).map (·.size) = some y.cells.length := info_cred
theorem one_credC (y : Crd) : y.cells.toArray.all (·.oneCell') = true := all_oneCell_toArray (cells_one y)
theorem cv_set (l : List Crd) (j : Nat) (y : Crd) (h : j < l.length) : cv (l.set j y) = cv (l.take j) ++ y.cells ++ cv (l.drop (j + 1)) := by
  rw [List.set_eq_take_append_cons_drop, if_pos h, cv_append, cv, List.append_assoc]
theorem RowL.set (h : RowL w g tl l) (hj : j < l.length) (y : Crd) : RowL (w.setCells g (j * 9) y.cells) g tl (l.set j y) := by
  unfold RowL at h ⊢
  have hsp : cv l = cv (l.take j) ++ (l[j]).cells ++ cv (l.drop (j + 1)) := by
    conv => lhs; rw [← List.take_append_drop j l, List.drop_eq_getElem_cons hj]
    rw [cv_append, cv, List.append_assoc]
  have hP : (cv (l.take j)).length = j * 9 := by rw [cv_length, List.length_take]; omega
  rw [hsp, List.append_assoc] at h
  have := set_cells g 55 y.cells (l[j]).cells (cv (l.take j)) (cv (l.drop (j + 1)) ++ tl) w rfl h
  rw [hP] at this
  rw [this, cv_set l j y hj]
  simp only [List.append_assoc]
end
theorem addr_row (g k : Nat) : Addr.add ⟨g, 0, none⟩ k = ⟨g, k, none⟩ := by
  unfold Addr.add
  by_cases h : k = 0
  · subst h; simp
  · simp [h]
structure Rw (w0 w : World) (B g : Nat) (tl : List Value) (l : List Crd) : Prop where
  row : RowL w g tl l
  bel : Below B w0 w
  hB : B ≤ g
section
variable {w0 w w' : World} {B g j : Nat} {tl : List Value} {l : List Crd}
theorem Rw.kept (h : Rw w0 w B g tl l) (hb : Below w.heap.size w w') : Rw w0 w' B g tl l := ⟨h.row.kept hb, h.bel.trans (hb.mono (by have := h.row.lt; have := h.hB; omega)), h.hB⟩
theorem Rw.drew (h : Rw w0 w B g tl l) : Rw w0 w.drew B g tl l := ⟨h.row, h.bel.drew, h.hB⟩
theorem Rw.set (h : Rw w0 w B g tl l) (hj : j < l.length) (y : Crd) : Rw w0 (w.setCells g (j * 9) y.cells) B g tl (l.set j y) := ⟨h.row.set hj y, below_setCells h.hB _ _ _ h.bel, h.hB⟩
end

def cmpI (a b : Crd) : Int := if bef a b = true then -1 else if bef b a = true then 1 else 0
theorem cmpI_neg (a b : Crd) : decide (cmpI a b < 0) = bef a b := by
  unfold cmpI
  cases h : bef a b with
  | true => rfl
  | false => cases h2 : bef b a <;> rfl
theorem two_cr (w : World) (a b : Crd) : CrAt ((w.alloc (.cells a.cells.toArray 55)).alloc (.cells b.cells.toArray 55)) w.heap.size a ∧ CrAt ((w.alloc (.cells a.cells.toArray 55)).alloc (.cells b.cells.toArray 55)) (w.heap.size + 1) b ∧
    Below w.heap.size w ((w.alloc (.cells a.cells.toArray 55)).alloc (.cells b.cells.toArray 55)) :=
  ⟨(CrAt.new w a).kept (below_cr _ _), by have := CrAt.new (w.alloc (.cells a.cells.toArray 55)) b; rwa [World.size_alloc] at this, (below_cr w a).trans ((below_cr _ b).mono (by rw [World.size_alloc]; exact Nat.le_succ _))⟩
set_option maxHeartbeats 2000000 in
theorem cmpC_any (a b : Crd) (w : World) : Calls Tryd.prog 76 #[.agg a.cells.toArray, .agg b.cells.toArray] w fun e w' => e = .returned (.int .i64 (cmpI a b)) ∧ Below w.heap.size w w' := by
  obtain ⟨w1, hw1⟩ : ∃ w1, w1 = (w.alloc (.cells a.cells.toArray 55)).alloc (.cells b.cells.toArray 55) := ⟨_, rfl⟩
  obtain ⟨r1, s1, b1⟩ := two_cr w a b
  rw [← hw1] at r1 s1 b1
  have HA := hid (fun w => before_any a.d a.q b.d b.q w)
  have HB := hid (fun w => before_any b.d b.q a.d a.q w)
  have eA : beforeI a.d a.q b.d b.q = bef a b := rfl
  have eB : beforeI b.d b.q a.d a.q = bef b a := rfl
  have HC : Hid (cmpI a b = if bef a b = true then -1 else if bef b a = true then 1 else 0) := hid rfl
  rw [eA] at HA
  rw [eB] at HB
  obtain ⟨x, hx⟩ : ∃ x, bef a b = x := ⟨_, rfl⟩
  obtain ⟨y, hy⟩ : ∃ y, bef b a = y := ⟨_, rfl⟩
  rw [hx] at HA HC
  rw [hy] at HB HC
  clear eA eB hx hy
  have R1 := hid r1
  have S1 := hid s1
  have B1 := hid b1
  clear r1 s1 b1
  obtain ⟨d, q, nm, kd, wh, ao, an, bo, bn⟩ := a
  obtain ⟨d', q', nm', kd', wh', ao', an', bo', bn'⟩ := b
  unfold Crd.cells at hw1 ⊢
  simp only at hw1 HA HB ⊢
  have c0 := R1.out.cell 0 _ rfl
  have c1 := R1.out.cell 1 _ rfl
  have z0 := S1.out.cell 0 _ rfl
  have z1 := S1.out.cell 1 _ rfl
  simp only at c0 c1 z0 z1
  go_enter Tryd.func76, Tryd.ntmps76
  rw [hw1] at c0 c1 z0 z1
  go_wp2_with fail
  rw [← hw1] at c0 c1 z0 z1 ⊢
  clear hw1
  refine (HA.out _).mono ?_
  rintro er w2 ⟨rfl, bb⟩
  have R2 := hid (R1.out.kept bb)
  have S2 := hid (S1.out.kept bb)
  have B2 := hid (B1.out.trans (bb.mono B1.out.size))
  clear bb c0 c1 z0 z1
  cases x with
  | true =>
    have HF : Hid (cmpI ⟨d, q, nm, kd, wh, ao, an, bo, bn⟩ ⟨d', q', nm', kd', wh', ao', an', bo', bn'⟩ = -1) := hid (by rw [HC.out]; rfl)
    go_wp2
    go_ret
    exact ⟨by rw [HF.out]; rfl, B2.out⟩
  | false =>
    have c0 := R2.out.cell 0 _ rfl
    have c1 := R2.out.cell 1 _ rfl
    have z0 := S2.out.cell 0 _ rfl
    have z1 := S2.out.cell 1 _ rfl
    simp only at c0 c1 z0 z1
    go_wp2_with fail
    refine (HB.out _).mono ?_
    rintro er w3 ⟨rfl, bb⟩
    have B3 := hid (B2.out.trans (bb.mono B2.out.size))
    clear bb c0 c1 z0 z1
    cases y with
    | true =>
      have HF : Hid (cmpI ⟨d, q, nm, kd, wh, ao, an, bo, bn⟩ ⟨d', q', nm', kd', wh', ao', an', bo', bn'⟩ = 1) := hid (by rw [HC.out]; rfl)
      go_wp2
      go_ret
      exact ⟨by rw [HF.out]; rfl, B3.out⟩
    | false =>
      have HF : Hid (cmpI ⟨d, q, nm, kd, wh, ao, an, bo, bn⟩ ⟨d', q', nm', kd', wh', ao', an', bo', bn'⟩ = 0) := hid (by rw [HC.out]; rfl)
      go_wp2
      go_ret
      exact ⟨by rw [HF.out]; rfl, B3.out⟩
def sameId (a b : Crd) : Bool := decide (a.d = b.d ∧ a.q = b.q)
set_option maxHeartbeats 2000000 in
theorem eqC_any (a b : Crd) (w : World) : Calls Tryd.prog 57 #[.agg a.cells.toArray, .agg b.cells.toArray] w fun e w' => e = .returned (.bool (sameId a b)) ∧ Below w.heap.size w w' := by
  obtain ⟨w1, hw1⟩ : ∃ w1, w1 = (w.alloc (.cells a.cells.toArray 55)).alloc (.cells b.cells.toArray 55) := ⟨_, rfl⟩
  obtain ⟨r1, s1, b1⟩ := two_cr w a b
  rw [← hw1] at r1 s1 b1
  have R1 := hid r1
  have S1 := hid s1
  have B1 := hid b1
  clear r1 s1 b1
  obtain ⟨d, q, nm, kd, wh, ao, an, bo, bn⟩ := a
  obtain ⟨d', q', nm', kd', wh', ao', an', bo', bn'⟩ := b
  unfold Crd.cells at hw1 ⊢
  simp only at hw1 ⊢
  have c0 := R1.out.cell 0 _ rfl
  have c1 := R1.out.cell 1 _ rfl
  have z0 := S1.out.cell 0 _ rfl
  have z1 := S1.out.cell 1 _ rfl
  simp only at c0 c1 z0 z1
  by_cases h1 : d = d'
  · subst h1
    by_cases h2 : q = q'
    · subst h2
      have HF : Hid (sameId ⟨d, q, nm, kd, wh, ao, an, bo, bn⟩ ⟨d, q, nm', kd', wh', ao', an', bo', bn'⟩ = true) := hid (by unfold sameId; simp)
      go_enter Tryd.func57, Tryd.ntmps57
      rw [hw1] at c0 c1 z0 z1
      go_wp2
      rw [← hw1]
      go_ret
      exact ⟨by rw [HF.out]; rfl, B1.out⟩
    · have HF : Hid (sameId ⟨d, q, nm, kd, wh, ao, an, bo, bn⟩ ⟨d, q', nm', kd', wh', ao', an', bo', bn'⟩ = false) := hid (by unfold sameId; simp [h2])
      have hq : (q == q') = false := beq_eq_false_iff_ne.2 h2
      go_enter Tryd.func57, Tryd.ntmps57
      rw [hw1] at c0 c1 z0 z1
      go_wp2
      rw [← hw1]
      go_ret
      exact ⟨by rw [HF.out]; rfl, B1.out⟩
  · have HF : Hid (sameId ⟨d, q, nm, kd, wh, ao, an, bo, bn⟩ ⟨d', q', nm', kd', wh', ao', an', bo', bn'⟩ = false) := hid (by unfold sameId; simp [h1])
    have hq : (d == d') = false := beq_eq_false_iff_ne.2 h1
    go_enter Tryd.func57, Tryd.ntmps57
    rw [hw1] at c0 c1 z0 z1
    go_wp2
    rw [← hw1]
    go_ret
    exact ⟨by rw [HF.out]; rfl, B1.out⟩
end Go.Proofs.YtoajckhnneagnaaDoor.Sh
