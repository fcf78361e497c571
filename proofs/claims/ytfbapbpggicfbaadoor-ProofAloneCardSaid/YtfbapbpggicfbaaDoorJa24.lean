/-
  The program's visit with follows, by contract.
-/
import Derived.Test.YtfbapbpggicfbaaDoorJa19
import Derived.Test.YtfbapbpggicfbaaDoorJa4
set_option linter.unusedVariables false
set_option linter.unusedSimpArgs false
namespace Go.Proofs.YtfbapbpggicfbaaDoor.Sh
open Go Go.RowKit

set_option linter.unusedVariables false
set_option linter.unusedSimpArgs false

set_option maxHeartbeats 4000000 in
theorem visitF_any (cs : List Crd) (hmay : ∀ c ∈ cs, mayC c = true) (honce : OnceI cs) (gk b nb : Nat) (p : PT) : ∀ (w : World), KAt w gk b → CMap w b nb cs → PIn w w.heap.size p →
    Calls Tryd.prog 33 #[.agg p.cells.toArray, .func (.func 34) #[.pointer (some ⟨gk, 0, none⟩)] #[]] w fun e w' => e = .returned (.bool (dc (Cor cs p))) ∧ Below w.heap.size w w' := by
  induction p using PT.ind
  rename_i o n x d q A c ps ih
  intro w hk hm hp
  have HIH := hid ih
  have HPX := hid hp
  obtain ⟨h1, h2, h3, h4⟩ := hp.open'
  obtain ⟨w1, hw1⟩ : ∃ w1, w1 = w.alloc (.cells (PT.mk o n x d q A c ps).cells.toArray 29) := ⟨_, rfl⟩
  have HQ1 : Hid (Below w.heap.size w w1) := hid (by rw [hw1]; exact below_pr w _)
  have HPA : Hid (PrAt w1 w.heap.size (.mk o n x d q A c ps)) := hid (by rw [hw1]; exact PrAt.new w _)
  have HPI := hid h4
  have HEL := hid (h3.below HQ1.out)
  obtain ⟨np, hnp⟩ : ∃ np, ps.length = np := ⟨_, rfl⟩
  have HNP := hid hnp
  have hnp63 : np ≤ 9223372036854775807 := by omega
  have HPA5 := hid (fun W (hW : Below w1.heap.size w1 W) => (HPA.out.kept hW).all)
  rw [hnp] at HPA5
  unfold PT.cells at hw1 ⊢
  simp only [hnp] at hw1 ⊢
  have HKM := hid (fun W (hW : Below w1.heap.size w1 W) => (⟨(hk.kept HQ1.out).kept hW, (hm.kept HQ1.out).kept hW⟩ : KAt W gk b ∧ CMap W b nb cs))
  have HFO := hid (follows_any cs hmay honce gk b nb (.mk o n x d q A c ps) w1 (hk.kept HQ1.out) (hm.kept HQ1.out) (hp.now HQ1.out))
  unfold PT.cells at HFO
  simp only [hnp] at HFO
  obtain ⟨Z, hZ⟩ : ∃ Z, dc (Cor cs (.mk o n x d q A c ps)) = Z := ⟨_, rfl⟩
  obtain ⟨F, hF⟩ : ∃ F, dc (Fol cs (.mk o n x d q A c ps)) = F := ⟨_, rfl⟩
  have HZ : Hid (Z = true ↔ F = true ∧ ∀ a ∈ ps, Cor cs a) := hid (by rw [← hZ, ← hF, dc_iff, dc_iff, cor_iff]; rfl)
  rw [hF] at HFO
  rw [hZ]
  clear ih hp h1 h2 h3 h4 hnp hZ hF hk hm hmay honce
  go_enter Tryd.func33, Tryd.ntmps33
  go_wp2_with fail
  rw [← hw1]
  clear hw1
  refine HFO.out.mono ?_
  rintro er w2 ⟨rfl, hb2⟩
  have HB2 := hid hb2
  clear HFO hb2
  obtain ⟨k0, k1, k2, k3, k4, k5⟩ := HPA5.out _ HB2.out
  cases F with
  | false =>
    have HF : Hid (Z = false) := hid (Bool.eq_false_iff.2 fun e => by have := (HZ.out.1 e).1; cases this)
    go_wp2_with fail
    go_ret
    exact ⟨by rw [HF.out]; rfl, HQ1.out.trans (HB2.out.mono HQ1.out.size)⟩
  | true =>
    have HZT : Hid ((∀ a ∈ ps, Cor cs a) → Z = true) := hid (fun h => HZ.out.2 ⟨rfl, h⟩)
    have HZF : Hid (∀ a ∈ ps, ¬ Cor cs a → Z = false) := hid (fun a ha h => Bool.eq_false_iff.2 fun e => h ((HZ.out.1 e).2 a ha))
    clear HZ
    go_wp2_with fail
    go_loopw [14] (fun i wr => ∃ j : Nat, j ≤ np ∧ i = .int .i64 (j : Int) ∧ Hid (∀ p ∈ ps.take j, Cor cs p) ∧ Hid (Below w1.heap.size w1 wr)) (fun i _ => np - (intOf i).toNat)
    case atStart => exact ⟨0, Nat.zero_le _, rfl, hid (by simp), HB2⟩
    case round =>
      obtain ⟨j, hj, rfl, HAL, HB⟩ := hrel
      by_cases hlt : j < np
      · obtain ⟨⟨o2, n2, x2, d2, q2, A2, c2, ps2⟩, hx⟩ : ∃ x, ps[j]? = some x := ⟨_, List.getElem?_eq_getElem (by rw [HNP.out]; exact hlt)⟩
        have HX := hid hx
        have HME : Hid (PT.mk o2 n2 x2 d2 q2 A2 c2 ps2 ∈ ps) := hid (List.mem_of_getElem? hx)
        obtain ⟨ad, aj, rfl, hab, ea, hbj, a0, a1, a2, a3, a4, a5⟩ := PIn.get (HEL.out.below (HB.out.mono HQ1.out.size)) hx
        have hj0 : (0 : Int) ≤ (j : Int) := Int.natCast_nonneg _
        have hj1 : (j : Int) < (np : Int) := by omega
        have HPN := hid (fun W (hW : Below w1.heap.size w1 W) => (HPI.out _ HME.out).now (HQ1.out.trans (hW.mono HQ1.out.size)))
        clear hx hab hbj
        obtain ⟨wb, hwb⟩ : ∃ wb, wb = wr.alloc (.cells (PT.mk o2 n2 x2 d2 q2 A2 c2 ps2).cells.toArray 29) := ⟨_, rfl⟩
        have HBB : Hid (Below w1.heap.size w1 wb) := hid (by rw [hwb]; exact HB.out.alloc HB.out.size _)
        have HCA := hid (HIH.out _ HME.out wb (HKM.out _ HBB.out).1 (HKM.out _ HBB.out).2 (HPN.out _ HBB.out))
        unfold PT.cells at HCA hwb
        simp only at HCA hwb
        obtain ⟨T, hT⟩ : ∃ T, dc (Cor cs (.mk o2 n2 x2 d2 q2 A2 c2 ps2)) = T := ⟨_, rfl⟩
        have HT : Hid (T = true ↔ Cor cs (.mk o2 n2 x2 d2 q2 A2 c2 ps2)) := hid (by rw [← hT, dc_iff])
        rw [hT] at HCA
        clear hT
        go_wp2_with fail
        rw [← hwb]
        refine HCA.out.mono ?_
        rintro er w3 ⟨rfl, hb3⟩
        have HB3 := hid (HBB.out.trans (hb3.mono HBB.out.size))
        clear hb3 HCA hwb a0 a1 a2 a3 a4 a5
        cases T with
        | true =>
          have HT2 := hid (mem_take_succ HX.out HAL.out (HT.out.1 rfl))
          go_wp2_with fail
          go_roundw
          case rel => exact ⟨j + 1, by omega, by go_num, HT2, HB3⟩
          case measure => simp [intOf]; omega
        | false =>
          have HF : Hid (Z = false) := hid (HZF.out _ HME.out (fun e => by have := HT.out.2 e; cases this))
          go_wp2_with fail
          go_ret
          exact ⟨by rw [HF.out]; rfl, HQ1.out.trans (HB3.out.mono HQ1.out.size)⟩
      · obtain rfl : j = np := by omega
        have HF : Hid (Z = true) := hid (HZT.out (by have := HAL.out; rwa [List.take_of_length_le (by rw [HNP.out]; exact Nat.le_refl _)] at this))
        go_wp2_with fail
        go_ret
        exact ⟨by rw [HF.out]; rfl, HQ1.out.trans (HB.out.mono HQ1.out.size)⟩
end Go.Proofs.YtfbapbpggicfbaaDoor.Sh
/-
  Sorting in place, on lists of credentials: what an exchange of neighbours, an insertion, a rotation, a merge leave. Plain lemmas.
-/
namespace Go.Proofs.YtfbapbpggicfbaaDoor.Sh
open Go Go.RowKit

/-- The same credentials of each ID, in the same order. -/
def SameF (a b : List Crd) : Prop := ∀ d q, a.filter (idIs d q) = b.filter (idIs d q)
/-- l' is l with what lies from a to b put into another order, those of one ID in theirs. -/
structure Mix (a b : Nat) (l l' : List Crd) : Prop where
  len : l'.length = l.length
  same : SameF l' l
  out : ∀ k, k < a ∨ b ≤ k → l'[k]? = l[k]?
  inn : ∀ k x, a ≤ k → k < b → l'[k]? = some x → ∃ j, a ≤ j ∧ j < b ∧ l[j]? = some x
/-- From a to b none behind stands ahead. -/
def Srt (a b : Nat) (l : List Crd) : Prop := ∀ i j x y, a ≤ i → i < j → j < b → l[i]? = some x → l[j]? = some y → bef y x = false
theorem Mix.refl (a b : Nat) (l : List Crd) : Mix a b l l := ⟨rfl, fun _ _ => rfl, fun _ _ => rfl, fun k _ h1 h2 h => ⟨k, h1, h2, h⟩⟩
theorem Mix.trans {a b : Nat} {l l' l'' : List Crd} (h : Mix a b l l') (h' : Mix a b l' l'') : Mix a b l l'' :=
  ⟨h'.len.trans h.len, fun d q => (h'.same d q).trans (h.same d q), fun k hk => (h'.out k hk).trans (h.out k hk), fun k x h1 h2 hx => by
    obtain ⟨j, g1, g2, g3⟩ := h'.inn k x h1 h2 hx
    exact h.inn j x g1 g2 g3⟩
theorem Mix.wide {a b a' b' : Nat} {l l' : List Crd} (h : Mix a b l l') (ha : a' ≤ a) (hb : b ≤ b') : Mix a' b' l l' :=
  ⟨h.len, h.same, fun k hk => h.out k (by omega), fun k x h1 h2 hx => by
    by_cases hin : a ≤ k ∧ k < b
    · obtain ⟨j, g1, g2, g3⟩ := h.inn k x hin.1 hin.2 hx
      exact ⟨j, by omega, by omega, g3⟩
    · rw [h.out k (by omega)] at hx
      exact ⟨k, h1, h2, hx⟩⟩
theorem Srt.out {a b c d : Nat} {l l' : List Crd} (h : Srt c d l) (hm : Mix a b l l') (hd : d ≤ a ∨ b ≤ c) : Srt c d l' := fun i j x y h1 h2 h3 hx hy => by
  rw [hm.out i (by omega)] at hx
  rw [hm.out j (by omega)] at hy
  exact h i j x y h1 h2 h3 hx hy
theorem Srt.less {a b c d : Nat} {l : List Crd} (h : Srt a b l) (h1 : a ≤ c) (h2 : d ≤ b) : Srt c d l := fun i j x y g1 g2 g3 hx hy => h i j x y (by omega) g2 (by omega) hx hy
theorem Srt.one {a b : Nat} {l : List Crd} (h : b ≤ a + 1) : Srt a b l := fun i j _ _ _ _ _ => by omega
theorem Srt.full {l : List Crd} (h : Srt 0 l.length l) : Sd l := by
  unfold Sd
  rw [List.pairwise_iff_getElem]
  intro i j hi hj hij
  exact h i j _ _ (Nat.zero_le _) hij hj (List.getElem?_eq_getElem hi) (List.getElem?_eq_getElem hj)
theorem Mix.sorts {l l' : List Crd} (h : Mix 0 l.length l l') (hs : Srt 0 l.length l') : SortOf l' l := ⟨Srt.full (by rw [h.len]; exact hs), h.same⟩

theorem bef_id {x y : Crd} (h : bef y x = true) (d q : Int) : ¬ (idIs d q x = true ∧ idIs d q y = true) := fun ⟨h1, h2⟩ => by
  unfold idIs at h1 h2
  unfold bef at h
  simp only [decide_eq_true_eq] at h h1 h2
  omega
/-- Two parts exchanged, each of the second ahead of each of the first. -/
theorem same_swap (P X Y S : List Crd) (h : ∀ x ∈ X, ∀ y ∈ Y, bef y x = true) : SameF (P ++ Y ++ X ++ S) (P ++ X ++ Y ++ S) := fun d q => by
  have hxy : Y.filter (idIs d q) ++ X.filter (idIs d q) = X.filter (idIs d q) ++ Y.filter (idIs d q) := by
    cases hX : X.filter (idIs d q) with
    | nil => simp
    | cons x t =>
      cases hY : Y.filter (idIs d q) with
      | nil => simp
      | cons y s =>
        have hx : x ∈ X.filter (idIs d q) := by rw [hX]; simp
        have hy : y ∈ Y.filter (idIs d q) := by rw [hY]; simp
        rw [List.mem_filter] at hx hy
        exact absurd ⟨hx.2, hy.2⟩ (bef_id (h x hx.1 y hy.1) d q)
  simp only [List.filter_append, List.append_assoc]
  rw [← List.append_assoc (Y.filter _), hxy, List.append_assoc]
theorem mid_get {P X S : List Crd} {k : Nat} (h1 : P.length ≤ k) (h2 : k < P.length + X.length) : (P ++ X ++ S)[k]? = X[k - P.length]? := by
  rw [List.append_assoc, List.getElem?_append_right h1, List.getElem?_append_left (by omega)]
theorem mix_swap (P X Y S : List Crd) (h : ∀ x ∈ X, ∀ y ∈ Y, bef y x = true) : Mix P.length (P.length + X.length + Y.length) (P ++ X ++ Y ++ S) (P ++ Y ++ X ++ S) := by
  refine ⟨by simp; omega, same_swap P X Y S h, fun k hk => ?_, fun k x h1 h2 hx => ?_⟩
  · rcases hk with hk | hk
    · simp only [List.append_assoc]
      rw [List.getElem?_append_left hk, List.getElem?_append_left hk]
    · rw [List.getElem?_append_right (by simp; omega), List.getElem?_append_right (by simp; omega)]
      congr 1
      simp
      omega
  · rw [List.append_assoc P Y X, mid_get h1 (by rw [List.length_append]; omega)] at hx
    have hm : x ∈ X ++ Y := by
      rcases List.mem_append.1 (List.mem_of_getElem? hx) with h | h
      · exact List.mem_append.2 (.inr h)
      · exact List.mem_append.2 (.inl h)
    obtain ⟨j, hj⟩ := List.getElem?_of_mem hm
    have hjl := (List.getElem?_eq_some_iff.1 hj).1
    rw [List.length_append] at hjl
    refine ⟨P.length + j, by omega, by omega, ?_⟩
    rw [List.append_assoc P X Y, mid_get (by omega) (by rw [List.length_append]; omega), show P.length + j - P.length = j by omega]
    exact hj
/-- A list around two places side by side. -/
theorem cut_two {l : List Crd} {k : Nat} {x y : Crd} (hx : l[k]? = some x) (hy : l[k + 1]? = some y) : l = l.take k ++ [x] ++ [y] ++ l.drop (k + 2) ∧ (l.take k).length = k := by
  have h1 := (List.getElem?_eq_some_iff.1 hx)
  have h2 := (List.getElem?_eq_some_iff.1 hy)
  obtain ⟨g1, e1⟩ := h1
  obtain ⟨g2, e2⟩ := h2
  refine ⟨?_, by rw [List.length_take]; omega⟩
  conv => lhs; rw [← List.take_append_drop k l, List.drop_eq_getElem_cons g1, List.drop_eq_getElem_cons g2, e1, e2]
  simp
/-- Neighbours exchanged, the one behind being ahead. -/
theorem mix_adj {l : List Crd} {k : Nat} {x y : Crd} (hx : l[k]? = some x) (hy : l[k + 1]? = some y) (h : bef y x = true) : Mix k (k + 2) l ((l.set k y).set (k + 1) x) := by
  obtain ⟨e, hk⟩ := cut_two hx hy
  have hm := mix_swap (l.take k) [x] [y] (l.drop (k + 2)) (fun a ha b hb => by rw [List.mem_singleton.1 ha, List.mem_singleton.1 hb]; exact h)
  have e2 : (l.set k y).set (k + 1) x = l.take k ++ [y] ++ [x] ++ l.drop (k + 2) := by
    have hl := (List.getElem?_eq_some_iff.1 hy).1
    refine List.ext_getElem? fun t => ?_
    rw [List.getElem?_set, List.getElem?_set]
    simp only [List.append_assoc, List.cons_append, List.nil_append]
    by_cases h1 : k + 1 = t
    · subst h1
      rw [if_pos rfl, if_pos (by simp; omega), List.getElem?_append_right (by omega)]
      simp [hk]
    · rw [if_neg h1]
      by_cases h2 : k = t
      · subst h2
        rw [if_pos rfl, if_pos (by omega), List.getElem?_append_right (by omega)]
        simp [hk]
      · rw [if_neg h2]
        by_cases h3 : t < k
        · rw [List.getElem?_append_left (by omega), List.getElem?_take, if_pos h3]
        · rw [List.getElem?_append_right (by omega), hk]
          obtain ⟨u, rfl⟩ : ∃ u, t = k + 2 + u := ⟨t - (k + 2), by omega⟩
          rw [show k + 2 + u - k = u + 2 by omega]
          simp [List.getElem?_drop]
  rw [hk] at hm
  rw [← e, ← e2] at hm
  exact hm
theorem mix_adj' {l : List Crd} {k : Nat} {x y : Crd} (hx : l[k]? = some x) (hy : l[k + 1]? = some y) (h : bef y x = true) : Mix k (k + 2) l ((l.set (k + 1) x).set k y) := by
  rw [List.set_comm _ _ (by omega)]
  exact mix_adj hx hy h

/-! ### one credential moved down: from i to j -/
/-- cur is l with x, that stood at i, at j, what stood from j to i one place on. -/
structure Dn (l cur : List Crd) (j i : Nat) (x : Crd) : Prop where
  at_ : cur[j]? = some x
  mid : ∀ t, j < t → t ≤ i → cur[t]? = l[t - 1]?
  out : ∀ t, t < j ∨ i < t → cur[t]? = l[t]?
  len : cur.length = l.length
  le : j ≤ i
theorem Dn.start {l : List Crd} {i : Nat} {x : Crd} (h : l[i]? = some x) : Dn l l i i x := ⟨h, fun t h1 h2 => by omega, fun _ _ => rfl, rfl, Nat.le_refl _⟩
theorem Dn.step {l cur : List Crd} {j i : Nat} {x y : Crd} (h : Dn l cur (j + 1) i x) (hy : cur[j]? = some y) : Dn l ((cur.set (j + 1) y).set j x) j i x := by
  have h1 := (List.getElem?_eq_some_iff.1 h.at_).1
  have h2 := (List.getElem?_eq_some_iff.1 hy).1
  have hle := h.le
  refine ⟨?_, fun t g1 g2 => ?_, fun t g => ?_, by simp [h.len], by omega⟩
  · rw [List.getElem?_set, if_pos rfl, if_pos (by rw [List.length_set]; omega)]
  · rw [List.getElem?_set, if_neg (by omega), List.getElem?_set]
    by_cases e : j + 1 = t
    · subst e
      rw [if_pos rfl, if_pos (by omega), ← hy, h.out j (.inl (by omega))]
      rfl
    · rw [if_neg e, h.mid t (by omega) g2]
  · rw [List.getElem?_set, if_neg (by omega), List.getElem?_set, if_neg (by omega), h.out t (by omega)]
theorem Dn.ahead {l cur : List Crd} {j i : Nat} {x : Crd} (h : Dn l cur j i x) {t : Nat} (ht : t < j) : cur[t]? = l[t]? := h.out t (.inl ht)
/-- It is sorted then: what stood ahead was, and x stands where it is to stand. -/
theorem Dn.srt {l cur : List Crd} {a j i : Nat} {x : Crd} (h : Dn l cur j i x) (ha : a ≤ j) (hs : Srt a i l) (h1 : ∀ t y, j ≤ t → t < i → l[t]? = some y → bef x y = true) (h2 : ∀ t y, a ≤ t → t < j → l[t]? = some y → bef x y = false) : Srt a (i + 1) cur := by
  intro p q u v g1 g2 g3 hu hv
  have hle := h.le
  rcases Nat.lt_trichotomy p j with hp | hp | hp
  · rw [h.out p (.inl hp)] at hu
    rcases Nat.lt_trichotomy q j with hq | hq | hq
    · rw [h.out q (.inl hq)] at hv
      exact hs p q u v g1 g2 (by omega) hu hv
    · subst hq
      rw [h.at_] at hv
      injection hv with hv
      subst hv
      exact h2 p u g1 hp hu
    · rw [h.mid q hq (by omega)] at hv
      exact hs p (q - 1) u v g1 (by omega) (by omega) hu hv
  · subst hp
    rw [h.at_] at hu
    injection hu with hu
    subst hu
    rw [h.mid q g2 (by omega)] at hv
    exact bef_asymm (h1 (q - 1) v (by omega) (by omega) hv)
  · rw [h.mid p hp (by omega)] at hu
    rw [h.mid q (by omega) (by omega)] at hv
    exact hs (p - 1) (q - 1) u v (by omega) (by omega) (by omega) hu hv

/-! ### one credential moved up: from a to k -/
structure Up (l cur : List Crd) (a k : Nat) (x : Crd) : Prop where
  at_ : cur[k]? = some x
  mid : ∀ t, a ≤ t → t < k → cur[t]? = l[t + 1]?
  out : ∀ t, t < a ∨ k < t → cur[t]? = l[t]?
  len : cur.length = l.length
  le : a ≤ k
theorem Up.start {l : List Crd} {a : Nat} {x : Crd} (h : l[a]? = some x) : Up l l a a x := ⟨h, fun t h1 h2 => by omega, fun _ _ => rfl, rfl, Nat.le_refl _⟩
theorem Up.step {l cur : List Crd} {a k : Nat} {x y : Crd} (h : Up l cur a k x) (hy : cur[k + 1]? = some y) : Up l ((cur.set k y).set (k + 1) x) a (k + 1) x := by
  have h1 := (List.getElem?_eq_some_iff.1 hy).1
  have hle := h.le
  refine ⟨?_, fun t g1 g2 => ?_, fun t g => ?_, by simp [h.len], by omega⟩
  · rw [List.getElem?_set, if_pos rfl, if_pos (by rw [List.length_set]; omega)]
  · rw [List.getElem?_set, if_neg (by omega), List.getElem?_set]
    by_cases e : k = t
    · subst e
      rw [if_pos rfl, if_pos (by omega), ← hy, h.out (k + 1) (.inr (by omega))]
    · rw [if_neg e, h.mid t g1 (by omega)]
  · rw [List.getElem?_set, if_neg (by omega), List.getElem?_set, if_neg (by omega), h.out t (by omega)]
theorem Up.srt {l cur : List Crd} {a k b : Nat} {x : Crd} (h : Up l cur a k x) (hkb : k < b) (hs : Srt (a + 1) b l) (h1 : ∀ t y, a < t → t ≤ k → l[t]? = some y → bef y x = true) (h2 : ∀ t y, k < t → t < b → l[t]? = some y → bef y x = false) : Srt a b cur := by
  intro p q u v g1 g2 g3 hu hv
  have hle := h.le
  rcases Nat.lt_trichotomy p k with hp | hp | hp
  · rw [h.mid p g1 hp] at hu
    rcases Nat.lt_trichotomy q k with hq | hq | hq
    · rw [h.mid q (by omega) hq] at hv
      exact hs (p + 1) (q + 1) u v (by omega) (by omega) (by omega) hu hv
    · subst hq
      rw [h.at_] at hv
      injection hv with hv
      subst hv
      exact bef_asymm (h1 (p + 1) u (by omega) (by omega) hu)
    · rw [h.out q (.inr hq)] at hv
      exact hs (p + 1) q u v (by omega) (by omega) g3 hu hv
  · subst hp
    rw [h.at_] at hu
    injection hu with hu
    subst hu
    rw [h.out q (.inr g2)] at hv
    exact h2 q v g2 g3 hv
  · rw [h.out p (.inr hp)] at hu
    rw [h.out q (.inr (by omega))] at hv
    exact hs p q u v (by omega) g2 g3 hu hv
end Go.Proofs.YtfbapbpggicfbaaDoor.Sh
