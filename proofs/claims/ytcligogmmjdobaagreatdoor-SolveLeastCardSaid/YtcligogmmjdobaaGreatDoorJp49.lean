/-
  The walk of SolveHas.
-/
import Derived.Test.YtcligogmmjdobaaGreatDoorJp40
import Derived.Test.YtcligogmmjdobaaGreatDoorJp47
set_option linter.unusedVariables false
set_option linter.unusedSimpArgs false
namespace Go.Proofs.YtcligogmmjdobaaGreatDoor.Sh
open Go Go.RowKit

set_option linter.unusedSimpArgs false
set_option linter.unusedVariables false
/-- Who has a role, in a list of pairs. -/
def flt (r : Rl) (l : List Pr) : List ByteArray := (l.filter fun p => decide (p.1 = r)).map (·.2)
theorem flt_append (r : Rl) (a b : List Pr) : flt r (a ++ b) = flt r a ++ flt r b := by unfold flt; rw [List.filter_append, List.map_append]
theorem flt_mem {r : Rl} {l : List Pr} {x : ByteArray} : x ∈ flt r l ↔ (r, x) ∈ l := by
  unfold flt
  rw [List.mem_map]
  constructor
  · rintro ⟨p, hp, rfl⟩
    obtain ⟨h1, h2⟩ := List.mem_filter.1 hp
    have h3 : p.1 = r := by simpa using h2
    rw [← h3]; exact h1
  · intro h
    exact ⟨(r, x), List.mem_filter.2 ⟨h, by simp⟩, rfl⟩
theorem flt_sorted {r : Rl} {l : List Pr} (h : SortedP l) : SortedB (flt r l) := by
  unfold flt SortedB
  rw [List.pairwise_map]
  have h1 : (l.filter fun p => decide (p.1 = r)).Pairwise ltP := List.Pairwise.filter _ h
  refine List.Pairwise.imp_of_mem ?_ h1
  intro a b ha hb hab
  have ea : a.1 = r := by have := (List.mem_filter.1 ha).2; simpa using this
  have eb : b.1 = r := by have := (List.mem_filter.1 hb).2; simpa using this
  unfold ltP lt3 at hab
  rw [ea, eb] at hab
  rcases hab with h2 | ⟨_, h2 | ⟨_, h2⟩⟩
  · unfold bl at h2; rw [bl_irrefl] at h2; cases h2
  · unfold bl at h2; rw [bl_irrefl] at h2; cases h2
  · exact h2
theorem sortedB_uniq : ∀ {a b : List ByteArray}, SortedB a → SortedB b → (∀ x, x ∈ a ↔ x ∈ b) → a = b
  | [], [], _, _, _ => rfl
  | [], y :: _, _, _, h => absurd ((h y).2 (by simp)) (by simp)
  | x :: _, [], _, _, h => absurd ((h x).1 (by simp)) (by simp)
  | x :: a, y :: b, ha, hb, h => by
    obtain ⟨h1, h2⟩ := List.pairwise_cons.1 ha
    obtain ⟨h3, h4⟩ := List.pairwise_cons.1 hb
    have irr : ∀ z, ¬ bl z z = true := fun z e => by unfold bl at e; rw [bl_irrefl] at e; cases e
    have asy : ∀ z t, bl z t = true → ¬ bl t z = true := fun z t e e2 => by unfold bl at e e2; rw [bl_asymm _ _ e] at e2; cases e2
    have exy : x = y := by
      rcases List.mem_cons.1 ((h x).1 (by simp)) with e | e
      · exact e
      · rcases List.mem_cons.1 ((h y).2 (by simp)) with e2 | e2
        · exact e2.symm
        · exact absurd (h1 y e2) (asy _ _ (h3 x e))
    subst exy
    have key : ∀ z, z ∈ a ↔ z ∈ b := fun z => by
      constructor
      · intro hz
        rcases List.mem_cons.1 ((h z).1 (List.mem_cons_of_mem _ hz)) with e | e
        · subst e; exact absurd (h1 _ hz) (irr _)
        · exact e
      · intro hz
        rcases List.mem_cons.1 ((h z).2 (List.mem_cons_of_mem _ hz)) with e | e
        · subst e; exact absurd (h3 _ hz) (irr _)
        · exact e
    rw [sortedB_uniq h2 h4 key]
theorem flt_at {r : Rl} {l : List Pr} {i : Nat} {x : Pr} (hx : l[i]? = some x) (hr : x.1 = r) : (flt r l)[(flt r (l.take i)).length]? = some x.2 := by
  have h : l = l.take i ++ x :: l.drop (i + 1) := by
    obtain ⟨hm, rfl⟩ := List.getElem?_eq_some_iff.1 hx
    rw [← List.drop_eq_getElem_cons hm, List.take_append_drop]
  have h2 : flt r (x :: l.drop (i + 1)) = x.2 :: flt r (l.drop (i + 1)) := by unfold flt; rw [List.filter_cons_of_pos (by simpa using hr), List.map_cons]
  rw [show flt r l = flt r (l.take i) ++ (x.2 :: flt r (l.drop (i + 1))) by rw [← h2, ← flt_append, ← h]]
  rw [List.getElem?_append_right (Nat.le_refl _), Nat.sub_self]
  rfl
theorem flt_yes {r : Rl} {l : List Pr} {i : Nat} {x : Pr} (hx : l[i]? = some x) (hr : x.1 = r) : (flt r (l.take (i + 1))).length = (flt r (l.take i)).length + 1 := by
  rw [take_snoc_of hx, flt_append, List.length_append]
  congr 1
  unfold flt
  rw [List.filter_cons_of_pos (by simpa using hr)]
  rfl
theorem flt_no {r : Rl} {l : List Pr} {i : Nat} {x : Pr} (hx : l[i]? = some x) (hr : x.1 ≠ r) : (flt r (l.take (i + 1))).length = (flt r (l.take i)).length := by
  rw [take_snoc_of hx, flt_append, List.length_append]
  have : flt r [x] = [] := by unfold flt; rw [List.filter_cons_of_neg (by simpa using hr)]; rfl
  rw [this]; rfl
set_option maxHeartbeats 8000000 in
theorem solveHas_walk (A : Option Addr) (l0 : List Crd) (n0 k : Nat) (hn0 : l0.length = n0) (hk0 : n0 ≤ k) (hk2 : k ≤ 9223372036854775807) (who o nm : ByteArray) (hwho : okB who) (ho : okB o) (hnm : okB nm) (w : World) (hb : Crs w w.heap.size A l0) :
    Calls Tryz.prog 4 #[.slice A n0 k, .string who, .agg #[.string o, .string nm]] w fun e w' => e = .returned (.bool true) ∧ Below w.heap.size w w' := by
  obtain ⟨wb, hwb⟩ : ∃ wb, wb = w.alloc (.cells #[.string o, .string nm] 33) := ⟨_, rfl⟩
  have q1 : Below w.heap.size w wb := by rw [hwb]; exact (Below.refl _ _).alloc (Nat.le_refl _) _
  have r1 : RoleAt wb w.heap.size o nm := by rw [hwb]; exact RoleAt.new w o nm
  have HFE := hid (few_any A l0 n0 k hn0 hk0 hk2 wb ((hb.below q1).more q1.size))
  have HQ1 := hid q1
  have HR1 := hid r1
  obtain ⟨g0, hg0⟩ : ∃ g, w.heap.size = g := ⟨_, rfl⟩
  rw [hg0] at r1 HR1
  have HOK : Hid (okB who ∧ okB o ∧ okB nm) := hid ⟨hwho, ho, hnm⟩
  clear hb hn0 hk0 q1 r1 hwho ho hnm
  go_enter Tryz.func4, Tryz.ntmps4
  go_wp2_with fail
  rw [← hwb]
  clear hwb hg0
  refine HFE.out.mono ?_
  rintro er w1 ⟨n, rfl, l, hN, hm, hk, y0, rfl⟩
  have HN := hid hN
  have HY := hid y0
  have HA1 := hid (refAll_any A l n k hN (by omega) w1 y0)
  clear HFE hN y0
  go_wp2_with fail
  refine HA1.out.mono ?_
  rintro er w2 ⟨cs, A2, c2, lst, hc2, rfl, hs2, hm2, ho2, hb2⟩
  have HN14 := hid hm
  have hl2 : lst.length ≤ 1000 := by
    have h1 := nodup_length hs2.nodup fun p hp => imp_uni ((hm2 p).1 hp)
    rw [uni_length] at h1
    have h2 := counts_len hc2
    rw [HN.out] at h2
    have h3 : cs.length * cs.length ≤ 30 * 30 := Nat.mul_le_mul (by omega) (by omega)
    omega
  have HC2 := hid hc2
  have HS2 := hid hs2
  have HM2 := hid hm2
  have HB2 := hid hb2
  have HE2 := hid (own_els ho2)
  obtain ⟨na, hna⟩ : ∃ x, lst.length = x := ⟨_, rfl⟩
  have HNA := hid hna
  rw [hna] at hl2 ⊢
  have HIN := hid (in_any A2 lst na c2 hna (by omega) o nm who w2 (own_els ho2))
  have r2 := HR1.out.kept hb2
  have g20 := r2.c0
  have g21 := r2.c1
  clear HA1 hc2 hs2 hm2 hb2 ho2 hna r2
  go_wp2_with fail
  refine HIN.out.mono ?_
  rintro er w3 ⟨rfl, hb3⟩
  have HB3 := hid (HB2.out.trans (hb3.mono HB2.out.size))
  have HE3 := hid ((HE2.out.below hb3).more hb3.size)
  have r3 := HR1.out.kept HB3.out
  have g30 := r3.c0
  have g31 := r3.c1
  have HMB := hid (members_any A l n k HN.out hk hk2 (by omega) o nm HOK.out.2.1 HOK.out.2.2 w3 ((HY.out.below HB3.out).more HB3.out.size))
  obtain ⟨bi, hbi⟩ : ∃ b, decide (((o, nm), who) ∈ lst) = b := ⟨_, rfl⟩
  have HBI := hid hbi
  rw [hbi]
  clear HIN hb3 hbi g20 g21 r3
  go_wp2_with fail
  refine HMB.out.mono ?_
  rintro er w4 ⟨cs4, A4, c4, mb, hc4, rfl, hs4, hm4, ho4, hb4⟩
  obtain rfl : cs4 = cs := counts_uniq hc4 HC2.out
  have HFL : Hid (flt (o, nm) lst = mb) := hid (sortedB_uniq (flt_sorted HS2.out) hs4 fun x => by rw [flt_mem, HM2.out, hm4])
  have HB4 := hid (HB3.out.trans (hb4.mono HB3.out.size))
  have HE4 := hid ((HE3.out.below hb4).more hb4.size)
  have HG4 := hid (own_els ho4)
  have HR4 := hid (HR1.out.kept HB4.out)
  obtain ⟨nb, hnb⟩ : ∃ x, mb.length = x := ⟨_, rfl⟩
  have HNB := hid hnb
  have hnb63 : nb ≤ na := by
    rw [← hnb, ← HFL.out, ← HNA.out]
    unfold flt
    rw [List.length_map]
    exact List.length_filter_le _ _
  rw [hnb]
  clear HMB hc4 hs4 hm4 ho4 hb4 hnb g30 g31
  go_wp2_with fail
  go_loopw [10, 11] (fun v i wr => ∃ c j : Nat, v = .int .i64 (c : Int) ∧ i = .int .i64 (j : Int) ∧ j ≤ na ∧ c ≤ nb ∧ Hid ((flt (o, nm) (lst.take j)).length = c) ∧ Hid (Below w4.heap.size w4 wr)) (fun _ i _ => na - (intOf i).toNat)
  case atStart => exact ⟨0, 0, rfl, rfl, Nat.zero_le _, Nat.zero_le _, hid (by simp [flt]), hid (Below.refl _ _)⟩
  case round =>
    obtain ⟨c, j, rfl, rfl, hj, hc, HCJ, HBJ⟩ := hrel
    by_cases hlt : j < na
    · obtain ⟨⟨⟨o2, n2⟩, y⟩, hx⟩ : ∃ x, lst[j]? = some x := ⟨_, List.getElem?_eq_getElem (by rw [HNA.out]; exact hlt)⟩
      have HX := hid hx
      obtain ⟨bd, bk, rfl, hbb, eb, hbk, b0, bi'⟩ := (HE4.out.below HBJ.out).get hx
      have b0 := b0 _ rfl
      have b1 := bi' 1 _ (by omega) rfl
      have b2 := bi' 2 _ (by omega) rfl
      have eb : bd.add (j * 3) = bk := eb
      have hj0 : (0 : Int) ≤ (j : Int) := Int.natCast_nonneg _
      have hj1 : (j : Int) < (na : Int) := by omega
      have r5 := HR4.out.kept HBJ.out
      have g50 := r5.c0
      have g51 := r5.c1
      clear hx hbb hbk bi' r5
      by_cases he : o2 = o ∧ n2 = nm
      · obtain ⟨rfl, rfl⟩ := he
        have hmx : mb[c]? = some y := by
          have := flt_at (r := (o2, n2)) HX.out rfl
          rw [HFL.out, HCJ.out] at this
          exact this
        have hcn : c < nb := by have := (List.getElem?_eq_some_iff.1 hmx).1; rw [HNB.out] at this; exact this
        have HCN := hid ((flt_yes (r := (o2, n2)) HX.out rfl).trans (by rw [HCJ.out]))
        obtain ⟨cd, ck, rfl, -, ec, -, d0, -⟩ := (HG4.out.below HBJ.out).get hmx
        have d0 := d0 _ rfl
        have ec : cd.add (c * 1) = ck := ec
        rw [Nat.mul_one] at ec
        have hc0 : (0 : Int) ≤ (c : Int) := Int.natCast_nonneg _
        have hc1 : (c : Int) < (nb : Int) := by omega
        have hc2 : ¬ (nb : Int) ≤ (c : Int) := by omega
        have hcd : decide ((nb : Int) ≤ (c : Int)) = false := decide_eq_false hc2
        clear hmx
        go_wp2_with fail
        go_quiet (fail)
        go_wp2
        go_quiet (fail)
        go_wp2
        go_roundw
        case rel => exact ⟨c + 1, j + 1, by go_num, by go_num, by omega, by omega, HCN, hid (below_drewN HBJ.out _)⟩
        case measure => simp [intOf]; omega
      · have HCN := hid ((flt_no (r := (o, nm)) HX.out (fun e => he (by simp only [Prod.mk.injEq] at e; exact e))).trans HCJ.out)
        by_cases ho : o2 = o
        · subst ho
          have hn2 : n2 ≠ nm := fun e => he ⟨rfl, e⟩
          obtain ⟨x1, x2⟩ := inne hn2
          clear he hn2
          go_wp2_with fail
          go_quiet (fail)
          go_wp2
          go_roundw
          case rel => exact ⟨c, j + 1, rfl, by go_num, by omega, hc, HCN, hid (below_drewN HBJ.out _)⟩
          case measure => simp [intOf]; omega
        · obtain ⟨x1, x2⟩ := inne ho
          clear he ho
          go_wp2_with fail
          go_quiet (fail)
          go_wp2
          go_roundw
          case rel => exact ⟨c, j + 1, rfl, by go_num, by omega, hc, HCN, hid (below_drewN HBJ.out _)⟩
          case measure => simp [intOf]; omega
    · obtain rfl : j = na := by omega
      have hcc : c = nb := by
        have h1 := HCJ.out
        rw [List.take_of_length_le (by rw [HNA.out]; exact Nat.le_refl _), HFL.out, HNB.out] at h1
        exact h1.symm
      subst hcc
      have HB5 := hid (HB4.out.trans (HBJ.out.mono HB4.out.size))
      have HHA := hid (has_any A l n k HN.out hk hk2 (by omega) o nm who HOK.out.2.1 HOK.out.2.2 HOK.out.1 wr ((HY.out.below HB5.out).more HB5.out.size))
      have r5 := HR4.out.kept HBJ.out
      have g50 := r5.c0
      have g51 := r5.c1
      clear r5
      go_wp2_with fail
      refine HHA.out.mono ?_
      rintro er w6 ⟨cs6, b6, hc6, rfl, h6, hb6⟩
      obtain rfl : cs6 = cs4 := counts_uniq hc6 HC2.out
      have hbb : b6 = bi := by
        rw [← HBI.out]
        apply Bool.eq_iff_iff.2
        rw [h6, decide_eq_true_iff, HM2.out]
      subst hbb
      have HB6 := hid (HB5.out.trans (hb6.mono HB5.out.size))
      clear HHA hc6 h6 hb6 g50 g51
      cases b6 <;>
      · go_wp2_with fail
        refine (lives_any w6).mono ?_
        rintro er w11 ⟨rfl, bb⟩
        go_wp2
        go_ret
        exact ⟨rfl, HQ1.out.trans ((HB6.out.trans (bb.mono HB6.out.size)).mono HQ1.out.size)⟩
end Go.Proofs.YtcligogmmjdobaaGreatDoor.Sh
