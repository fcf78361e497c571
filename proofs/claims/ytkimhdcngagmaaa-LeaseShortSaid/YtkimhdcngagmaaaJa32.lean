/-
  The document's book: Until, by contract.
-/
import Derived.Test.YtkimhdcngagmaaaJa13
set_option linter.unusedVariables false
set_option linter.unusedSimpArgs false
namespace Go.Proofs.Ytkimhdcngagmaaa.Sh
open Go Go.RowKit

set_option linter.unusedSimpArgs false
set_option linter.unusedVariables false
theorem minR_snoc (l : List Hl) (h : Hl) (m : Int) (x : Int × Int) : minR (l ++ [h]) m x = if hlId x.1 x.2 h = true then min (minR l m x) h.u else minR l m x := by
  unfold minR
  rw [List.filter_append, List.foldl_append]
  cases hh : hlId x.1 x.2 h <;> simp [hh]
theorem any_snoc {α : Type} (l : List α) (p : α → Bool) (x : α) : (l ++ [x]).any p = (l.any p || p x) := by simp
theorem all_snoc {α : Type} (l : List α) (p : α → Bool) (x : α) : (l ++ [x]).all p = (l.all p && p x) := by simp
theorem RB.least_snoc (r : RB) (l : List Hl) (ids : List (Int × Int)) (x : Int × Int) : r.least l (ids ++ [x]) = if x.1 = r.own then r.least l ids else minR l (r.least l ids) x := by
  unfold RB.least
  rw [List.filter_append, List.foldl_append]
  by_cases h : x.1 = r.own
  · simp [h]
  · simp [h]
theorem all_take {α : Type} {l : List α} {p : α → Bool} {k : Nat} {x : α} (hx : l[k]? = some x) (hp : p x = false) : l.all p = false := by
  rw [Bool.eq_false_iff]
  intro h
  rw [List.all_eq_true.1 h x (List.mem_of_getElem? hx)] at hp
  cases hp
set_option maxHeartbeats 16000000 in
theorem refUntil_any {w : World} {P : Nat → Prop} {g : Nat} {r : RB} (h : BookR w P g r) (hmL : r.L.length ≤ 1000000) (A : Option Addr) (ids : List (Int × Int)) (n c : Nat) (hn : ids.length = n) (hnm : n ≤ 1000000) (hA : Els encI w w.heap.size A ids) (now : Int) :
    Calls Try.prog 15 #[.pointer (some ⟨g, 0, none⟩), .slice A n c, .int .i64 now] w fun e w' => e = .returned (.tuple #[.int .i64 (r.untilP ids now).1, .int .i64 (r.untilP ids now).2]) ∧ Below w.heap.size w w' := by
  have HHD := hid (refHeld_any h hmL now)
  obtain ⟨⟨LA, SA, lc, sc, p0, hr, a1, a2, a3, b1, b2, b3⟩, hd⟩ := h
  have hgl := hd g p0
  have HC := hid (fun W (hW : Below w.heap.size w W) => show W.cell? ⟨g, 0, none⟩ = some (.int .i64 r.own) by rw [cell_of_row W g 0 _ _ (0, 0) ((hW.block g hgl).trans hr)]; rfl)
  have HY := hid (fun W (hW : Below w.heap.size w W) => (hA.below hW).more hW.size)
  have HN := hid hn
  have HU : Hid (∀ l, l = r.held now → r.untilP ids now = if ids.all (r.goodU l) = true then (r.least l ids, 0) else (0, 13)) := hid (fun l hl => by rw [hl]; rfl)
  have HG : Hid (∀ l x, r.goodU l x = (decide (x.1 = r.own) || l.any (hlId x.1 x.2))) := hid (fun _ _ => rfl)
  have HLS := hid (r.least_snoc)
  have HL0 : Hid (∀ l, r.least l [] = 1099511627776) := hid (fun _ => rfl)
  obtain ⟨o, ho⟩ : ∃ o, r.own = o := ⟨_, rfl⟩
  rw [ho] at HC HG HLS
  clear hr a1 a2 a3 b1 b2 b3 hd p0 hA hn hgl hmL ho
  go_enter Try.func15, Try.ntmps15
  go_wp2_with fail
  refine HHD.out.mono ?_
  rintro er w3 ⟨A3, m, c3, rfl, hl3, hc3, hm3, hlm, ho3, hb3⟩
  obtain ⟨l, hl⟩ : ∃ l, r.held now = l := ⟨_, rfl⟩
  rw [hl] at hl3 ho3
  have HUL := hid (HU.out l hl.symm)
  have HM := hid hl3
  have HE3 := hid ((show Own (E := encL) w3 w.heap.size 55 (.slice A3 l.length c3) l from by rw [hl3]; exact ho3) |> own_els)
  have HB3 := hid hb3
  have HY3 := hid (HY.out w3 hb3)
  have c0 := HC.out w3 hb3
  clear HHD hl ho3 hb3 hl3 HU HY HC
  go_wp2_with fail
  go_loopw [8, 10] (fun v i wr => ∃ k : Nat, k ≤ n ∧ i = .int .i64 (k : Int) ∧ v = .int .i64 (r.least l (ids.take k)) ∧ Hid ((ids.take k).all (r.goodU l) = true) ∧ Hid (Below w3.heap.size w3 wr)) (fun _ i _ => n - (intOf i).toNat)
  case atStart => exact ⟨0, Nat.zero_le _, rfl, by rw [List.take_zero, HL0.out], hid (by simp), hid (Below.refl _ _)⟩
  case round =>
    obtain ⟨wj, hwj⟩ : ∃ x, x = wr := ⟨_, rfl⟩
    subst hwj
    obtain ⟨k, hk, rfl, rfl, HP, HBJ⟩ := hrel
    have hk0 : (0 : Int) ≤ (k : Int) := Int.natCast_nonneg _
    have hgb := (World.block_lt_of_cell? w3 _ c0)
    by_cases hlt : k < n
    · obtain ⟨x, hx⟩ : ∃ x, ids[k]? = some x := ⟨_, List.getElem?_eq_getElem (by rw [HN.out]; exact hlt)⟩
      obtain ⟨ad, aj, hA, hab, ea, hbj, a0, a1⟩ := HY3.out.get hx
      subst hA
      have ea : ad.add (k * 2) = aj := ea
      have d0 := a0 _ rfl
      have d1 := a1 1 _ (by omega) rfl
      have HX := hid hx
      have HTK := hid (take_snoc_of hx)
      obtain ⟨xd, xq⟩ := x
      simp only at d0 d1
      have hk1 : (k : Int) < (n : Int) := by omega
      have HKS : Hid (∀ W, Below w3.heap.size w3 W → W.cell? aj = some (.int .i64 xd) ∧ W.cell? ⟨aj.block, aj.off + 1, none⟩ = some (.int .i64 xq) ∧ W.cell? ⟨g, 0, none⟩ = some (.int .i64 o)) := hid (fun W hW => by
        have h1 : aj.block < w3.heap.size := by rw [hbj]; exact hab
        exact ⟨(hW.cell h1).trans d0, (hW.cell (p := ⟨aj.block, aj.off + 1, none⟩) h1).trans d1, (hW.cell (p := ⟨g, 0, none⟩) hgb).trans c0⟩)
      clear hx a0 a1 hab hbj d0 d1
      obtain ⟨d0, d1, hcj⟩ := HKS.out wj HBJ.out
      by_cases he : xd = o
      · have HT : Hid ((ids.take (k + 1)).all (r.goodU l) = true) := hid (by rw [HTK.out, all_snoc, HP.out, HG.out]; simp [he])
        have HLT : Hid (r.least l (ids.take (k + 1)) = r.least l (ids.take k)) := hid (by rw [HTK.out, HLS.out, if_pos he])
        subst he
        go_wp2_with fail
        go_quiet (fail)
        go_wp2_with fail
        go_roundw
        case rel => exact ⟨k + 1, by omega, by go_num, by rw [HLT.out], HT, hid (below_drewN HBJ.out _)⟩
        case measure => simp [intOf]; omega
      · have h1 : (xd == o) = false := beq_eq_false_iff_ne.2 he
        have HLT : Hid (r.least l (ids.take (k + 1)) = minR l (r.least l (ids.take k)) (xd, xq)) := hid (by rw [HTK.out, HLS.out, if_neg he])
        have HGX : Hid (r.goodU l (xd, xq) = l.any (hlId xd xq)) := hid (by rw [HG.out]; simp [he])
        obtain ⟨L0, hL0⟩ : ∃ z, r.least l (ids.take k) = z := ⟨_, rfl⟩
        rw [hL0] at HLT ⊢
        clear hL0
        go_wp2_with fail
        go_quiet (fail)
        clear d0 d1 hcj
        go_wp2_with fail
        go_loopw [8, 11, 12] (fun v t j wr => ∃ q : Nat, q ≤ m ∧ j = .int .i64 (q : Int) ∧ v = .int .i64 (minR (l.take q) L0 (xd, xq)) ∧ t = .bool ((l.take q).any (hlId xd xq)) ∧ Hid (Below w3.heap.size w3 wr)) (fun _ _ j _ => m - (intOf j).toNat)
        case atStart => exact ⟨0, Nat.zero_le _, rfl, rfl, rfl, hid (below_drewN HBJ.out _)⟩
        case round =>
          obtain ⟨wi, hwi⟩ : ∃ x, x = wr := ⟨_, rfl⟩
          subst hwi
          obtain ⟨q, hq, rfl, rfl, rfl, HBI⟩ := hrel
          have hq0 : (0 : Int) ≤ (q : Int) := Int.natCast_nonneg _
          obtain ⟨L1, hL1⟩ : ∃ z, minR (l.take q) L0 (xd, xq) = z := ⟨_, rfl⟩
          obtain ⟨t1, ht1⟩ : ∃ z, (l.take q).any (hlId xd xq) = z := ⟨_, rfl⟩
          rw [hL1, ht1]
          have HL1 := hid hL1
          have HT1 := hid ht1
          clear hL1 ht1
          by_cases hlt2 : q < m
          · obtain ⟨⟨⟨yd, yq, nm, kd, wh, ao, an, bo, bn⟩, yu⟩, hx⟩ : ∃ x, l[q]? = some x := ⟨_, List.getElem?_eq_getElem (by rw [HM.out]; exact hlt2)⟩
            obtain ⟨ad2, ai, hA, hab, ea2, hbi, f0, fs⟩ := ((HE3.out.below HBI.out).more HBI.out.size).get hx
            subst hA
            have ea2 : ad2.add (q * 10) = ai := ea2
            have e0 := f0 _ rfl
            have e1 := fs 1 _ (by omega) rfl
            have e9 := fs 9 _ (by omega) rfl
            simp only at e0 e1 e9
            obtain ⟨d0, d1, -⟩ := HKS.out wi HBI.out
            have hq1 : (q : Int) < (m : Int) := by omega
            have HMS : Hid (minR (l.take (q + 1)) L0 (xd, xq) = if hlId xd xq ⟨⟨yd, yq, nm, kd, wh, ao, an, bo, bn⟩, yu⟩ = true then min L1 yu else L1) := hid (by rw [take_snoc_of hx, minR_snoc, HL1.out])
            have HTS : Hid ((l.take (q + 1)).any (hlId xd xq) = (t1 || hlId xd xq ⟨⟨yd, yq, nm, kd, wh, ao, an, bo, bn⟩, yu⟩)) := hid (by rw [take_snoc_of hx, any_snoc, HT1.out])
            have HID : Hid (hlId xd xq ⟨⟨yd, yq, nm, kd, wh, ao, an, bo, bn⟩, yu⟩ = decide (yd = xd ∧ yq = xq)) := hid rfl
            rw [HID.out] at HMS HTS
            clear hx f0 fs hab hbi
            by_cases e : yd = xd ∧ yq = xq
            · rw [decide_eq_true e] at HMS HTS
              obtain ⟨rfl, rfl⟩ := e
              simp only [if_true, Bool.or_true] at HMS HTS
              by_cases hlu : yu < L1
              · have HM2 : Hid (min L1 yu = yu) := hid (by omega)
                go_wp2_with fail
                go_quiet (fail)
                go_wp2_with fail
                go_roundw
                case rel => exact ⟨q + 1, by omega, by go_num, by rw [HMS.out, HM2.out], by rw [HTS.out], hid (below_drewN HBI.out _)⟩
                case measure => simp [intOf]; omega
              · have HM2 : Hid (min L1 yu = L1) := hid (by omega)
                go_wp2_with fail
                go_quiet (fail)
                go_wp2_with fail
                go_roundw
                case rel => exact ⟨q + 1, by omega, by go_num, by rw [HMS.out, HM2.out], by rw [HTS.out], hid (below_drewN HBI.out _)⟩
                case measure => simp [intOf]; omega
            · rw [decide_eq_false e] at HMS HTS
              simp only [Bool.false_eq_true, if_false, Bool.or_false] at HMS HTS
              have hne : (yd == xd) = false ∨ (yd == xd) = true ∧ (yq == xq) = false := by
                by_cases h : yd = xd
                · exact .inr ⟨by simp [h], beq_eq_false_iff_ne.2 (fun h2 => e ⟨h, h2⟩)⟩
                · exact .inl (beq_eq_false_iff_ne.2 h)
              rcases hne with hne | ⟨hn1, hn2⟩
              · go_wp2_with fail
                go_quiet (fail)
                go_wp2_with fail
                go_roundw
                case rel => exact ⟨q + 1, by omega, by go_num, by rw [HMS.out], by rw [HTS.out], hid (below_drewN HBI.out _)⟩
                case measure => simp [intOf]; omega
              · go_wp2_with fail
                go_quiet (fail)
                go_wp2_with fail
                go_roundw
                case rel => exact ⟨q + 1, by omega, by go_num, by rw [HMS.out], by rw [HTS.out], hid (below_drewN HBI.out _)⟩
                case measure => simp [intOf]; omega
          · obtain rfl : q = m := by omega
            have HT : Hid (l.take q = l) := hid (List.take_of_length_le (by rw [HM.out]; exact Nat.le_refl _))
            rw [HT.out] at HL1 HT1
            cases t1
            · have HE : Hid (r.untilP ids now = (0, 13)) := hid (by rw [HUL.out, if_neg (by rw [all_take HX.out (by rw [HGX.out, HT1.out])]; simp)])
              go_wp2_with fail
              go_ret2
              exact ⟨by rw [HE.out]; rfl, HB3.out.trans (HBI.out.mono HB3.out.size)⟩
            · have HT2 : Hid ((ids.take (k + 1)).all (r.goodU l) = true) := hid (by rw [HTK.out, all_snoc, HP.out, HGX.out, HT1.out]; rfl)
              go_wp2_with fail
              go_roundw
              case rel => exact ⟨k + 1, by omega, by go_num, by rw [HLT.out, HL1.out], HT2, HBI⟩
              case measure => simp [intOf]; omega
    · obtain rfl : k = n := by omega
      have HT : Hid (ids.take k = ids) := hid (List.take_of_length_le (by rw [HN.out]; exact Nat.le_refl _))
      rw [HT.out] at HP ⊢
      have HE : Hid (r.untilP ids now = (r.least l ids, 0)) := hid (by rw [HUL.out, if_pos HP.out])
      go_wp2_with fail
      go_ret2
      exact ⟨by rw [HE.out]; rfl, HB3.out.trans (HBJ.out.mono HB3.out.size)⟩
end Go.Proofs.Ytkimhdcngagmaaa.Sh
