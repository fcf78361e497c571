/-
  The search's support, by contract.
-/
import Derived.Test.YtoajckhnneagnaaDoorJd36
import Derived.Test.YtoajckhnneagnaaDoorJd38
import Derived.Test.YtoajckhnneagnaaDoorJd42
import Derived.Maps.RangeWalk
import Derived.Test.YtoajckhnneagnaaDoorJd40
set_option linter.unusedVariables false
set_option linter.unusedSimpArgs false
namespace Go.Proofs.YtoajckhnneagnaaDoor.Sh
open Go Go.RowKit
open Go.Maps (Keyed)

set_option linter.unusedVariables false
set_option linter.unusedSimpArgs false
theorem ch_zU (w : World) : (zeroValue 92).run Tryd.prog w = .ok (.agg #[]) w := by kernel_rfl
theorem IMap.look {w : World} {b : Nat} {l : List (Int × Int)} (h : IMap w b l) {i : Int × Int} (hi : okI i) : (Instr.lookup 78 (.map (some b)) (.agg #[.int .i64 i.1, .int .i64 i.2]) true).run Tryd.prog w = .ok (.tuple #[.agg #[], .bool (decide (i ∈ l))]) w := by
  obtain ⟨D, h1, h2, h3⟩ := h
  obtain ⟨v, ps, hrun, hv⟩ := h1.look_ok lawI Tryd.underlying78 (ch_zU w) (unitElem_mk (H := Unit)) (keyI hi)
  obtain ⟨rfl, _⟩ := unitElem_inv hv
  unfold iV at hrun
  rw [hrun, h2 i hi]
theorem own_not_map {w : World} {B b g : Nat} {T : TypeId} {v : Value} {l h : List (Int × Int)} (ho : Own (E := encI) w B T v l) (hm : IMap w b h) (hg : v.ownBlock = some g) : g ≠ b := by
  obtain ⟨D, ⟨es, clock, h1, _⟩, _⟩ := hm
  obtain ⟨-, hr⟩ := ho
  rcases hr with ⟨rfl, -⟩ | ⟨gr, cp, cur, rfl, hB, hh, -⟩
  · simp [Value.ownBlock] at hg
  · intro e
    simp only [Value.ownBlock, Option.some.injEq] at hg
    subst hg e
    rw [hh] at h1
    cases h1
def Had (re : Why) (i : Int × Int) : Prop := ∃ q ps, okP q ∧ re q = some (i, ps)
open Classical in
noncomputable def hadOf (re : Why) (cs : List Crd) : List (Int × Int) := (cs.filter fun c => decide (Had re (c.d, c.q))).map fun c => (c.d, c.q)
open Classical in
theorem hadOf_snoc (re : Why) (cs : List Crd) (c : Crd) : hadOf re (cs ++ [c]) = if Had re (c.d, c.q) then hadOf re cs ++ [(c.d, c.q)] else hadOf re cs := by
  unfold hadOf
  rw [List.filter_append, List.map_append]
  by_cases h : Had re (c.d, c.q)
  · rw [if_pos h]; simp [h]
  · rw [if_neg h]; simp [h]
open Classical in
theorem hadOf_mem {re : Why} {cs : List Crd} {i : Int × Int} : i ∈ hadOf re cs ↔ Had re i ∧ ∃ c ∈ cs, i = (c.d, c.q) := by
  unfold hadOf
  rw [List.mem_map]
  constructor
  · rintro ⟨c, hc, rfl⟩
    rw [List.mem_filter] at hc
    exact ⟨of_decide_eq_true hc.2, c, hc.1, rfl⟩
  · rintro ⟨h, c, hc, rfl⟩
    exact ⟨c, List.mem_filter.2 ⟨hc, decide_eq_true h⟩, rfl⟩
theorem hadOf_len (re : Why) (cs : List Crd) : (hadOf re cs).length ≤ cs.length := by
  unfold hadOf
  rw [List.length_map]
  exact List.length_filter_le _ _
set_option maxHeartbeats 16000000 in
set_option maxRecDepth 100000 in
theorem csupport_any {L : Ly} {vF vL : Value} {col : Col} {s : Se} (hS : Sch L s) (w : World) (re : Why) (nr : Nat) (h : Sea L w vF vL col ⟨s, re, nr, []⟩) (hr : ReI L.cs L.pe re nr) :
    Calls Tryd.prog 32 #[.pointer (some ⟨L.sb, 0, none⟩)] w fun e w' => ∃ (A : Option Addr) (c : Nat), e = .returned (.slice A (hadOf re L.cs).length c) ∧ Own (E := encI) w' w.heap.size 27 (.slice A (hadOf re L.cs).length c) (hadOf re L.cs) ∧ Below w.heap.size w w' := by
  have hmm := @run_makeMap Tryd.prog
  obtain ⟨w1, hw1⟩ : ∃ w1, w1 = w.alloc (.map #[] 0) := ⟨_, rfl⟩
  obtain ⟨gb, hgb⟩ : ∃ g, w.heap.size = g := ⟨_, rfl⟩
  have hB1 : Below w.heap.size w w1 := by rw [hw1]; exact (Below.refl _ _).alloc (Nat.le_refl _) _
  have HB1 := hid hB1
  have hs1 := h.below hB1
  have HIM : Hid (IMap w1 gb []) := hid (by rw [hw1, ← hgb]; exact IMap.new w)
  have HNR : Hid (nr ≤ 850) := hid (by
    have h1 := hr.len
    have h2 : L.cs.length * L.pe.length ≤ 850 := by rw [pe_len]; have := hS.few; omega
    omega)
  have HOKI : Hid (∀ q i ps, re q = some (i, ps) → okI i) := hid (fun q i ps e => by
    obtain ⟨c, h1, h2⟩ := hr.ok q i ps e
    rw [h2]
    exact may_okI (hS.may c (fs_mem h1)))
  have HMAY := hid hS.may
  have HFEW := hid hS.few
  obtain ⟨sb, hsb⟩ : ∃ sb, L.sb = sb := ⟨_, rfl⟩
  obtain ⟨b7, hb7⟩ : ∃ b, L.b7 = b := ⟨_, rfl⟩
  obtain ⟨D, hD1, hD2, hD3, hD4⟩ := hs1.re
  have c7 : w1.cell? ⟨sb, 23, none⟩ = some (.map (some b7)) := by have := hs1.cell.2.2.2.2.2.2.1; rw [hsb, hb7] at this; exact this
  rw [hb7] at hD1
  have HSB := hid hsb
  have HS0 := hid h
  have HLA := hid hs1.cr
  have HD3 := hid hD3
  have HD4 := hid hD4
  have HGB := hid hgb
  have HB7 : Hid (b7 < gb) := hid (by rw [← hb7, ← hgb]; exact h.dom _ _ h.c7)
  have HGS : Hid (w1.heap.size = gb + 1) := hid (by rw [hw1, World.size_alloc, hgb])
  simp only [hsb]
  clear h hr hS hB1 hs1 hD2 hD3 hD4 hsb hb7
  go_enter Tryd.func32, Tryd.ntmps32
  go_upto_region 2 with fail
  rw [← hw1]
  try rw [hgb]
  clear hw1 hgb hmm
  go_wp2_with (first
    | (at_range; refine wpList_range_own _ rfl _ 67 rfl 58 90 lawP Tryd.underlying67 _ b7 nr D rfl hD1 ?_; intro w0 hrg0 hg0 hs0)
    | go_in)

  obtain ⟨gr, hgr⟩ : ∃ g, w1.heap.size = g := ⟨_, rfl⟩
  have HGR : Hid (gr = gb + 1) := hid (by rw [← hgr]; exact HGS.out)
  have HB0 : Hid (Below w.heap.size w w0) := hid (HB1.out.grown hg0 HB1.out.size (fun g e => by cases e))
  have HI0 : Hid (IMap w0 gb []) := hid (HIM.out.at' (hg0.block gb HIM.out.lt (by simp)))
  have HR0 := hid hrg0
  have hsz : Maps.size D ≤ nr := hrg0.owns.size_le
  rw [hgr] at HR0 ⊢
  clear hg0 hs0 hrg0 c7 hD1 hgr HIM
  go_loopw [5] (fun _ wr => ∃ (left : Lit → Bool) (cnt : Nat) (F : List (Int × Int)), Hid (wr.ranges Tryd.prog 58 tokR b7 gr nr D left cnt) ∧ Hid (IMap wr gb F) ∧ F.length + cnt ≤ nr ∧ Hid (∀ i ∈ F, Had re i) ∧ Hid (∀ q, okP q → left (kp q) = false → ∀ i ps, re q = some (i, ps) → i ∈ F) ∧ Hid (Below w.heap.size w wr)) (fun _ wr => wr.rangeLeft b7 gr)
  case atStart =>
    exact ⟨_, _, [], HR0, HI0, by simpa using hsz, hid (by simp), hid (fun q hq hl i ps e => by
      rcases HD4.out q hq with ⟨h1, h2⟩ | ⟨i', ps', A, c, h1, h2, _⟩
      · rw [h2] at e; cases e
      · rw [mget_none HR0.out.owns hl] at h2; cases h2), HB0⟩
  case round =>
    obtain ⟨left, cnt, F, HRG, HIF, hlc, HHA, HDN, HBW⟩ := hrel
    have hrg := HRG.out
    obtain ⟨wl, hwl⟩ : ∃ x, x = wr := ⟨_, rfl⟩
    subst hwl
    go_wp2_with (first | (at_next; refine wpList_next_ranges _ rfl _ rfl 58 lawP tokR id id (fun key kl hk => ⟨key, rfl⟩) (fun v _ _ => ⟨v, rfl⟩) b7 gr nr _ _ _ rfl hrg ?_ ?_) | go_in)
    · intro hc0 hl0
      have HFF : Hid (∀ i, okI i → (i ∈ F ↔ Had re i)) := hid (fun i hi => ⟨HHA.out i, fun ⟨q, ps, hq, e⟩ => HDN.out q hq (hl0 _) i ps e⟩)
      clear hl0 hc0 hrg HR0 HI0 HB0 hsz HHA HDN hlc HRG
      obtain ⟨A, hA⟩ : ∃ A, L.A = A := ⟨_, rfl⟩
      obtain ⟨n, hn⟩ : ∃ n, L.nc = n := ⟨_, rfl⟩
      obtain ⟨c, hc⟩ : ∃ c, L.cc = c := ⟨_, rfl⟩
      have hSL := HS0.out.below HBW.out
      have HSL := hid hSL
      have HEL : Hid (Crs wl wl.heap.size A L.cs) := hid (by rw [← hA]; exact hSL.cr.2.2.2.1)
      have HLN : Hid (L.cs.length = n) := hid (by rw [← hn]; exact hSL.cr.1)
      have hn1 : n ≤ c := by rw [← hn, ← hc]; exact hSL.cr.2.1
      have hn2 : c ≤ 9223372036854775807 := by rw [← hc]; exact hSL.cr.2.2.1
      have c17 : wl.cell? ⟨sb, 17, none⟩ = some (.slice A n c) := by have := hSL.cell.1; rw [HSB.out, hA, hn, hc] at this; exact this
      have HN5 : Hid (n ≤ 50) := hid (by rw [← HLN.out]; exact HFEW.out)
      have HAA := hid hA
      clear hSL hA hn hc
      go_wp2_with fail
      clear c17
      go_loopw [6, 30] (fun v i wr => ∃ (A2 : Option Addr) (m c2 j : Nat), v = .slice A2 m c2 ∧ i = .int .i64 (j : Int) ∧ j ≤ n ∧ Hid ((hadOf re (L.cs.take j)).length = m) ∧ Hid (Own (E := encI) wr w.heap.size 27 (.slice A2 m c2) (hadOf re (L.cs.take j))) ∧ Hid (IMap wr gb F) ∧ Hid (Below w.heap.size w wr)) (fun _ i _ => n - (intOf i).toNat)
      case atStart => exact ⟨none, 0, 0, 0, rfl, rfl, Nat.zero_le _, hid (by simp [hadOf]), hid (by simp [hadOf]; exact Own.nil _ _ _), HIF, HBW⟩
      case round =>
        obtain ⟨A2, m, c2, j, rfl, rfl, hj, HM, HOW, HIJ, HBJ⟩ := hrel
        obtain ⟨wj, hwj⟩ : ∃ x, x = wr := ⟨_, rfl⟩
        subst hwj
        by_cases hlt : j < n
        · obtain ⟨⟨d, q, nm, kd, wh, ao, an, bo, bn⟩, hx⟩ : ∃ x, L.cs[j]? = some x := ⟨_, List.getElem?_eq_getElem (by rw [HLN.out]; exact hlt)⟩
          have hel : Crs wj wj.heap.size A L.cs := by
            have h1 := (HS0.out.below HBJ.out).cr.2.2.2.1
            rwa [HAA.out] at h1
          obtain ⟨ad, aj, rfl, hab, ea, hbj, a0, a1, a2, a3, a4, a5, a6, a7, a8⟩ := hel.get hx
          simp only at a0 a1 a2 a3 a4 a5 a6 a7 a8
          have hj0 : (0 : Int) ≤ (j : Int) := Int.natCast_nonneg _
          have hj1 : (j : Int) < (n : Int) := by omega
          have hok : okI (d, q) := may_okI (HMAY.out _ (List.mem_of_getElem? hx))
          have HNX : Hid (L.cs.take (j + 1) = L.cs.take j ++ [⟨d, q, nm, kd, wh, ao, an, bo, bn⟩]) := hid (take_snoc_of hx)
          have hlook := (HIJ.out.kept ((Below.refl wj.heap.size wj).alloc (Nat.le_refl _) (.cells #[.int .i64 d, .int .i64 q, .string nm, .int .i64 kd, .string wh, .string ao, .string an, .string bo, .string bn] 55))).look hok
          obtain ⟨w8, hw8⟩ : ∃ w8, w8 = (wj.alloc (.cells #[.int .i64 d, .int .i64 q, .string nm, .int .i64 kd, .string wh, .string ao, .string an, .string bo, .string bn] 55)).alloc (.cells #[] 92) := ⟨_, rfl⟩
          have HQ8 : Hid (Below wj.heap.size wj w8) := hid (by rw [hw8]; exact ((Below.refl _ _).alloc (Nat.le_refl _) _).alloc (by simp) _)
          have hg8 : w8.heap[wj.heap.size]? = some (.cells #[.int .i64 d, .int .i64 q, .string nm, .int .i64 kd, .string wh, .string ao, .string an, .string bo, .string bn] 55 (0, 0)) := by rw [hw8]; exact keep_alloc (new_at rfl)
          have d0 : w8.cell? ⟨wj.heap.size, 0, none⟩ = some (.int .i64 d) := by rw [cell_of_row w8 _ 0 _ _ (0, 0) hg8]; rfl
          have d1 : w8.cell? ⟨wj.heap.size, 1, none⟩ = some (.int .i64 q) := by rw [cell_of_row w8 _ 1 _ _ (0, 0) hg8]; rfl
          have HHF := HFF.out (d, q) hok
          have HI8 := hid (HIJ.out.kept HQ8.out)
          have HB8 : Hid (Below w.heap.size w w8) := hid (HBJ.out.trans (HQ8.out.mono HBJ.out.size))
          have HO8 := hid (HOW.out.below HQ8.out)
          clear hx hel hab hbj hok hg8
          by_cases hin : (d, q) ∈ F
          · rw [decide_eq_true hin] at hlook
            have HNN : Hid (hadOf re (L.cs.take (j + 1)) = hadOf re (L.cs.take j) ++ [(d, q)]) := hid (by rw [HNX.out, hadOf_snoc, if_pos (HHF.1 hin)])
            clear HHF hin
            obtain ⟨H, hH⟩ : ∃ H, hadOf re (L.cs.take j) = H := ⟨_, rfl⟩
            rw [hH] at HM HOW HO8 HNN
            have hHl : H.length ≤ 1000000000000 := by rw [← hH]; have := hadOf_len re (L.cs.take j); have h2 := HN5.out; rw [List.length_take] at this; omega
            go_upto_region 12 with fail
            try rw [← hw8]
            clear hlook hw8 a0 a1 a2 a3 a4 a5 a6 a7 a8 ea hH
            have HOA := hid (HO8.out.alloc (.cells #[.int .i64 d, .int .i64 q] 27))
            have HRD := hid (reads_new w8 #[.int .i64 d, .int .i64 q] 27 (0, 0))
            have HBA := hid (HB8.out.alloc HB8.out.size (.cells #[.int .i64 d, .int .i64 q] 27))
            have HIA := hid (HI8.out.kept ((Below.refl w8.heap.size w8).alloc (Nat.le_refl _) (.cells #[.int .i64 d, .int .i64 q] 27)))
            have hbs : w.heap.size ≤ (w8.alloc (.cells #[.int .i64 d, .int .i64 q] 27)).heap.size := HBA.out.size
            have HOG : Hid (∀ g, (Value.slice A2 m c2).ownBlock = some g → g ≠ gb) := hid (fun g e => own_not_map HO8.out HI8.out e)
            go_wp2_with (first | (at_builtin; refine wpList_app1 (E := encI) rfl slI (.tmp 42) (.tmp 45) rfl (B := w.heap.size) (v := .slice A2 m c2) (l := H) HOA.out rfl (ad := ⟨w8.heap.size, 0, none⟩) (c := 1) (d, q) rfl HRD.out hHl (by omega) hbs ?_; intro A9 c9 w9 ho9 hg9 he9; have HO9 := hid ho9; have HB9 := hid (HBA.out.grown hg9 hbs (fun g e => (World.ownsRow.lt HOA.out g e).1)); have HI9 := hid (HIA.out.at' (hg9.block gb HIA.out.lt (fun e => HOG.out gb e.symm rfl))); clear ho9 hg9 he9) | go_in)
            go_roundw
            case rel => exact ⟨A9, m + 1, c9, j + 1, by rw [HM.out], by go_num, by omega, hid (by rw [HNN.out, List.length_append, List.length_singleton, HM.out]), hid (by rw [HNN.out]; have := HO9.out; rwa [HM.out] at this), HI9, HB9⟩
            case measure => simp [intOf]; omega
          · rw [decide_eq_false hin] at hlook
            have HNN : Hid (hadOf re (L.cs.take (j + 1)) = hadOf re (L.cs.take j)) := hid (by rw [HNX.out, hadOf_snoc, if_neg (fun h => hin (HHF.2 h))])
            clear HHF hin
            go_wp2_with fail
            try rw [← hw8]
            go_roundw
            case rel => exact ⟨A2, m, c2, j + 1, rfl, by go_num, by omega, hid (by rw [HNN.out]; exact HM.out), hid (by rw [HNN.out]; exact HO8.out), HI8, HB8⟩
            case measure => simp [intOf]; omega
        · obtain rfl : j = n := by omega
          have HE : Hid (hadOf re (L.cs.take j) = hadOf re L.cs) := hid (by rw [List.take_of_length_le (by rw [HLN.out]; exact Nat.le_refl _)])
          go_wp2_with fail
          go_ret
          exact ⟨A2, c2, by rw [← HE.out, HM.out]; rfl, by rw [← HE.out, HM.out]; exact HOW.out, HBJ.out⟩
    · intro x v kl yd yp w2 cnt2 hkey hlk hv hat hrg2 hlt hg2 hs2 hen
      obtain ⟨q, hq, rfl⟩ := HD3.out kl (Maps.has_true_of_atKey hat)
      have hget : mget D (kp q) = some v := by
        unfold mget
        rw [hat]
        simp only [tokR, id, Option.some.injEq, Prod.mk.injEq] at hv
        rw [← hv.1]
      rcases HD4.out q hq with ⟨h1, h2⟩ | ⟨⟨d, qq⟩, ps, A, c, hre, hval, -, -, -, -⟩
      · rw [hget] at h1; cases h1
      rw [hget] at hval
      obtain rfl := Option.some.inj hval
      have hok := HOKI.out _ _ _ hre
      have HRE := hid hre
      have HQ := hid hq
      obtain ⟨w3, hw3⟩ : ∃ w3, w3 = w2.alloc (.cells #[.int .i64 d, .int .i64 qq, .slice A ps.length c] 90) := ⟨_, rfl⟩
      have hne : gb ≠ gr := by rw [HGR.out]; omega
      have HB2 : Hid (Below w.heap.size w w2) := hid (HBW.out.grown hg2 HBW.out.size (fun g e => by cases e; rw [HGR.out, HGB.out]; omega))
      have HB3 : Hid (Below w.heap.size w w3) := hid (by rw [hw3]; exact HB2.out.alloc HB2.out.size _)
      have HI3 : Hid (IMap w3 gb F) := hid (by
        rw [hw3]
        exact (HIF.out.at' (hg2.block gb HIF.out.lt (fun e => hne (by cases e; rfl)))).kept ((Below.refl _ _).alloc (Nat.le_refl _) _))
      obtain ⟨w4, hrun, hm4, hg4⟩ := HI3.out.add (i := (d, qq)) hok (by have := HNR.out; omega)
      have HM4 := hid hm4
      have HB4 : Hid (Below w.heap.size w w4) := hid (HB3.out.grown hg4 HB3.out.size (fun g e => by cases e; rw [HGB.out]; exact Nat.le_refl _))
      have HR4 : Hid (w4.ranges Tryd.prog 58 tokR b7 gr nr D (fun z => left z && !z.sameKey (kp q)) cnt2) := hid (by
        have h3 : w3.ranges Tryd.prog 58 tokR b7 gr nr D (fun z => left z && !z.sameKey (kp q)) cnt2 := by rw [hw3]; exact hrg2.alloc _
        exact h3.kept hg4 (fun e => by cases e; have := HB7.out; omega) (fun e => by cases e; exact hne rfl))
      have HDN4 : Hid (∀ q', okP q' → (left (kp q') && !(kp q').sameKey (kp q)) = false → ∀ i ps, re q' = some (i, ps) → i ∈ F ++ [(d, qq)]) := hid (fun q' hq' hl' i ps' e => by
        rw [List.mem_append, List.mem_singleton]
        by_cases hqq : q' = q
        · subst hqq
          rw [HRE.out] at e
          cases e
          exact .inr rfl
        · refine .inl (HDN.out q' hq' ?_ i ps' e)
          have hsk : (kp q').sameKey (kp q) = false := Bool.eq_false_iff.2 fun e2 => hqq (kp_inj _ _ hq' HQ.out (by
            unfold kp Lit.sameKey at e2
            simp only [beq_iff_eq, decide_eq_true_eq] at e2
            unfold kp
            rw [e2]))
          rw [hsk] at hl'
          simpa using hl')
      have HHA4 : Hid (∀ i ∈ F ++ [(d, qq)], Had re i) := hid (fun i hi => by
        rcases List.mem_append.1 hi with h | h
        · exact HHA.out i h
        · rw [List.mem_singleton.1 h]; exact ⟨q, ps, HQ.out, HRE.out⟩)
      have hlen4 : (F ++ [(d, qq)]).length + cnt2 ≤ nr := by rw [List.length_append, List.length_singleton]; omega
      have HLT := hid hlt
      simp only [id] at hen
      rw [hw3] at hrun
      clear hkey hlk hv hat hrg2 hg2 hs2 hget hq hre hm4 hg4 hok hrg hw3 hlt
      go_wp2
      go_roundw
      case rel => exact ⟨_, cnt2, F ++ [(d, qq)], HR4, HM4, hlen4, HHA4, HDN4, HB4⟩
      case measure => rw [HR4.out.left_eq, HRG.out.left_eq]; exact HLT.out
end Go.Proofs.YtoajckhnneagnaaDoor.Sh
namespace Go.Proofs.YtoajckhnneagnaaDoor.Sh
open Go Go.RowKit
open Go.Maps (Keyed)

set_option linter.unusedVariables false
set_option linter.unusedSimpArgs false
theorem counts_sortedI {out l : List Crd} (h : CountsOf out l) : SortedI (out.map fun c => (c.d, c.q)) := by
  unfold SortedI
  rw [List.pairwise_map]
  have h1 := h.1
  have h2 := counts_nodup h
  unfold Sd at h1
  refine (List.pairwise_and_iff.2 ⟨h1, h2⟩).imp_of_mem fun {a b} ha hb hab => ?_
  obtain ⟨g1, g2⟩ := hab
  unfold bef at g1
  unfold beforeI
  simp only [decide_eq_false_iff_not, decide_eq_true_eq] at g1 ⊢
  have g3 : ¬ (a.d = b.d ∧ a.q = b.q) := fun e => g2 (counts_onceI h a ha b hb (by rw [e.1, e.2]))
  omega
theorem SortedI.sub {a b : List (Int × Int)} (h : SortedI b) (hs : a.Sublist b) : SortedI a := List.Pairwise.sublist hs h
theorem hadOf_sorted {re : Why} {out l : List Crd} (h : CountsOf out l) : SortedI (hadOf re out) := by
  refine (counts_sortedI h).sub ?_
  unfold hadOf
  exact List.Sublist.map _ List.filter_sublist
def Needs (cs : List Crd) (P : Pr → Prop) (i : Int × Int) : Prop := ∃ q c ps, Rch cs P q ∧ fs cs q = some (c, ps) ∧ i = (c.d, c.q)
theorem had_needs {cs : List Crd} {P : Pr → Prop} {re : Why} (he : Exp cs P (fun _ => none) re) (hok : ∀ q, re q ≠ none → okP q) (hall : ∀ p, P p → re p ≠ none) {i : Int × Int} : i ∈ hadOf re cs ↔ Needs cs P i := by
  have hsh : Shut re := he.shuts (fun q i ps h => by cases h)
  rw [hadOf_mem]
  constructor
  · rintro ⟨⟨q, ps, hq, hre⟩, -⟩
    obtain ⟨c, h1, h2⟩ := he.ok q i ps hre
    exact ⟨q, c, ps, he.rch q rfl (by rw [hre]; simp), h1, h2⟩
  · rintro ⟨q, c, ps, hr, hf, rfl⟩
    have hn := shut_rch he.ok hsh hall hr
    cases e : re q with
    | none => exact absurd e hn
    | some x =>
      obtain ⟨i', ps'⟩ := x
      obtain ⟨c', h1, h2⟩ := he.ok q i' ps' e
      rw [hf] at h1
      cases h1
      exact ⟨⟨q, ps, hok q hn, by rw [e, h2]⟩, c, fs_mem hf, rfl⟩
def Tgt (rs : List Rl) (who : ByteArray) (p : Pr) : Prop := ∃ r ∈ rs, p = (r, who)
set_option maxHeartbeats 16000000 in
set_option maxRecDepth 100000 in
theorem cSupport_any (A : Option Addr) (all : List Crd) (n c : Nat) (hn : all.length = n) (hc : n ≤ c) (hc2 : c ≤ 9223372036854775807) (hm : n ≤ 50) (who : ByteArray) (hwho : okB who) (Ar : Option Addr) (rs : List Rl) (m cr : Nat) (hrm : rs.length = m) (hm4 : m ≤ 1000) (hok : ∀ r ∈ rs, okR r) (w : World) (h : Crs w w.heap.size A all) (hR : Els encR w w.heap.size Ar rs) :
    Calls Tryd.prog 15 #[.slice A n c, .string who, .slice Ar m cr] w fun e w' => ∃ cs, CountsOf cs all ∧ (((∃ r ∈ rs, rd cs (r, who) = 0) ∧ e = .returned (.tuple #[.slice none 0 0, .int .i64 16])) ∨ ((∀ r ∈ rs, rd cs (r, who) ≠ 0) ∧ ∃ (A' : Option Addr) (c' : Nat) (ss : List (Int × Int)), e = .returned (.tuple #[.slice A' ss.length c', .int .i64 0]) ∧ SortedI ss ∧ (∀ i, i ∈ ss ↔ Needs cs (Tgt rs who) i) ∧ Own (E := encI) w' w.heap.size 27 (.slice A' ss.length c') ss)) ∧ Below w.heap.size w w' := by
  have HRK := hid (ranked_any A all n c hn hc hc2 hm who hwho w h)
  have HRS := hid hR
  have HRM := hid hrm
  have HOK := hid hok
  have HWH := hid hwho
  clear hn hc hc2 hm h hR hrm hok hwho
  go_enter Tryd.func15, Tryd.ntmps15
  go_upto_region 2 with (go_at_call 27; (refine HRK.out.mono ?_); rintro er w2 ⟨L, vF, col, x, rfl, hco, hLB, hsea, hrk, bb⟩; have HCO := hid hco; have HRX := hid hrk; have HB2 := hid bb; have HLB := hid hLB; rw [hrk.eta] at hsea; have HS2 := hid hsea; clear hco hLB hsea hrk bb)
  obtain ⟨sb, hsb⟩ : ∃ sb, L.sb = sb := ⟨_, rfl⟩
  have HSB := hid hsb
  obtain ⟨s, hs⟩ : ∃ s, x.s = s := ⟨_, rfl⟩
  have HSC : Hid (Sch L s) := hid (by rw [← hs]; exact HRX.out.sch)
  have HME := hid HRX.out.me
  rw [hs] at HS2
  try rw [hsb]
  clear hsb hs
  go_wp2_with fail
  go_loopw [16] (fun i wr => ∃ (j : Nat) (vL : Value) (col : Col) (re : Why) (nr : Nat), i = .int .i64 (j : Int) ∧ j ≤ m ∧ Hid (Sea L wr vF vL col ⟨s, re, nr, []⟩) ∧ Hid (ReI L.cs L.pe re nr) ∧ Hid (Exp L.cs (Tgt (rs.take j) who) (fun _ => none) re) ∧ Hid (∀ r ∈ rs.take j, rd L.cs (r, who) ≠ 0 ∧ re (r, who) ≠ none) ∧ Hid (Below w.heap.size w wr)) (fun i _ => m - (intOf i).toNat)
  case atStart => exact ⟨0, _, _, _, _, rfl, Nat.zero_le _, HS2, hid ReI.zero, hid (Exp.refl (fun q i ps h => by cases h)), hid (by simp), HB2⟩
  case round =>
    obtain ⟨wj, hwj⟩ : ∃ x, x = wr := ⟨_, rfl⟩
    subst hwj
    obtain ⟨j, vL, colj, re, nr, rfl, hj, HSJ, HRI, HEX, HAL, HBJ⟩ := hrel
    by_cases hlt : j < m
    · obtain ⟨⟨o, nm⟩, hx⟩ : ∃ x, rs[j]? = some x := ⟨_, List.getElem?_eq_getElem (by rw [HRM.out]; exact hlt)⟩
      obtain ⟨ad, aj, rfl, hab, ea, hbj, a0, ai⟩ := (HRS.out.below HBJ.out).get hx
      have a0 := a0 _ rfl
      have a1 := ai 1 _ (by decide) rfl
      have ea : ad.add (j * 2) = aj := ea
      have hj0 : (0 : Int) ≤ (j : Int) := Int.natCast_nonneg _
      have hj1 : (j : Int) < (m : Int) := by omega
      have HOP : Hid (okP ((o, nm), who)) := hid ⟨HOK.out _ (List.mem_of_getElem? hx), HWH.out⟩
      have HNX : Hid (rs.take (j + 1) = rs.take j ++ [(o, nm)]) := hid (take_snoc_of hx)
      have HMM : Hid ((o, nm) ∈ rs) := hid (List.mem_of_getElem? hx)
      obtain ⟨w5, hw5⟩ : ∃ w5, w5 = wj.alloc (.cells #[.string o, .string nm] 24) := ⟨_, rfl⟩
      have HQ5 : Hid (Below wj.heap.size wj w5) := hid (by rw [hw5]; exact (Below.refl _ _).alloc (Nat.le_refl _) _)
      have HB5 : Hid (Below w.heap.size w w5) := hid (HBJ.out.trans (HQ5.out.mono HBJ.out.size))
      have HS5 := hid (HSJ.out.below HQ5.out)
      clear hx hab hbj ai
      by_cases hrd : rd L.cs ((o, nm), who) = 0
      · have HF := hid (find_no HSC.out ((o, nm), who) HOP.out HME.out hrd w5 _ _ HS5.out)
        have HRD := hid hrd
        rw [HSB.out] at HF
        clear hrd
        go_wp2_with (go_at_call 28; (try rw [← hw5]); (refine HF.out.mono ?_); rintro er w4 ⟨rfl, bb⟩; have HB4 := hid bb; clear bb)
        go_ret2
        exact ⟨L.cs, HCO.out, .inl ⟨⟨_, HMM.out, HRD.out⟩, rfl⟩, HB5.out.trans (HB4.out.mono HB5.out.size)⟩
      · have HF := hid (find_yes HSC.out ((o, nm), who) HOP.out HME.out hrd w5 _ _ HS5.out HRI.out)
        have HRD := hid hrd
        rw [HSB.out] at HF
        clear hrd
        go_wp2_with (go_at_call 28; (try rw [← hw5]); (refine HF.out.mono ?_); rintro er w4 ⟨rfl, vL', col', re', nr', hsea4, hri4, hex4, hhas4, hx4⟩; have HS4 := hid hsea4; have HRI4 := hid hri4; have HEX4 := hid hex4; have HHAS := hid hhas4; have HX4 := hid hx4; clear hsea4 hri4 hex4 hhas4 hx4)
        have HB4 : Hid (Below w.heap.size w w4) := hid (HB5.out.trans (HX4.out.below (by rw [← HLB.out]; exact HS5.out.low) HB5.out.size))
        have HEN : Hid (Exp L.cs (Tgt (rs.take (j + 1)) who) (fun _ => none) re') := hid (by
          rw [HNX.out]
          refine (HEX.out.to fun p hp => .base ?_).trans (HEX4.out.to fun p hp => .base ?_)
          · obtain ⟨r, hr, e⟩ := hp
            exact ⟨r, List.mem_append.2 (.inl hr), e⟩
          · exact ⟨(o, nm), by simp, hp⟩)
        have HAN : Hid (∀ r ∈ rs.take (j + 1), rd L.cs (r, who) ≠ 0 ∧ re' (r, who) ≠ none) := hid (by
          rw [HNX.out]
          intro r hr
          rcases List.mem_append.1 hr with h | h
          · exact ⟨(HAL.out r h).1, HEX4.out.has (HAL.out r h).2⟩
          · rw [List.mem_singleton.1 h]; exact ⟨HRD.out, HHAS.out⟩)
        go_roundw
        case rel => exact ⟨j + 1, vL', col', re', nr', by go_num, by omega, HS4, HRI4, HEN, HAN, HB4⟩
        case measure => simp [intOf]; omega
    · obtain rfl : j = m := by omega
      have HTA : Hid (rs.take j = rs) := hid (List.take_of_length_le (by rw [HRM.out]; exact Nat.le_refl _))
      rw [HTA.out] at HEX HAL
      have HSU := hid (csupport_any HSC.out wj re nr HSJ.out HRI.out)
      rw [HSB.out] at HSU
      have HKO : Hid (∀ q, re q ≠ none → okP q) := hid (fun q hq => by
        cases e : re q with
        | none => exact absurd e hq
        | some xr =>
          obtain ⟨i, ps⟩ := xr
          obtain ⟨c, h1, h2⟩ := HRI.out.ok q i ps e
          exact HSJ.out.sz.kn q (by rw [show (⟨s, re, nr, []⟩ : Sx).s.rn q = rd L.cs q from HSC.out.rn q (HRI.out.pe q hq)]; exact fs_rd h1))
      go_wp2_with (go_at_call 32; (refine HSU.out.mono ?_); rintro er w6 ⟨A6, c6, rfl, ho6, bb⟩; have HO6 := hid ho6; have HB6 := hid bb; clear ho6 bb)
      go_ret2
      exact ⟨L.cs, HCO.out, .inr ⟨fun r hr => (HAL.out r hr).1, A6, c6, hadOf re L.cs, rfl, hadOf_sorted HCO.out, fun i => had_needs HEX.out HKO.out (fun p hp => by obtain ⟨r, hr, e⟩ := hp; rw [e]; exact (HAL.out r hr).2), own_mono' HO6.out HBJ.out.size⟩, HBJ.out.trans (HB6.out.mono HBJ.out.size)⟩
end Go.Proofs.YtoajckhnneagnaaDoor.Sh
namespace Go.Proofs.YtoajckhnneagnaaDoor.Sh
open Go Go.RowKit

set_option linter.unusedSimpArgs false
set_option linter.unusedVariables false
def c8A : Crd := ⟨1, 1, ⟨#[97]⟩, 2, ⟨#[]⟩, ⟨#[100, 50]⟩, ⟨#[98]⟩, ⟨#[]⟩, ⟨#[]⟩⟩
def c8B : Crd := ⟨1, 2, ⟨#[97]⟩, 1, ⟨#[97, 110, 110]⟩, ⟨#[]⟩, ⟨#[]⟩, ⟨#[]⟩, ⟨#[]⟩⟩
def c8C : Crd := ⟨2, 1, ⟨#[98]⟩, 1, ⟨#[97, 110, 110]⟩, ⟨#[]⟩, ⟨#[]⟩, ⟨#[]⟩, ⟨#[]⟩⟩
def ex8 : List Crd := [c8A, c8B, c8C]
theorem ex8_mem {out : List Crd} (h : CountsOf out ex8) (c : Crd) : c ∈ out ↔ c ∈ ex8 := by
  have key : ∀ x ∈ ex8, x ∈ out := by
    intro x hx
    have h1 : (ex8.filter fun c => idIs x.d x.q c && mayC c).take 1 = [x] := by
      simp only [ex8, List.mem_cons, List.not_mem_nil, or_false] at hx
      rcases hx with rfl | rfl | rfl <;> rfl
    have h2 := h.2 x.d x.q
    rw [h1] at h2
    exact (List.mem_filter.1 (by rw [h2]; simp : x ∈ out.filter (idIs x.d x.q))).1
  exact ⟨fun hc => (counts_mem h hc).2, key c⟩
def rA8 : Rl := (⟨#[100, 49]⟩, ⟨#[97]⟩)
def rB8 : Rl := (⟨#[100, 50]⟩, ⟨#[98]⟩)
def ann8 : ByteArray := ⟨#[97, 110, 110]⟩
def bob8 : ByteArray := ⟨#[98, 111, 98]⟩
section
variable {cs : List Crd}
theorem rd8A (h : CountsOf cs ex8) : rd cs (rA8, ann8) = 1 :=
  rd_eq.2 ⟨.inr ⟨c8B, (ex8_mem h _).2 (by simp [ex8]), by decide +kernel, .inl ⟨rfl, rfl⟩⟩, fun h => h⟩
theorem rd8B (h : CountsOf cs ex8) : rd cs (rB8, ann8) = 1 :=
  rd_eq.2 ⟨.inr ⟨c8C, (ex8_mem h _).2 (by simp [ex8]), by decide +kernel, .inl ⟨rfl, rfl⟩⟩, fun h => h⟩
theorem rd8N (h : CountsOf cs ex8) : rd cs (rA8, bob8) = 0 := by
  refine Classical.byContradiction fun e => ?_
  obtain ⟨c, hc, hk, hw⟩ := imp_who (rd_imp.1 e)
  have := (ex8_mem h c).1 hc
  simp only [ex8, List.mem_cons, List.not_mem_nil, or_false] at this
  rcases this with rfl | rfl | rfl
  · exact absurd hk (by decide)
  · exact absurd hw (by decide)
  · exact absurd hw (by decide)
theorem fs8 (h : CountsOf cs ex8) {p : Pr} (hr : rd cs p = 1) {c : Crd} {ps : List Pr} (hf : fs cs p = some (c, ps)) : c ∈ ex8 ∧ p.1 = roleOf c ∧ c.kd = 1 ∧ ps = [] := by
  have h1 := fs_why hf
  rw [hr] at h1
  obtain ⟨h2, h3⟩ := why_iff.1 h1
  refine ⟨(ex8_mem h c).1 (fs_mem hf), h2, ?_⟩
  rcases h3 with ⟨a, b, d⟩ | ⟨a, b, d⟩ | ⟨a, i, b, d, e⟩ | ⟨a, b, d⟩
  · exact ⟨a, d⟩
  · exact b.elim
  · exact d.elim
  · exact b.elim
theorem fs8A (h : CountsOf cs ex8) {c : Crd} {ps : List Pr} (hf : fs cs (rA8, ann8) = some (c, ps)) : c = c8B ∧ ps = [] := by
  obtain ⟨h1, h2, h3, h4⟩ := fs8 h (rd8A h) hf
  refine ⟨?_, h4⟩
  simp only [ex8, List.mem_cons, List.not_mem_nil, or_false] at h1
  rcases h1 with rfl | rfl | rfl
  · exact absurd h3 (by decide)
  · rfl
  · exact absurd h2 (by decide +kernel)
theorem fs8B (h : CountsOf cs ex8) {c : Crd} {ps : List Pr} (hf : fs cs (rB8, ann8) = some (c, ps)) : c = c8C ∧ ps = [] := by
  obtain ⟨h1, h2, h3, h4⟩ := fs8 h (rd8B h) hf
  refine ⟨?_, h4⟩
  simp only [ex8, List.mem_cons, List.not_mem_nil, or_false] at h1
  rcases h1 with rfl | rfl | rfl
  · exact absurd h3 (by decide)
  · exact absurd h2 (by decide +kernel)
  · rfl
theorem rch8 (h : CountsOf cs ex8) {q : Pr} (hq : Rch cs (Tgt [rA8, rB8] ann8) q) : q = (rA8, ann8) ∨ q = (rB8, ann8) := by
  induction hq with
  | base hp =>
    obtain ⟨r, hr, e⟩ := hp
    simp only [List.mem_cons, List.not_mem_nil, or_false] at hr
    rcases hr with rfl | rfl
    · exact .inl e
    · exact .inr e
  | step h1 h2 h3 ih =>
    rcases ih with rfl | rfl
    · rw [(fs8A h h2).2] at h3; cases h3
    · rw [(fs8B h h2).2] at h3; cases h3
theorem needs8 (h : CountsOf cs ex8) (i : Int × Int) : Needs cs (Tgt [rA8, rB8] ann8) i ↔ i ∈ [((1 : Int), (2 : Int)), (2, 1)] := by
  constructor
  · rintro ⟨q, c, ps, hq, hf, rfl⟩
    rcases rch8 h hq with rfl | rfl
    · rw [(fs8A h hf).1]; simp [c8B]
    · rw [(fs8B h hf).1]; simp [c8C]
  · intro hi
    simp only [List.mem_cons, List.not_mem_nil, or_false] at hi
    rcases hi with rfl | rfl
    · obtain ⟨c, ps, hf⟩ := fs_ex (cs := cs) (p := (rA8, ann8)) (by rw [rd8A h]; omega)
      exact ⟨_, c, ps, .base ⟨rA8, by simp, rfl⟩, hf, by rw [(fs8A h hf).1]; rfl⟩
    · obtain ⟨c, ps, hf⟩ := fs_ex (cs := cs) (p := (rB8, ann8)) (by rw [rd8B h]; omega)
      exact ⟨_, c, ps, .base ⟨rB8, by simp, rfl⟩, hf, by rw [(fs8B h hf).1]; rfl⟩
theorem len8 (h : CountsOf cs ex8) {ss : List (Int × Int)} (hs : SortedI ss) (hm : ∀ i, i ∈ ss ↔ Needs cs (Tgt [rA8, rB8] ann8) i) : ss.length = 2 := by
  have : ss = [(1, 2), (2, 1)] := hs.uniq (by unfold SortedI; decide) fun i => (hm i).trans (needs8 h i)
  rw [this]; rfl
theorem can8 (h : CountsOf cs ex8) {T : PT} (hc : Can cs T) (hp : T.pr = (rA8, ann8)) : T.d = 1 ∧ T.q = 2 := by
  cases hc with
  | mk h1 h2 h3 _ _ =>
    rw [hp] at h1
    rw [h2, h3, (fs8A h h1).1]
    exact ⟨rfl, rfl⟩
end
end Go.Proofs.YtoajckhnneagnaaDoor.Sh
