/-
  The document's set: Delta, by contract; lists of lists of the call's own.
-/
import Derived.Test.YtifoppnpgljphaaReRef4
namespace Go.Proofs.Ytifoppnpgljphaa.Sh
open Go Go.RowKit

set_option linter.unusedSimpArgs false
set_option linter.unusedVariables false
theorem own_cellsN {α : Type} {E : Enc α} {w : World} {B : Nat} {T : TypeId} {v : Value} {l : List α} (h : Own (E := E) w B T v l) {g : Nat} (e : v.ownBlock = some g) : ∃ cs, w.heap[g]? = some (.cells cs T (0, 0)) := by
  rcases h.2 with ⟨rfl, _⟩ | ⟨g', cap, cur, rfl, _, hg, _⟩
  · cases e
  · injection e with e
    subst e
    exact ⟨cur, hg⟩
theorem own_apartN {α β : Type} {E : Enc α} {F : Enc β} {w : World} {B B' : Nat} {T T' : TypeId} {v v' : Value} {l : List α} {l' : List β} (h : Own (E := E) w B T v l) (h' : Own (E := F) w B' T' v' l') (hT : T ≠ T') : ∀ g, v.ownBlock = some g → v'.ownBlock ≠ some g := by
  intro g e e'
  obtain ⟨a, ha⟩ := own_cellsN h e
  obtain ⟨b, hb⟩ := own_cellsN h' e'
  rw [ha] at hb
  simp only [Option.some.injEq, Obj.cells.injEq] at hb
  exact hT hb.2.1
/-- Lists of the call's own, each in a row of its own. -/
def OwnLL (w : World) (B : Nat) (v : Value) (ll : List (List Int)) : Prop :=
  ∃ hs : List Hd, Own (E := encH) w B 30 v hs ∧ hs.length = ll.length ∧ ∀ (i : Nat) (h : Hd) (l : List Int), hs[i]? = some h → ll[i]? = some l → l.length = h.n ∧ Own (E := encN) w B 3 h.val l
theorem OwnLL.nil (w : World) (B : Nat) : OwnLL w B (.slice none 0 0) [] := ⟨[], Own.nil _ _ _, rfl, fun i h l hh => by simp at hh⟩
theorem OwnLL.below {w w' : World} {B : Nat} {v : Value} {ll : List (List Int)} (h : OwnLL w B v ll) (hb : Below w.heap.size w w') : OwnLL w' B v ll := by
  obtain ⟨hs, h1, h2, h3⟩ := h
  exact ⟨hs, h1.below hb, h2, fun i x l hx hl => ⟨(h3 i x l hx hl).1, (h3 i x l hx hl).2.below hb⟩⟩
theorem OwnLL.lower {w : World} {B B' : Nat} {v : Value} {ll : List (List Int)} (h : OwnLL w B v ll) (hb : B' ≤ B) : OwnLL w B' v ll := by
  obtain ⟨hs, h1, h2, h3⟩ := h
  exact ⟨hs, h1.lower hb, h2, fun i x l hx hl => ⟨(h3 i x l hx hl).1, (h3 i x l hx hl).2.lower hb⟩⟩
theorem OwnLL.lls {w : World} {B n c : Nat} {A : Option Addr} {ll : List (List Int)} (h : OwnLL w B (.slice A n c) ll) : Lls w w.heap.size A ll := by
  obtain ⟨hs, h1, h2, h3⟩ := h
  refine ⟨hs, h2, own_els h1, fun i x l hx hl => ?_⟩
  obtain ⟨k1, k2⟩ := h3 i x l hx hl
  obtain ⟨A', c', e, q1, q2, q3⟩ := k2.els
  have hv : x.val = .slice x.A x.n x.c := rfl
  rw [hv] at e
  simp only [Value.slice.injEq] at e
  obtain ⟨e1, e2, e3⟩ := e
  exact ⟨k1, by omega, by omega, by rw [e1]; exact q3⟩
/-- What append of a row's header leaves. -/
theorem OwnLL.add {w w' : World} {B m c' : Nat} {A' : Option Addr} {v : Value} {ll : List (List Int)} {x : Hd} {l : List Int} {hh : List Hd} (h1 : Own (E := encH) w B 30 v hh) (h2 : hh.length = ll.length) (h3 : ∀ (i : Nat) (h : Hd) (l : List Int), hh[i]? = some h → ll[i]? = some l → l.length = h.n ∧ Own (E := encN) w B 3 h.val l)
    (hx : Own (E := encN) w B 3 x.val l) (hl : l.length = x.n) (hg : w.grownBy w' v.ownBlock) (hs : Own (E := encH) w' B 30 (.slice A' m c') (hh ++ [x])) : OwnLL w' B (.slice A' m c') (ll ++ [l]) := by
  have kept : ∀ {y : Hd} {k : List Int}, Own (E := encN) w B 3 y.val k → Own (E := encN) w' B 3 y.val k := fun q => q.keptBy hg fun g e => fun e2 => own_apartN q h1 (by decide) g e e2
  refine ⟨hh ++ [x], hs, by simp [h2], fun i y k hy hk => ?_⟩
  by_cases hi : i < hh.length
  · rw [List.getElem?_append_left hi] at hy
    rw [List.getElem?_append_left (by omega)] at hk
    obtain ⟨q1, q2⟩ := h3 i y k hy hk
    exact ⟨q1, kept q2⟩
  · have hi2 : i = hh.length := by
      have := (List.getElem?_eq_some_iff.1 hy).1
      simp at this; omega
    subst hi2
    rw [List.getElem?_append_right (Nat.le_refl _)] at hy
    rw [List.getElem?_append_right (by omega)] at hk
    simp [h2] at hy hk
    subst hy; subst hk
    exact ⟨hl, kept hx⟩
theorem OwnLL.short {w : World} {B n c k : Nat} {A : Option Addr} {ll : List (List Int)} (h : OwnLL w B (.slice A n c) ll) (hn : ll.length = n) (hk : k ≤ n) : OwnLL w B (.slice A k c) (ll.take k) := by
  obtain ⟨hs, h1, h2, h3⟩ := h
  have h1' : Own (E := encH) w B 30 (.slice A hs.length c) hs := by rw [h2, hn]; exact h1
  refine ⟨hs.take k, h1'.short (by omega), by rw [List.length_take, List.length_take, h2], fun i x l hx hl => ?_⟩
  rw [List.getElem?_take] at hx hl
  split at hx
  · rename_i hi
    rw [if_pos hi] at hl
    exact h3 i x l hx hl
  · cases hx
theorem part_step {row : List Int} {k i : Nat} {x : Int} (hx : row[i]? = some x) : ((row.take (i + 1)).drop k) = if k ≤ i then (row.take i).drop k ++ [x] else (row.take i).drop k := by
  have hl : i < row.length := (List.getElem?_eq_some_iff.1 hx).1
  split
  · rename_i h
    rw [take_snoc_of hx, List.drop_append, List.length_take, show k - min i row.length = 0 by omega]
    rfl
  · rename_i h
    rw [List.drop_of_length_le (by rw [List.length_take]; omega), List.drop_of_length_le (by rw [List.length_take]; omega)]
/-- The first parts. -/
def partsTo (S : Nat → List Int) (known : List Int) (j : Nat) : List (List Int) := (List.range j).map (partS S known)
theorem partsTo_len (S : Nat → List Int) (known : List Int) (j : Nat) : (partsTo S known j).length = j := by simp [partsTo]
theorem partsTo_succ (S : Nat → List Int) (known : List Int) (j : Nat) : partsTo S known (j + 1) = partsTo S known j ++ [partS S known j] := by unfold partsTo; rw [List.range_succ, List.map_append]; rfl
theorem partsTo_at (S : Nat → List Int) (known : List Int) {i j : Nat} (h : i < j) : (partsTo S known j)[i]? = some (partS S known i) := by
  unfold partsTo; rw [List.getElem?_map, List.getElem?_range h]; rfl
theorem delta_take {S : Nat → List Int} {known : List Int} {e : Nat} (he : e ≤ 16) (h0 : ∀ i, e ≤ i → i < 16 → partS S known i = []) (h1 : ∀ i, i + 1 = e → partS S known i ≠ []) : deltaS S known = (partsTo S known 16).take e := by
  refine trimL_take _ e (by simp; omega) (fun i hi h16 => ?_) (fun i hi h => ?_)
  · rw [List.length_map, List.length_range] at h16
    rw [show (List.range 16).map (partS S known) = partsTo S known 16 from rfl, partsTo_at S known h16, h0 i hi h16]
  · rw [show (List.range 16).map (partS S known) = partsTo S known 16 from rfl, partsTo_at S known (show i < 16 by omega)] at h
    exact h1 i hi (by injection h)
set_option maxHeartbeats 4000000 in
theorem refDelta11_any {w : World} {P : Nat → Prop} {g gL : Nat} {S : Nat → List Int} (h : SetR w P g gL S) (A : Option Addr) (known : List Int) (n c : Nat) (hn : known.length = n) (hm : n ≤ 9223372036854775807) (hk : Els encN w w.heap.size A known) :
    Calls Try.prog 17 #[.pointer (some ⟨g, 0, none⟩), .slice A n c] w fun e w' => ∃ (A' : Option Addr) (m c' : Nat), e = .returned (.slice A' m c') ∧ (deltaS S known).length = m ∧ OwnLL w' w.heap.size (.slice A' m c') (deltaS S known) ∧ Below w.heap.size w w' := by
  have HG := hid (fun (j : Nat) (hj : j < 16) W (hW : Below w.heap.size w W) => (refGet_any A known n c hn hm ((j : Int) + 1) (by omega) W ((hk.below hW).more hW.size)).mono (R' := fun e w' => e = .returned (.int .i64 (vat known j)) ∧ W = w') fun e w' ⟨g1, g2⟩ => ⟨by rw [g1, vget_at known hj], g2⟩)
  have HS := hid (fun W (hW : Below w.heap.size w W) => h.below hW)
  clear h hk hn
  go_enter Try.func17, Try.ntmps17
  go_wp2_with fail
  go_loopw [5, 6, 7] (fun v z i wr => ∃ (A1 : Option Addr) (c1 j e : Nat), v = .slice A1 j c1 ∧ z = .int .i64 (e : Int) ∧ i = .int .i64 ((j : Int) + 1) ∧ j ≤ 16 ∧ e ≤ j ∧ Hid (∀ i, e ≤ i → i < j → partS S known i = []) ∧ Hid (∀ i, i + 1 = e → partS S known i ≠ []) ∧ Hid (OwnLL wr w.heap.size (.slice A1 j c1) (partsTo S known j)) ∧ Hid (Below w.heap.size w wr)) (fun _ _ i _ => 17 - (intOf i).toNat)
  case atStart => exact ⟨none, 0, 0, 0, rfl, rfl, rfl, Nat.zero_le _, Nat.le_refl _, hid (fun i _ h => by omega), hid (fun i h => by omega), hid (OwnLL.nil _ _), hid (Below.refl _ _)⟩
  case round =>
    obtain ⟨wj, hwj⟩ : ∃ x, x = wr := ⟨_, rfl⟩
    subst hwj
    obtain ⟨A1, c1, j, e, rfl, rfl, rfl, hj, he, H0, H1, HO, HB⟩ := hrel
    have hj0 : (0 : Int) ≤ (j : Int) := Int.natCast_nonneg _
    have he0 : (0 : Int) ≤ (e : Int) := Int.natCast_nonneg _
    by_cases hlt : j < 16
    · have hj1 : (j : Int) + 1 ≤ 16 := by omega
      have hj2 : (j : Int) < 16 := by omega
      have e1 : (j : Int) + 1 - 1 = (j : Int) := by omega
      obtain ⟨row, hrow⟩ : ∃ row, S j = row := ⟨_, rfl⟩
      obtain ⟨K, hK⟩ : ∃ K : Nat, vat known j = (K : Int) := ⟨(vat known j).toNat, by have := (vat_b known j).1; omega⟩
      have HPS : Hid (partS S known j = row.drop K) := hid (by unfold partS; rw [hrow, hK, Int.toNat_natCast])
      have HGJ := hid (fun W (hW : Below wj.heap.size wj W) => HG.out j hlt W (HB.out.trans (hW.mono HB.out.size)))
      rw [hK] at HGJ
      have hKb : (K : Int) ≤ 1099511627776 := by have := (vat_b known j).2; omega
      have hK0 : (0 : Int) ≤ (K : Int) := Int.natCast_nonneg _
      have HSJ : Hid (∀ W, Below wj.heap.size wj W → ∃ (c n k : Nat) (A : Option Addr), 16 ≤ c ∧ c ≤ 9223372036854775807 ∧ W.cell? ⟨g, 0, none⟩ = some (.slice (some ⟨gL, 0, none⟩) 16 c) ∧ W.cell? ⟨gL, j, none⟩ = some (.slice A n k) ∧ RowAt W P ⟨A, n, k⟩ row) := hid (fun W hW => by
        have := (HS.out W (HB.out.trans (hW.mono HB.out.size))).at hlt
        rw [hrow] at this
        exact this)
      have HRL : Hid (row.length ≤ 32) := hid (by rw [← hrow]; exact ((HS.out _ HB.out).ok j).len)
      clear hrow hK
      go_wp2_with fail
      go_loopw [8, 9] (fun v i wr => ∃ (A2 : Option Addr) (c2 m i2 : Nat), v = .slice A2 m c2 ∧ i = .int .i64 (i2 : Int) ∧ i2 ≤ row.length ∧ Hid (((row.take i2).drop K).length = m) ∧ Hid (Own (E := encN) wr wj.heap.size 3 (.slice A2 m c2) ((row.take i2).drop K)) ∧ Hid (Below wj.heap.size wj wr)) (fun _ i _ => row.length - (intOf i).toNat)
      case atStart => exact ⟨none, 0, 0, 0, rfl, rfl, Nat.zero_le _, hid (by simp), hid (by simpa using Own.nil _ _ _), hid (Below.refl _ _)⟩
      case round =>
        obtain ⟨wi, hwi⟩ : ∃ x, x = wr := ⟨_, rfl⟩
        subst hwi
        obtain ⟨A2, c2, m, i2, rfl, rfl, hi2, HML, HO2, HB2⟩ := hrel
        have hi0 : (0 : Int) ≤ (i2 : Int) := Int.natCast_nonneg _
        have hi32 : i2 ≤ 32 := by have := HRL.out; omega
        obtain ⟨c, n', kc, A', hc1, hc2, ha, hb, r⟩ := HSJ.out wi HB2.out
        have hrl : row.length = n' := r.len
        by_cases hlt2 : i2 < row.length
        · obtain ⟨x, hx⟩ : ∃ x, row[i2]? = some x := ⟨_, List.getElem?_eq_getElem hlt2⟩
          obtain ⟨ad, hAd, hab, hax⟩ := r.els.num hx
          simp only at hAd
          subst hAd
          have hi1 : (i2 : Int) < (n' : Int) := by omega
          have HST := hid (part_step (k := K) hx)
          have HGI := hid (HGJ.out wi HB2.out)
          have hcap : kc ≤ 9223372036854775807 := r.max
          obtain ⟨pl, hpl⟩ : ∃ pl, (row.take i2).drop K = pl := ⟨_, rfl⟩
          have hfl : pl.length ≤ 1000000000000 := by rw [← hpl, List.length_drop, List.length_take]; omega
          rw [hpl] at HO2 HML HST
          clear r hab hx hrl hpl
          by_cases hKi : K ≤ i2
          · have hKi1 : (K : Int) ≤ (i2 : Int) := by omega
            have HNX : Hid ((row.take (i2 + 1)).drop K = pl ++ [x]) := hid (by rw [HST.out, if_pos hKi])
            have HOA7 := hid (HO2.out.alloc (.cells #[.int .i64 x] 3))
            have HRD7 := hid (reads_new wi #[.int .i64 x] 3 (0, 0))
            have HBA7 := hid (HB2.out.alloc HB2.out.size (.cells #[.int .i64 x] 3))
            have hbs7 : wj.heap.size ≤ (wi.alloc (.cells #[.int .i64 x] 3)).heap.size := HBA7.out.size
            go_wp2_with fail
            refine HGI.out.mono ?_
            rintro er wq ⟨rfl, hw⟩
            have hw2 : wi = wq := hw
            subst hw2
            clear hw
            go_wp2_with (first | (at_builtin; refine wpList_app1 (E := encN) rfl slN (.tmp 32) (.tmp 44) rfl (B := wj.heap.size) (v := .slice A2 m c2) (l := pl) HOA7.out rfl (ad := ⟨wi.heap.size, 0, none⟩) (c := 1) x rfl HRD7.out hfl (by omega) hbs7 ?_; intro A9 c9 w9 ho9 hg9 he9; have HO9 := hid ho9; have HB9 := hid (HBA7.out.grown hg9 hbs7 (fun g e => (World.ownsRow.lt HOA7.out g e).1)); clear ho9 hg9 he9) | go_in)
            rw [HML.out] at HO9 ⊢
            go_roundw
            case rel => exact ⟨A9, c9, m + 1, i2 + 1, rfl, by go_num, by omega, hid (by rw [HNX.out, List.length_append, HML.out]; rfl), hid (by rw [HNX.out]; exact HO9.out), HB9⟩
            case measure => simp [intOf]; omega
          · have hKi1 : ¬ (K : Int) ≤ (i2 : Int) := by omega
            have HNX : Hid ((row.take (i2 + 1)).drop K = pl) := hid (by rw [HST.out, if_neg hKi])
            go_wp2_with fail
            refine HGI.out.mono ?_
            rintro er wq ⟨rfl, hw⟩
            have hw2 : wi = wq := hw
            subst hw2
            clear hw
            go_wp2_with fail
            go_roundw
            case rel => exact ⟨A2, c2, m, i2 + 1, rfl, by go_num, by omega, hid (by rw [HNX.out]; exact HML.out), hid (by rw [HNX.out]; exact HO2.out), HB2⟩
            case measure => simp [intOf]; omega
        · have hi2e : i2 = n' := by omega
          subst hi2e
          have HTK : Hid (row.take i2 = row) := hid (List.take_of_length_le (by omega))
          rw [HTK.out, ← HPS.out] at HO2 HML
          have HOL := hid ((HO.out.below HB2.out))
          have HLW : Hid (OwnLL (wi.alloc (.cells #[.slice A2 m c2] 30)) w.heap.size (.slice A1 j c1) (partsTo S known j)) := hid (HOL.out.below ((Below.refl _ _).alloc (Nat.le_refl _) _))
          have HPA : Hid (Own (E := encN) (wi.alloc (.cells #[.slice A2 m c2] 30)) w.heap.size 3 (Hd.val ⟨A2, m, c2⟩) (partS S known j)) := hid ((HO2.out.lower HB.out.size).alloc _)
          have HNX : Hid (partsTo S known (j + 1) = partsTo S known j ++ [partS S known j]) := hid (partsTo_succ _ _ _)
          have HBW := hid (HB.out.trans (HB2.out.mono HB.out.size))
          have HBA := hid (HBW.out.alloc HBW.out.size (.cells #[.slice A2 m c2] 30))
          have hbs7 : w.heap.size ≤ (wi.alloc (.cells #[.slice A2 m c2] 30)).heap.size := HBA.out.size
          have HRD := hid (reads_new wi #[.slice A2 m c2] 30 (0, 0))
          obtain ⟨hs, hO1, hL1, hE1⟩ := HLW.out
          have HO1 := hid hO1
          have hL2 : hs.length = j := by rw [hL1, partsTo_len]
          have hfl : hs.length ≤ 1000000000000 := by omega
          have HFR : Hid (∀ (A9 : Option Addr) (c9 : Nat) (w9 : World), Own (E := encH) w9 w.heap.size 30 (.slice A9 (j + 1) c9) (hs ++ [⟨A2, m, c2⟩]) → (wi.alloc (.cells #[.slice A2 m c2] 30)).grownBy w9 (Value.slice A1 j c1).ownBlock → OwnLL w9 w.heap.size (.slice A9 (j + 1) c9) (partsTo S known (j + 1)) ∧ Below w.heap.size w w9) := hid (fun A9 c9 w9 o9 g9 =>
            ⟨by rw [HNX.out]; exact OwnLL.add hO1 hL1 hE1 HPA.out HML.out g9 o9, HBA.out.grown g9 HBA.out.size (fun b e => (hO1.lt b e).1)⟩)
          have HL2 : Hid (hs.length = j) := hid hL2
          clear hL1 hO1 hE1 r hL2
          have hm00 : (0 : Int) ≤ (m : Int) := Int.natCast_nonneg _
          by_cases hm0 : m = 0
          · subst hm0
            have HZ : Hid (partS S known j = []) := hid (List.eq_nil_of_length_eq_zero HML.out)
            go_wp2_with (first | (at_builtin; refine wpList_app1 (E := encH) rfl slH (.tmp 50) (.tmp 52) rfl (B := w.heap.size) (v := .slice A1 j c1) (l := hs) HO1.out rfl (ad := ⟨wi.heap.size, 0, none⟩) (c := 1) ⟨A2, 0, c2⟩ rfl HRD.out hfl (by omega) hbs7 ?_; intro A9 c9 w9 ho9 hg9 he9; rw [HL2.out] at ho9; obtain ⟨k1, k2⟩ := HFR.out A9 c9 w9 ho9 hg9; have K1 := hid k1; have K2 := hid k2; clear ho9 hg9 he9 k1 k2) | go_in)
            rw [HL2.out]
            go_roundw
            case rel => exact ⟨A9, c9, j + 1, e, rfl, rfl, by go_num, by omega, by omega, hid (fun i h1 h2 => by
              rcases Nat.lt_or_ge i j with h3 | h3
              · exact H0.out i h1 h3
              · obtain rfl : i = j := by omega
                exact HZ.out), H1, K1, K2⟩
            case measure => simp [intOf]; omega
          · have hm1 : (0 : Int) < (m : Int) := by omega
            have HZ : Hid (partS S known j ≠ []) := hid (fun h => hm0 (by rw [← HML.out, h]; rfl))
            go_wp2_with (first | (at_builtin; refine wpList_app1 (E := encH) rfl slH (.tmp 50) (.tmp 52) rfl (B := w.heap.size) (v := .slice A1 j c1) (l := hs) HO1.out rfl (ad := ⟨wi.heap.size, 0, none⟩) (c := 1) ⟨A2, m, c2⟩ rfl HRD.out hfl (by omega) hbs7 ?_; intro A9 c9 w9 ho9 hg9 he9; rw [HL2.out] at ho9; obtain ⟨k1, k2⟩ := HFR.out A9 c9 w9 ho9 hg9; have K1 := hid k1; have K2 := hid k2; clear ho9 hg9 he9 k1 k2) | go_in)
            rw [HL2.out]
            go_roundw
            case rel => exact ⟨A9, c9, j + 1, j + 1, rfl, by go_num, by go_num, by omega, by omega, hid (fun i h1 h2 => by omega), hid (fun i hi => by
              obtain rfl : i = j := by omega
              exact HZ.out), K1, K2⟩
            case measure => simp [intOf]; omega
    · obtain rfl : j = 16 := by omega
      have HDE : Hid (deltaS S known = (partsTo S known 16).take e) := hid (delta_take he H0.out H1.out)
      have HSH : Hid (OwnLL wj w.heap.size (.slice A1 e c1) (deltaS S known)) := hid (by rw [HDE.out]; exact HO.out.short (partsTo_len _ _ _) he)
      have HLE : Hid ((deltaS S known).length = e) := hid (by rw [HDE.out, List.length_take, partsTo_len]; omega)
      have hcap : 16 ≤ c1 := by
        obtain ⟨hs, h1, h2, -⟩ := HO.out
        obtain ⟨A', c', e', q1, q2, -⟩ := h1.els
        simp only [Value.slice.injEq] at e'
        rw [h2, partsTo_len] at q1
        omega
      have hec : (e : Int) ≤ (c1 : Int) := by omega
      go_wp2_with fail
      go_ret
      exact ⟨A1, e, c1, rfl, HLE.out, HSH.out, HB.out⟩
end Go.Proofs.Ytifoppnpgljphaa.Sh
