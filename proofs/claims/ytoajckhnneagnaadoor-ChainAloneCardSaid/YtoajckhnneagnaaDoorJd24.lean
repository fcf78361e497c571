/-
  The program's prove, by contract.
-/
import Derived.Test.YtoajckhnneagnaaDoorJd23
import Derived.Test.YtoajckhnneagnaaDoorJd17
import Derived.Test.YtoajckhnneagnaaDoorJd18
import Derived.Deep.LoopGhost
import Derived.Deep.Cut
import Derived.Deep.DeepCutAuto
import Derived.Test.YtoajckhnneagnaaDoorJd6
set_option linter.unusedVariables false
set_option linter.unusedSimpArgs false
namespace Go.Proofs.YtoajckhnneagnaaDoor.Sh
open Go Go.RowKit

set_option linter.unusedVariables false
set_option linter.unusedSimpArgs false

noncomputable def dc (p : Prop) : Bool := @decide p (Classical.propDecidable p)
theorem dc_iff {p : Prop} : dc p = true ↔ p := by unfold dc; exact @decide_eq_true_iff p (Classical.propDecidable p)
theorem dc_false {p : Prop} (h : ¬ p) : dc p = false := Bool.eq_false_iff.2 fun e => h (dc_iff.1 e)
set_option maxHeartbeats 2000000 in
theorem prove1_any (p : PT) (r : Pr) (w : World) :
    Calls Tryd.prog 79 #[.agg p.cells.toArray, .agg #[.string r.1.1, .string r.1.2, .string r.2]] w fun e w' => e = .returned (.bool (dc (p.pr = r))) ∧ Below w.heap.size w w' := by
  obtain ⟨o, n, x, d, q, A, c, ps⟩ := p
  obtain ⟨⟨o', n'⟩, x'⟩ := r
  have HB1 := hid (((Below.refl w.heap.size w).alloc (Nat.le_refl _) (.cells (PT.mk o n x d q A c ps).cells.toArray 30)).alloc (by rw [World.size_alloc]; exact Nat.le_succ _) (.cells #[.string o', .string n', .string x'] 58))
  obtain ⟨Z, hZ⟩ : ∃ Z, dc ((PT.mk o n x d q A c ps).pr = ((o', n'), x')) = Z := ⟨_, rfl⟩
  have HZ : Hid (Z = true ↔ o = o' ∧ n = n' ∧ x = x') := hid (by rw [← hZ, dc_iff]; unfold PT.pr PT.o PT.n PT.x; simp [and_assoc])
  rw [hZ]
  unfold PT.cells at HB1 ⊢
  simp only at HB1 ⊢
  clear hZ
  by_cases ho : o = o'
  · subst ho
    by_cases hn : n = n'
    · subst hn
      by_cases hx : x = x'
      · subst hx
        have HF : Hid (Z = true) := hid (HZ.out.2 ⟨rfl, rfl, rfl⟩)
        go_enter Tryd.func79, Tryd.ntmps79
        go_wp2_with fail
        go_ret
        exact ⟨by rw [HF.out]; rfl, HB1.out⟩
      · have HF : Hid (Z = false) := hid (Bool.eq_false_iff.2 fun e => hx (HZ.out.1 e).2.2)
        obtain ⟨x1, x2⟩ := inne hx
        clear hx
        go_enter Tryd.func79, Tryd.ntmps79
        go_wp2_with fail
        go_ret
        exact ⟨by rw [HF.out]; rfl, HB1.out⟩
    · have HF : Hid (Z = false) := hid (Bool.eq_false_iff.2 fun e => hn (HZ.out.1 e).2.1)
      obtain ⟨x1, x2⟩ := inne hn
      clear hn
      go_enter Tryd.func79, Tryd.ntmps79
      go_wp2_with fail
      go_ret
      exact ⟨by rw [HF.out]; rfl, HB1.out⟩
  · have HF : Hid (Z = false) := hid (Bool.eq_false_iff.2 fun e => ho (HZ.out.1 e).1)
    obtain ⟨x1, x2⟩ := inne ho
    clear ho
    go_enter Tryd.func79, Tryd.ntmps79
    go_wp2_with fail
    go_ret
    exact ⟨by rw [HF.out]; rfl, HB1.out⟩
theorem map_pr_eq {ps : List PT} {qs : List Pr} {n : Nat} (hp : ps.length = n) (hq : qs.length = n) (h : ∀ j, j < n → ∀ (a : PT) (b : Pr), ps[j]? = some a → qs[j]? = some b → a.pr = b) : ps.map PT.pr = qs := by
  apply List.ext_getElem?
  intro j
  rw [List.getElem?_map]
  by_cases hj : j < n
  · obtain ⟨a, ha⟩ : ∃ x, ps[j]? = some x := ⟨_, List.getElem?_eq_getElem (by rw [hp]; exact hj)⟩
    obtain ⟨b, hb⟩ : ∃ x, qs[j]? = some x := ⟨_, List.getElem?_eq_getElem (by rw [hq]; exact hj)⟩
    rw [ha, hb, Option.map_some, h j hj a b ha hb]
  · rw [List.getElem?_eq_none (by omega), List.getElem?_eq_none (by omega)]; rfl
theorem map_pr_ne {ps : List PT} {qs : List Pr} {j : Nat} {a : PT} {b : Pr} (ha : ps[j]? = some a) (hb : qs[j]? = some b) (h : a.pr ≠ b) : ps.map PT.pr ≠ qs := fun e => by
  have : (ps.map PT.pr)[j]? = qs[j]? := by rw [e]
  rw [List.getElem?_map, ha, hb] at this
  exact h (Option.some.inj this)
set_option maxHeartbeats 4000000 in
theorem eqfQ_any (ps : List PT) (qs : List Pr) (A B : Option Addr) (np nq c c' : Nat) (hnp : ps.length = np) (hnq : qs.length = nq) (h63 : np ≤ 9223372036854775807) (w : World) (hA : Els encT w w.heap.size A ps) (hB : Els encP w w.heap.size B qs) :
    Calls Tryd.prog 78 #[.slice A np c, .slice B nq c', .func (.func 79) #[] #[]] w fun e w' => e = .returned (.bool (dc (ps.map PT.pr = qs))) ∧ Below w.heap.size w w' := by
  have HA := hid hA
  have HB0 := hid hB
  have HNP := hid hnp
  have HNQ := hid hnq
  obtain ⟨Z, hZ⟩ : ∃ Z, dc (ps.map PT.pr = qs) = Z := ⟨_, rfl⟩
  have HSA : Hid (Z = true ↔ ps.map PT.pr = qs) := hid (by rw [← hZ, dc_iff])
  rw [hZ]
  clear hA hB hnp hnq hZ
  by_cases hl : np = nq
  · subst hl
    go_enter Tryd.func78, Tryd.ntmps78
    go_wp2_with fail
    go_loopw [17] (fun i wr => ∃ j : Nat, j ≤ np ∧ i = .int .i64 (j : Int) ∧ Hid (∀ i, i < j → ∀ (a : PT) (b : Pr), ps[i]? = some a → qs[i]? = some b → a.pr = b) ∧ Hid (Below w.heap.size w wr)) (fun i _ => np - (intOf i).toNat)
    case atStart => exact ⟨0, Nat.zero_le _, rfl, hid (fun i hi => absurd hi (Nat.not_lt_zero _)), hid (Below.refl _ _)⟩
    case round =>
      obtain ⟨j, hj, rfl, HAL, HB⟩ := hrel
      by_cases hlt : j < np
      · obtain ⟨⟨o2, n2, x2, d2, q2, A2, c2, ps2⟩, hx2⟩ : ∃ x, ps[j]? = some x := ⟨_, List.getElem?_eq_getElem (by rw [HNP.out]; exact hlt)⟩
        obtain ⟨⟨⟨o3, n3⟩, x3⟩, hx3⟩ : ∃ x, qs[j]? = some x := ⟨_, List.getElem?_eq_getElem (by rw [HNQ.out]; exact hlt)⟩
        have HX2 := hid hx2
        have HX3 := hid hx3
        obtain ⟨ad, aj, rfl, hab, ea, hbj, a0, a1, a2, a3, a4, a5⟩ := PIn.get (HA.out.below HB.out) hx2
        obtain ⟨wb, hwb⟩ : ∃ wb, wb = wr.alloc (.cells (PT.mk o2 n2 x2 d2 q2 A2 c2 ps2).cells.toArray 30) := ⟨_, rfl⟩
        have HB1 : Hid (Below w.heap.size w wb) := hid (by rw [hwb]; exact HB.out.alloc HB.out.size _)
        obtain ⟨bd, bj, rfl, hbb, eb, hbk, b0, bi⟩ := (HB0.out.below HB1.out).get hx3
        have b0 := b0 _ rfl
        have b1 := bi 1 _ (by omega) rfl
        have b2 := bi 2 _ (by omega) rfl
        have eb : bd.add (j * 3) = bj := eb
        obtain ⟨wc, hwc⟩ : ∃ wc, wc = wb.alloc (.cells #[.string o3, .string n3, .string x3] 58) := ⟨_, rfl⟩
        have HB2 : Hid (Below w.heap.size w wc) := hid (by rw [hwc]; exact HB1.out.alloc HB1.out.size _)
        have hj0 : (0 : Int) ≤ (j : Int) := Int.natCast_nonneg _
        have hj1 : (j : Int) < (np : Int) := by omega
        have HCA := hid (prove1_any (.mk o2 n2 x2 d2 q2 A2 c2 ps2) ((o3, n3), x3) wc)
        obtain ⟨b, hb⟩ : ∃ b, dc ((PT.mk o2 n2 x2 d2 q2 A2 c2 ps2).pr = ((o3, n3), x3)) = b := ⟨_, rfl⟩
        have HBI : Hid (b = true ↔ (PT.mk o2 n2 x2 d2 q2 A2 c2 ps2).pr = ((o3, n3), x3)) := hid (by rw [← hb, dc_iff])
        rw [hb] at HCA
        unfold PT.cells at HCA hwb
        simp only at HCA hwb
        rw [hwb] at b0 b1 b2
        clear hx2 hx3 hab hbj hbb hbk hb bi
        go_wp2_with fail
        rw [← hwb, ← hwc]
        refine HCA.out.mono ?_
        rintro er w3 ⟨rfl, hb3⟩
        have HB3 := hid (HB2.out.trans (hb3.mono HB2.out.size))
        clear hb3 HCA a0 a1 a2 a3 a4 a5 b0 b1 b2 hwb hwc
        cases b with
        | true =>
          have HA2 : Hid (∀ i, i < j + 1 → ∀ (a : PT) (b : Pr), ps[i]? = some a → qs[i]? = some b → a.pr = b) := hid (fun i hi a b ha hb => by
            rcases Nat.lt_succ_iff_lt_or_eq.1 hi with h | h
            · exact HAL.out i h a b ha hb
            · subst h
              rw [HX2.out] at ha
              rw [HX3.out] at hb
              rw [← Option.some.inj ha, ← Option.some.inj hb]
              exact HBI.out.1 rfl)
          go_wp2_with fail
          go_roundw
          case rel => exact ⟨j + 1, by omega, by go_num, HA2, HB3⟩
          case measure => simp [intOf]; omega
        | false =>
          have HZF : Hid (Z = false) := hid (Bool.eq_false_iff.2 (fun e => map_pr_ne HX2.out HX3.out (fun e => by have := HBI.out.2 e; cases this) (HSA.out.1 e)))
          go_wp2_with fail
          go_ret
          exact ⟨by rw [HZF.out]; rfl, HB3.out⟩
      · obtain rfl : j = np := by omega
        have HZT : Hid (Z = true) := hid (HSA.out.2 (map_pr_eq HNP.out HNQ.out HAL.out))
        go_wp2_with fail
        go_ret
        exact ⟨by rw [HZT.out]; rfl, HB.out⟩
  · have hl2 : ¬ (np : Int) = (nq : Int) := by omega
    have HZF : Hid (Z = false) := hid (Bool.eq_false_iff.2 (fun e => hl (by have := congrArg List.length (HSA.out.1 e); rw [List.length_map, HNP.out, HNQ.out] at this; exact this)))
    go_enter Tryd.func78, Tryd.ntmps78
    go_wp2_with fail
    go_ret
    exact ⟨by rw [HZF.out]; rfl, Below.refl _ _⟩
theorem prove_any (ps : List PT) (qs : List Pr) (A B : Option Addr) (np nq c c' : Nat) (hnp : ps.length = np) (hnq : qs.length = nq) (h63 : np ≤ 9223372036854775807) (w : World) (hA : Els encT w w.heap.size A ps) (hB : Els encP w w.heap.size B qs) :
    Calls Tryd.prog 59 #[.slice A np c, .slice B nq c'] w fun e w' => e = .returned (.bool (dc (ps.map PT.pr = qs))) ∧ Below w.heap.size w w' := by
  have HE := hid (eqfQ_any ps qs A B np nq c c' hnp hnq h63 w hA hB)
  clear hA hB hnp hnq
  go_enter Tryd.func59, Tryd.ntmps59
  go_wp2_with fail
  refine HE.out.mono ?_
  rintro er w3 ⟨rfl, hb3⟩
  go_wp2_with fail
  go_ret
  exact ⟨rfl, hb3⟩
end Go.Proofs.YtoajckhnneagnaaDoor.Sh
namespace Go.Proofs.YtoajckhnneagnaaDoor.Sh
open Go Go.RowKit

set_option linter.unusedVariables false
set_option linter.unusedSimpArgs false
theorem counts_one8 {a b l : List Crd} (h : CountsOf a l) (h' : CountsOf b l) : a = b := counts_uniq h h'
end Go.Proofs.YtoajckhnneagnaaDoor.Sh
namespace Go.Proofs.YtoajckhnneagnaaDoor.Sh
open Go Go.RowKit

set_option linter.unusedVariables false
set_option linter.unusedSimpArgs false
end Go.Proofs.YtoajckhnneagnaaDoor.Sh
namespace Go.Proofs.YtoajckhnneagnaaDoor.Sh
open Go Go.RowKit

set_option linter.unusedVariables false
set_option linter.unusedSimpArgs false
end Go.Proofs.YtoajckhnneagnaaDoor.Sh
namespace Go.Proofs.YtoajckhnneagnaaDoor.Sh
open Go Go.RowKit
open Go.Maps (Keyed)

set_option linter.unusedVariables false
set_option linter.unusedSimpArgs false
def encC : Enc Crd := ⟨9, Crd.cells, by omega, fun _ => rfl, fun c u hu => by
  simp only [Crd.cells, List.mem_cons, List.not_mem_nil, or_false] at hu
  rcases hu with rfl | rfl | rfl | rfl | rfl | rfl | rfl | rfl | rfl <;> rfl⟩
theorem ch_z22 (w : World) : (zeroValue 22).run Tryd.prog w = .ok (.slice none 0 0) w := by kernel_rfl
theorem ch_z3 (w : World) : (zeroValue 3).run Tryd.prog w = .ok (.int .i64 0) w := by kernel_rfl
set_option maxRecDepth 100000 in
theorem ch_zR (w : World) : (zeroValue 90).run Tryd.prog w = .ok (.agg #[.int .i64 0, .int .i64 0, .slice none 0 0]) w := by kernel_rfl
def rowS (P : Nat → ByteArray) (vC : Value) (b2 b3 b4 b5 : Nat) (vF : Value) (b7 : Nat) (vL : Value) : Array Value :=
  #[.string (P 0), .string (P 1), .string (P 2), .string (P 3), .string (P 4), .string (P 5), .string (P 6), .string (P 7), .string (P 8), .string (P 9), .string (P 10), .string (P 11), .string (P 12), .string (P 13), .string (P 14), .string (P 15), .string (P 16),
    vC, .map (some b2), .map (some b3), .map (some b4), .map (some b5), vF, .map (some b7), vL]
structure Ly where
  B : Nat
  sb : Nat
  P : Nat → ByteArray
  A : Option Addr
  nc : Nat
  cc : Nat
  cs : List Crd
  b2 : Nat
  b3 : Nat
  b4 : Nat
  b5 : Nat
  b7 : Nat
def Ly.pe (L : Ly) : List ByteArray := (List.range 17).map L.P
abbrev Why := Pr → Option ((Int × Int) × List Pr)
structure Sx where
  s : Se
  re : Why
  nr : Nat
  la : List Pr
def Rnm (w : World) (b : Nat) (col : Col) (n : Nat) (rn : Pr → Nat) : Prop :=
  ∃ D : DataW Value, w.ownsMap Tryd.prog 58 tokR b n D ∧ col b = some (5, .nil) ∧ ∀ q, okP q → mget D (kp q) = if rn q = 0 then none else some (.int .i64 (rn q : Int))
def ReaAt (w : World) (col : Col) (o : Option Value) (r : Option ((Int × Int) × List Pr)) : Prop :=
  (o = none ∧ r = none) ∨ ∃ (i : Int × Int) (ps : List Pr) (A : Option Addr) (c : Nat), r = some (i, ps) ∧ o = some (.agg #[.int .i64 i.1, .int .i64 i.2, .slice A ps.length c]) ∧ Els encP w w.heap.size A ps ∧ (∀ ad, A = some ad → 0 < ps.length → col ad.block = none) ∧ ps.length ≤ c ∧ c ≤ 9223372036854775807
def Rea (w : World) (b : Nat) (col : Col) (re : Why) (n : Nat) : Prop :=
  ∃ D : DataW Value, w.ownsMap Tryd.prog 58 tokR b n D ∧ col b = some (7, .nil) ∧ (∀ z, Maps.has D z = true → ∃ q, okP q ∧ z = kp q) ∧ ∀ q, okP q → ReaAt w col (mget D (kp q)) (re q)
structure SzC (s : Se) : Prop where
  giv : ∀ r c, c ∈ s.giv r → mayC c = true
  ask : ∀ r c, c ∈ s.ask r → mayC c = true
  lnk : ∀ r g, g ∈ s.lnk r → okR g
  kn : ∀ q, s.rn q ≠ 0 → okP q
  fr : ∀ q ∈ s.fr, okP q
structure Sea (L : Ly) (w : World) (vF vL : Value) (col : Col) (x : Sx) : Prop where
  row : w.heap[L.sb]? = some (.cells (rowS L.P (.slice L.A L.nc L.cc) L.b2 L.b3 L.b4 L.b5 vF L.b7 vL) 69 (0, 0))
  csb : col L.sb = some (0, .nil)
  cr : L.cs.length = L.nc ∧ L.nc ≤ L.cc ∧ L.cc ≤ 9223372036854775807 ∧ Crs w w.heap.size L.A L.cs ∧ ∀ ad, L.A = some ad → 0 < L.cs.length → col ad.block = none
  giv : Grp Tryd.prog encC 24 55 kr okR 1 L.B x.s.ic L.b2 w col x.s.giv
  ask : Grp Tryd.prog encC 24 55 kr okR 2 L.B x.s.ic L.b3 w col x.s.ask
  lnk : Grp Tryd.prog encR 24 24 kr okR 3 L.B x.s.ic L.b4 w col x.s.lnk
  rn : Rnm w L.b5 col x.s.kn.length x.s.rn
  fr : Own (E := encP) w L.B 58 vF x.s.fr
  cfr : ∀ g, vF.ownBlock = some g → col g = some (6, .nil)
  re : Rea w L.b7 col x.re x.nr
  la : Own (E := encP) w L.B 58 vL x.la
  cla : ∀ g, vL.ownBlock = some g → col g = some (8, .nil)
  low : ∀ g, g < L.B → col g = none
  base : L.B ≤ w.heap.size
  dom : ∀ g c, col g = some c → g < w.heap.size
  sz : SzC x.s
  lo : ∀ q ∈ x.la, okP q
  pe : ∀ i, i < 17 → okB (L.P i)
section
variable {L : Ly} {w w' : World} {vF vL : Value} {col col' : Col} {x : Sx} {b n : Nat} {rn : Pr → Nat} {re : Why}
theorem Rnm.frame (h : Rnm w b col n rn) (hb : ∀ g, col g = some (5, .nil) → w'.heap[g]? = w.heap[g]?) (hcol : ∀ g, g < w.heap.size → col' g = col g) : Rnm w' b col' n rn := by
  obtain ⟨D, h1, h2, h3⟩ := h
  have hl := h1.lt
  exact ⟨D, map_at h1 (hb b h2), (hcol b hl).trans h2, h3⟩
theorem ReaAt.frame {o : Option Value} {r : Option ((Int × Int) × List Pr)} (h : ReaAt w col o r) (hs : w.heap.size ≤ w'.heap.size) (hf : ∀ g, g < w.heap.size → col g = none → w'.heap[g]? = w.heap[g]?) (hcol : ∀ g, g < w.heap.size → col' g = col g) : ReaAt w' col' o r := by
  rcases h with h | ⟨i, ps, A, c, h1, h2, h3, h4, h5, h6⟩
  · exact .inl h
  · by_cases hp : 0 < ps.length
    · obtain ⟨ad, rfl, hb, hc⟩ := h3 hp
      refine .inr ⟨i, ps, _, c, h1, h2, (Els.keep h3 fun ad' e hb' => hf _ hb' (h4 ad' e hp)).more hs, fun ad' e _ => ?_, h5, h6⟩
      cases e
      rw [hcol _ hb]; exact h4 _ rfl hp
    · exact .inr ⟨i, ps, A, c, h1, h2, fun h => absurd h hp, fun _ _ h => absurd h hp, h5, h6⟩
theorem Rea.frame (h : Rea w b col re n) (hb : ∀ g, col g = some (7, .nil) → w'.heap[g]? = w.heap[g]?) (hs : w.heap.size ≤ w'.heap.size) (hf : ∀ g, g < w.heap.size → col g = none → w'.heap[g]? = w.heap[g]?) (hcol : ∀ g, g < w.heap.size → col' g = col g) : Rea w' b col' re n := by
  obtain ⟨D, h1, h2, h3, h4⟩ := h
  have hl := h1.lt
  exact ⟨D, map_at h1 (hb b h2), (hcol b hl).trans h2, h3, fun q hq => (h4 q hq).frame hs hf hcol⟩
theorem Sea.cell (h : Sea L w vF vL col x) : w.cell? ⟨L.sb, 17, none⟩ = some (.slice L.A L.nc L.cc) ∧ w.cell? ⟨L.sb, 18, none⟩ = some (.map (some L.b2)) ∧ w.cell? ⟨L.sb, 19, none⟩ = some (.map (some L.b3)) ∧ w.cell? ⟨L.sb, 20, none⟩ = some (.map (some L.b4)) ∧ w.cell? ⟨L.sb, 21, none⟩ = some (.map (some L.b5)) ∧
    w.cell? ⟨L.sb, 22, none⟩ = some vF ∧ w.cell? ⟨L.sb, 23, none⟩ = some (.map (some L.b7)) ∧ w.cell? ⟨L.sb, 24, none⟩ = some vL :=
  ⟨by rw [cell_of_row w L.sb 17 _ _ (0, 0) h.row]; rfl, by rw [cell_of_row w L.sb 18 _ _ (0, 0) h.row]; rfl, by rw [cell_of_row w L.sb 19 _ _ (0, 0) h.row]; rfl, by rw [cell_of_row w L.sb 20 _ _ (0, 0) h.row]; rfl, by rw [cell_of_row w L.sb 21 _ _ (0, 0) h.row]; rfl,
   by rw [cell_of_row w L.sb 22 _ _ (0, 0) h.row]; rfl, by rw [cell_of_row w L.sb 23 _ _ (0, 0) h.row]; rfl, by rw [cell_of_row w L.sb 24 _ _ (0, 0) h.row]; rfl⟩
theorem Sea.frz (h : Sea L w vF vL col x) (k : Nat) : w.frozen? ⟨L.sb, k, none⟩ = false := frozen_of_row w L.sb k _ _ h.row
theorem Sea.lt (h : Sea L w vF vL col x) : L.sb < w.heap.size := h.dom _ _ h.csb
theorem rowS_pe {P : Nat → ByteArray} {vC vF vL : Value} {b2 b3 b4 b5 b7 : Nat} {i : Nat} (hi : i < 17) : (rowS P vC b2 b3 b4 b5 vF b7 vL)[i]? = some (.string (P i)) := by
  have : i = 0 ∨ i = 1 ∨ i = 2 ∨ i = 3 ∨ i = 4 ∨ i = 5 ∨ i = 6 ∨ i = 7 ∨ i = 8 ∨ i = 9 ∨ i = 10 ∨ i = 11 ∨ i = 12 ∨ i = 13 ∨ i = 14 ∨ i = 15 ∨ i = 16 := by omega
  rcases this with rfl | rfl | rfl | rfl | rfl | rfl | rfl | rfl | rfl | rfl | rfl | rfl | rfl | rfl | rfl | rfl | rfl <;> rfl
theorem Sea.per (h : Sea L w vF vL col x) {i : Nat} (hi : i < 17) : w.cell? ⟨L.sb, i, none⟩ = some (.string (L.P i)) := by
  rw [cell_of_row w L.sb i _ _ (0, 0) h.row]; exact rowS_pe hi
theorem Sea.free (h : Sea L w vF vL col x) {g : Nat} (hg : w.heap.size ≤ g) : col g = none := by
  cases hc : col g with
  | none => rfl
  | some c => have := h.dom g c hc; omega
theorem Sea.c2 (h : Sea L w vF vL col x) : col L.b2 = some (1, .nil) := by obtain ⟨D, hD⟩ := h.giv; exact hD.cb
theorem Sea.c3 (h : Sea L w vF vL col x) : col L.b3 = some (2, .nil) := by obtain ⟨D, hD⟩ := h.ask; exact hD.cb
theorem Sea.c4 (h : Sea L w vF vL col x) : col L.b4 = some (3, .nil) := by obtain ⟨D, hD⟩ := h.lnk; exact hD.cb
theorem Sea.c5 (h : Sea L w vF vL col x) : col L.b5 = some (5, .nil) := by obtain ⟨D, _, e, _⟩ := h.rn; exact e
theorem Sea.c7 (h : Sea L w vF vL col x) : col L.b7 = some (7, .nil) := by obtain ⟨D, _, e, _⟩ := h.re; exact e
structure Kep (M : Nat → Prop) (B : Nat) (w w' : World) (col col' : Col) : Prop where
  size : w.heap.size ≤ w'.heap.size
  blk : ∀ g c, col g = some c → ¬ M c.1 → w'.heap[g]? = w.heap[g]?
  fre : ∀ g, g < w.heap.size → col g = none → w'.heap[g]? = w.heap[g]?
  col : ∀ g, g < w.heap.size → col' g = col g
  dom : ∀ g c, col' g = some c → g < w'.heap.size
theorem Sea.kcr {M : Nat → Prop} (h : Sea L w vF vL col x) (k : Kep M L.B w w' col col') : L.cs.length = L.nc ∧ L.nc ≤ L.cc ∧ L.cc ≤ 9223372036854775807 ∧ Crs w' w'.heap.size L.A L.cs ∧ ∀ ad, L.A = some ad → 0 < L.cs.length → col' ad.block = none := by
  obtain ⟨h1, h2, h3, h4, h5⟩ := h.cr
  refine ⟨h1, h2, h3, fun hn => ?_, fun ad e hn => ?_⟩
  · obtain ⟨ad, e, hb, hc⟩ := h4 hn
    refine ⟨ad, e, Nat.lt_of_lt_of_le hb k.size, fun i u hu => ?_⟩
    rw [← hc i u hu]
    unfold World.cell?
    rw [block_add, k.fre _ hb (h5 ad e hn)]
  · obtain ⟨ad', e', hb, _⟩ := h4 hn
    rw [e] at e'; cases e'
    rw [k.col _ hb]; exact h5 ad e hn
theorem Sea.klow {M : Nat → Prop} (h : Sea L w vF vL col x) (k : Kep M L.B w w' col col') : ∀ g, g < L.B → col' g = none := fun g hg => by rw [k.col g (Nat.lt_of_lt_of_le hg h.base)]; exact h.low g hg
theorem Sea.kre {M : Nat → Prop} (h : Sea L w vF vL col x) (k : Kep M L.B w w' col col') (hM : ¬ M 7) : Rea w' L.b7 col' x.re x.nr := h.re.frame (fun g e => k.blk g _ e hM) k.size k.fre k.col
theorem Sea.krn {M : Nat → Prop} (h : Sea L w vF vL col x) (k : Kep M L.B w w' col col') (hM : ¬ M 5) : Rnm w' L.b5 col' x.s.kn.length x.s.rn := h.rn.frame (fun g e => k.blk g _ e hM) k.col
theorem Sea.kfr {M : Nat → Prop} (h : Sea L w vF vL col x) (k : Kep M L.B w w' col col') (hM : ¬ M 6) : Own (E := encP) w' L.B 58 vF x.s.fr ∧ ∀ g, vF.ownBlock = some g → col' g = some (6, .nil) :=
  ⟨h.fr.kept fun g e => k.blk g _ (h.cfr g e) hM, fun g e => by rw [k.col g (h.fr.lt g e).2]; exact h.cfr g e⟩
theorem Sea.kla {M : Nat → Prop} (h : Sea L w vF vL col x) (k : Kep M L.B w w' col col') (hM : ¬ M 8) : Own (E := encP) w' L.B 58 vL x.la ∧ ∀ g, vL.ownBlock = some g → col' g = some (8, .nil) :=
  ⟨h.la.kept fun g e => k.blk g _ (h.cla g e) hM, fun g e => by rw [k.col g (h.la.lt g e).2]; exact h.cla g e⟩
theorem Sea.kgrp {M : Nat → Prop} {α κ : Type} {E : Enc α} {kT eT : TypeId} {kl : κ → Lit} {ok : κ → Prop} {i n' : Nat} {G : κ → List α} (k : Kep M L.B w w' col col') (h : Grp Tryd.prog E kT eT kl ok i L.B n b w col G) (h1 : ¬ M i) (h2 : ¬ M (i + 10)) (hn : n ≤ n') : Grp Tryd.prog E kT eT kl ok i L.B n' b w' col' G :=
  h.frame (fun g c e hc => k.blk g c e (by rcases hc with hc | hc <;> rw [hc] <;> assumption)) k.col hn
theorem Sea.below (h : Sea L w vF vL col x) (hb : Below w.heap.size w w') : Sea L w' vF vL col x := by
  have k : Kep (fun _ => False) L.B w w' col col := ⟨hb.size, fun g c e _ => hb.block g (h.dom g c e), fun g hg _ => hb.block g hg, fun _ _ => rfl, fun g c e => Nat.lt_of_lt_of_le (h.dom g c e) hb.size⟩
  exact ⟨(hb.block _ h.lt).trans h.row, h.csb, h.kcr k, Sea.kgrp k h.giv id id (Nat.le_refl _), Sea.kgrp k h.ask id id (Nat.le_refl _), Sea.kgrp k h.lnk id id (Nat.le_refl _), h.krn k id, (h.kfr k id).1, (h.kfr k id).2, h.kre k id, (h.kla k id).1, (h.kla k id).2, h.low, Nat.le_trans h.base hb.size, k.dom, h.sz, h.lo, h.pe⟩
end
section
variable {s : Se} {pe : List ByteArray} {c : Crd}
theorem take_1y (h : c.kd = 1) (hw : c.wh ∈ pe) : s.take pe c = (s.add (roleOf c, c.wh) 1).toGiv (roleOf c) c := by unfold Se.take; rw [if_pos h, if_pos hw]
theorem take_1n (h : c.kd = 1) (hw : c.wh ∉ pe) : s.take pe c = s := by unfold Se.take; rw [if_pos h, if_neg hw]
theorem take_2 (h : c.kd = 2) : s.take pe c = (s.toAsk (c.ao, c.an) c).toGiv (roleOf c) c := by unfold Se.take; rw [if_neg (by omega), if_pos h]
theorem take_3 (h : c.kd = 3) : s.take pe c = (s.toAsk (firstOf c) c).toGiv (roleOf c) c := by unfold Se.take; rw [if_neg (by omega), if_neg (by omega), if_pos h]
theorem take_4 (h : c.kd = 4) : s.take pe c = ((s.toAsk (c.ao, c.an) c).toAsk (c.bo, c.bn) c).toGiv (roleOf c) c := by unfold Se.take; rw [if_neg (by omega), if_neg (by omega), if_neg (by omega), if_pos h]
end
end Go.Proofs.YtoajckhnneagnaaDoor.Sh
