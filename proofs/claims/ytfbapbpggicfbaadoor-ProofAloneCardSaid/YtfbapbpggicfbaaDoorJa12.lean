/-
  The document's own ids, Size, SameIDs, by contract.
-/
import Derived.Test.YtfbapbpggicfbaaDoorJa11
import Derived.Test.YtfbapbpggicfbaaDoorJa6
import Derived.BigQuiet
set_option linter.unusedVariables false
set_option linter.unusedSimpArgs false
namespace Go.Proofs.YtfbapbpggicfbaaDoor.Sh
open Go Go.RowKit

set_option linter.unusedVariables false
set_option linter.unusedSimpArgs false

def encI : Enc (Int × Int) := ⟨2, fun i => [.int .i64 i.1, .int .i64 i.2], by omega, fun _ => rfl, fun x u hu => by simp at hu; rcases hu with rfl | rfl <;> rfl⟩
theorem slI : SlN Tryd.prog 35 26 2 16 := by
  obtain ⟨i0, hi0, hz0, hz1, hz2⟩ := info_parts (P := Tryd.prog) (e := 26) (z := .agg #[.int .i64 0, .int .i64 0]) (size := 2) (bytes := 16) (by kernel_rfl)
  exact ⟨Tryd.underlying35, ⟨i0, _, hi0, hz0, hz1, hz2, rfl⟩, by omega⟩
theorem own_oneI (w : World) (B : Nat) (hB : B ≤ w.heap.size) (d q : Int) : Own (E := encI) (w.alloc (.cells #[.int .i64 d, .int .i64 q] 26)) B 26 (.slice (some ⟨w.heap.size, 0, none⟩) 1 1) [(d, q)] :=
  ⟨rfl, .inr ⟨w.heap.size, 1, _, rfl, hB, heap_alloc_new w _, Nat.le_refl _, by unfold maxLen; omega, rfl, rfl⟩⟩
set_option maxHeartbeats 4000000 in
theorem ids7_any (p : PT) : ∀ (w : World), p.size ≤ 1000 → PIn w w.heap.size p →
    Calls Tryd.prog 54 #[.agg p.cells.toArray] w fun e w' => ∃ A' c', e = .returned (.slice A' p.size c') ∧ Own (E := encI) w' w.heap.size 26 (.slice A' p.size c') p.ids ∧ Below w.heap.size w w' := by
  induction p using PT.ind
  rename_i o n x d q A c ps ih
  intro w hm hp
  have HIH := hid ih
  obtain ⟨S, hS⟩ : ∃ S, (PT.mk o n x d q A c ps).size = S := ⟨_, rfl⟩
  have HS : Hid (S = 1 + (ps.map PT.size).sum) := hid (by rw [← hS, PT.size_eq])
  have HSI : Hid ((PT.mk o n x d q A c ps).ids.length = S) := hid hS
  obtain ⟨I, hI⟩ : ∃ I, (PT.mk o n x d q A c ps).ids = I := ⟨_, rfl⟩
  have HI : Hid (I = (d, q) :: ps.flatMap PT.ids) := hid (by rw [← hI, PT.ids_eq])
  rw [hS] at hm ⊢
  rw [hI] at HSI ⊢
  have HM := hid hm
  obtain ⟨h1, h2, h3, h4⟩ := hp.open'
  obtain ⟨w1, hw1⟩ : ∃ w1, w1 = w.alloc (.cells (PT.mk o n x d q A c ps).cells.toArray 29) := ⟨_, rfl⟩
  have HQ1 : Hid (Below w.heap.size w w1) := hid (by rw [hw1]; exact below_pr w _)
  have HPA : Hid (PrAt w1 w.heap.size (.mk o n x d q A c ps)) := hid (by rw [hw1]; exact PrAt.new w _)
  have HPI := hid h4
  have HEL := hid (h3.below HQ1.out)
  obtain ⟨np, hnp⟩ : ∃ np, ps.length = np := ⟨_, rfl⟩
  have HNP := hid hnp
  have hnp63 : np ≤ 9223372036854775807 := by omega
  have HPA5 := hid (fun W (hW : Below w1.heap.size w1 W) => (HPA.out.kept hW).all)
  rw [hnp] at HPA5
  unfold PT.cells at hw1 ⊢
  simp only [hnp] at hw1 ⊢
  obtain ⟨k0, k1, k2, k3, k4, k5⟩ := HPA5.out _ (Below.refl _ _)
  obtain ⟨w2, hw2⟩ : ∃ w2, w2 = w1.alloc (.cells #[.int .i64 d, .int .i64 q] 26) := ⟨_, rfl⟩
  have HB2 : Hid (Below w1.heap.size w1 w2) := hid (by rw [hw2]; exact (Below.refl _ _).alloc (Nat.le_refl _) _)
  have hz : w1.heap.size = w.heap.size + 1 := by rw [hw1]; simp
  have HO2 : Hid (Own (E := encI) w2 w1.heap.size 26 (.slice (some ⟨w.heap.size + 1, 0, none⟩) 1 1) [(d, q)]) := hid (by rw [hw2, ← hz]; exact own_oneI w1 _ (Nat.le_refl _) d q)
  clear ih hp h1 h2 h3 h4 hnp hS hI hm hz
  go_enter Tryd.func54, Tryd.ntmps54
  go_wp2_with fail
  rw [← hw1]
  clear hw1
  go_wp2_with fail
  rw [← hw2]
  clear hw2 k0 k1 k2 k3 k4 k5
  go_loopw [3, 4] (fun v i wr => ∃ (A' : Option Addr) (s c' j : Nat) (out : List (Int × Int)), v = .slice A' s c' ∧ i = .int .i64 (j : Int) ∧ j ≤ np ∧ s ≤ 1000 ∧ Hid (s = out.length) ∧ Hid (out = (d, q) :: (ps.take j).flatMap PT.ids) ∧ Hid (Own (E := encI) wr w1.heap.size 26 (.slice A' s c') out) ∧ Hid (Below w1.heap.size w1 wr)) (fun _ i _ => np - (intOf i).toNat)
  case atStart => exact ⟨_, 1, 1, 0, [(d, q)], rfl, rfl, Nat.zero_le _, by omega, hid rfl, hid (by simp), HO2, HB2⟩
  case round =>
    obtain ⟨A', s, c', j, out, rfl, rfl, hj, hs, HSL, HOU, HOW, HB⟩ := hrel
    obtain ⟨k0, k1, k2, k3, k4, k5⟩ := HPA5.out _ HB.out
    by_cases hlt : j < np
    · obtain ⟨⟨o2, n2, x2, d2, q2, A2, c2, ps2⟩, hx⟩ : ∃ x, ps[j]? = some x := ⟨_, List.getElem?_eq_getElem (by rw [HNP.out]; exact hlt)⟩
      have HX := hid hx
      have HME : Hid (PT.mk o2 n2 x2 d2 q2 A2 c2 ps2 ∈ ps) := hid (List.mem_of_getElem? hx)
      obtain ⟨ad, aj, rfl, hab, ea, hbj, a0, a1, a2, a3, a4, a5⟩ := PIn.get (HEL.out.below (HB.out.mono HQ1.out.size)) hx
      have hj0 : (0 : Int) ≤ (j : Int) := Int.natCast_nonneg _
      have hj1 : (j : Int) < (np : Int) := by omega
      have HPN := hid (fun W (hW : Below w1.heap.size w1 W) => (HPI.out _ HME.out).now (HQ1.out.trans (hW.mono HQ1.out.size)))
      clear hx hab hbj
      have hz1000 : (PT.mk o2 n2 x2 d2 q2 A2 c2 ps2).size ≤ 1000 := by have e1 := HM.out; have e2 := sum_split HX.out; have e3 := HS.out; omega
      have HCA := hid (HIH.out _ HME.out wr hz1000 (HPN.out _ HB.out))
      unfold PT.cells at HCA
      simp only at HCA
      obtain ⟨z, hz⟩ : ∃ z, (PT.mk o2 n2 x2 d2 q2 A2 c2 ps2).size = z := ⟨_, rfl⟩
      have HT : Hid (out ++ (PT.mk o2 n2 x2 d2 q2 A2 c2 ps2).ids = (d, q) :: (ps.take (j + 1)).flatMap PT.ids) := hid (by rw [take_snoc_of HX.out, List.flatMap_append, HOU.out]; simp)
      have HSZ : Hid (s + z ≤ 1000) := hid (by
        have e1 := HM.out
        have e2 := HS.out
        have e3 := sum_split HX.out
        have e4 : s = 1 + ((ps.take j).map PT.size).sum := by
          rw [HSL.out, HOU.out, List.length_cons, List.length_flatMap, Nat.add_comm]
          rfl
        omega)
      obtain ⟨J, hJ⟩ : ∃ J, (PT.mk o2 n2 x2 d2 q2 A2 c2 ps2).ids = J := ⟨_, rfl⟩
      have HJL : Hid (J.length = z) := hid (by rw [← hJ]; exact hz)
      rw [hz, hJ] at HCA
      rw [hJ] at HT
      clear hz hJ hz1000
      go_wp2_with fail
      refine HCA.out.mono ?_
      rintro er w3 ⟨A3, c3, rfl, ho3, hb3⟩
      have HB3 := hid (HB.out.trans (hb3.mono HB.out.size))
      have HOW3 := hid (HOW.out.below hb3)
      have HR3 := hid (own_els ho3).reads
      have hb : out.length + z ≤ 1000000000000 := by have := HSZ.out; have := HSL.out; omega
      have hbs : w1.heap.size ≤ w3.heap.size := HB3.out.size
      clear hb3 ho3 HCA k0 k1 k2 k3 k4 k5 a0 a1 a2 a3 a4 a5
      go_wp2_with ((at_builtin; refine wpList_appL (E := encI) rfl slI (.tmp 15) (.tmp 21) rfl (B := w1.heap.size) (v := .slice A' s c') (l := out) HOW3.out rfl (A := A3) (m := z) (c := c3) J rfl HJL.out HR3.out hb (by omega) hbs ?_; intro A5 c5 w5 o5 g5 e5))
      rw [← HSL.out] at o5 ⊢
      have HB5 := hid (HB3.out.grown g5 hbs (fun g e => (HOW3.out.lt g e).1))
      have HO5 := hid o5
      clear g5 e5 o5
      go_wp2_with fail
      go_roundw
      case rel => exact ⟨A5, s + z, c5, j + 1, out ++ J, rfl, by go_num, by omega, HSZ.out, hid (by rw [List.length_append, HJL.out, HSL.out]), HT, HO5, HB5⟩
      case measure => simp [intOf]; omega
    · obtain rfl : j = np := by omega
      have HE : Hid (out = I) := hid (by rw [HOU.out, HI.out, List.take_of_length_le (by rw [HNP.out]; exact Nat.le_refl _)])
      have HSE : Hid (s = S) := hid (by rw [HSL.out, HE.out]; exact HSI.out)
      have e1 := HE.out
      have e2 := HSE.out
      subst e1 e2
      go_wp2_with fail
      go_ret
      exact ⟨A', c', rfl, own_mono' HOW.out HQ1.out.size, HQ1.out.trans (HB.out.mono HQ1.out.size)⟩
set_option maxHeartbeats 4000000 in
theorem sameIDs_eq (A B : Option Addr) (l : List (Int × Int)) (n c d : Nat) (hn : l.length = n) (hm : n ≤ 1000000000) (w : World) (h : Els encI w w.heap.size A l) (h' : Els encI w w.heap.size B l) :
    Calls Tryd.prog 24 #[.slice A n c, .slice B n d] w fun e w' => e = .returned (.bool true) ∧ ∃ k, w' = w.drewN k := by
  have HN := hid hn
  clear hn
  go_enter Tryd.func24, Tryd.ntmps24
  go_wp2
  go_loopw [5] (fun i wr => ∃ k : Nat, k ≤ n ∧ i = .int .i64 k ∧ Hid (∃ q, wr = w.drewN q)) (fun i _ => n - (intOf i).toNat)
  case atStart => exact ⟨0, Nat.zero_le _, rfl, hid ⟨0, rfl⟩⟩
  case round =>
    obtain ⟨k, hk, rfl, hw⟩ := hrel
    have hwr : Below w.heap.size w wr := by obtain ⟨q, rfl⟩ := hw.out; exact below_drewN (Below.refl _ _) q
    by_cases hlt : k < n
    · obtain ⟨⟨i1, i2⟩, hx⟩ : ∃ x, l[k]? = some x := ⟨_, List.getElem?_eq_getElem (by rw [HN.out]; exact hlt)⟩
      obtain ⟨ad, aj, rfl, -, ea, -, a0, ai⟩ := (h.below hwr).get hx
      have a0 := a0 _ rfl
      have a1 := ai 1 _ (by omega) rfl
      have ea : ad.add (k * 2) = aj := ea
      obtain ⟨bd, bj, rfl, -, eb, -, b0, bi⟩ := (h'.below hwr).get hx
      have b0 := b0 _ rfl
      have b1 := bi 1 _ (by omega) rfl
      have eb : bd.add (k * 2) = bj := eb
      have hk0 : (0 : Int) ≤ (k : Int) := Int.natCast_nonneg _
      have hk1 : (k : Int) < (n : Int) := by omega
      clear hx h h' hwr ai bi
      go_wp2_with fail
      go_quiet (fail)
      go_wp2
      go_roundw
      case rel => exact ⟨k + 1, by omega, by go_num, by
        obtain ⟨q, rfl⟩ := hw.out
        exact hid ⟨q + nq, World.drewN_drewN _ _ _⟩⟩
      case measure => simp [intOf]; omega
    · obtain rfl : k = n := by omega
      go_wp2
      go_ret
      exact ⟨rfl, hw.out⟩
end Go.Proofs.YtfbapbpggicfbaaDoor.Sh
/-
  A region that draws its order, whose loads read what stands below a block, and whose callees only make new blocks and hand back plain values: one walk of the text's own order.
-/
namespace Go.Proofs.YtfbapbpggicfbaaDoor.Sh
open Go Go.RowKit

/-- The worlds that are as w0 is, below block B. -/
def Wn (B : Nat) (w0 : World) := { W : World // Below B w0 W }
instance someWn (B : Nat) (w0 : World) : Nonempty (Wn B w0) := ⟨⟨w0, Below.refl B w0⟩⟩
section
variable {P : Program} {B : Nat} {w0 : World}
theorem region_in {id : Nat} {Q : Exit → Act → World → Prop} {a : Act} {w : World} {l : List Oper} (B : Nat) (w0 : World) (hm : P.follows .mixedOrders = true) (hB : Region.lexB .any l.toArray = true) (hC : Below B w0 w.drew)
    (h : wpQuiet P l.toArray (fun W => ∃ x : Wn B w0, W = x.1) (fun a' => ∀ W, Below B w0 W → Q .normal a' W) l a) : (Code.region id l.toArray true).wp P Q a w := by
  have e : (fun a' => ∀ W, (∃ x : Wn B w0, W = x.1) → Q .normal a' W) = fun a' => ∀ W, Below B w0 W → Q .normal a' W := by
    funext a'
    apply propext
    exact ⟨fun h W hW => h W ⟨⟨W, hW⟩, rfl⟩, fun h W ⟨x, hx⟩ => hx ▸ h x.1 x.2⟩
  refine wp_region_quiet (C := fun W => ∃ x : Wn B w0, W = x.1) hm hB ⟨⟨_, hC⟩, rfl⟩ ?_
  rw [e]
  simpa using h
theorem call_in {f : FuncId} {args : Array Value} {x : Wn B w0} {v : Value} (hB : B ≤ w0.heap.size) (h : Calls P f args x.1 fun e w' => e = .returned v ∧ Below x.1.heap.size x.1 w') :
    Calls P f args x.1 fun e w'' => e = .returned v ∧ ∃ y : Wn B w0, w'' = y.1 :=
  h.mono fun _ _ ⟨h1, h2⟩ => ⟨h1, ⟨_, x.2.trans (h2.mono (Nat.le_trans hB x.2.size))⟩, rfl⟩
theorem call_in2 {f : FuncId} {args : Array Value} {x : Wn B w0} {v : Value} (hB : B ≤ w0.heap.size) (h : ∀ W, Below B w0 W → Calls P f args W fun e w' => e = .returned v ∧ Below W.heap.size W w') :
    Calls P f args x.1 fun e w'' => e = .returned v ∧ ∃ y : Wn B w0, w'' = y.1 := call_in hB (h x.1 x.2)
end
end Go.Proofs.YtfbapbpggicfbaaDoor.Sh
