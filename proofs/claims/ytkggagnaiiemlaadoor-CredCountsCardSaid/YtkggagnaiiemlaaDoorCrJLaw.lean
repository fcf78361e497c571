import Derived.Test.YtkggagnaiiemlaaDoorCrJSt6
import Derived.Test.YtkggagnaiiemlaaDoorCrJRef
import Derived.Test.YtkggagnaiiemlaaDoorCrLives
/-
  The program's own Sorted and Counts by contract, beside the document's.
-/
/-
  The walk of CredSorts.
-/
namespace Go.Proofs.YtkggagnaiiemlaaDoor.Sh
open Go Go.RowKit

theorem Crs.past {w w' : World} {B g : Nat} {A : Option Addr} {l : List Crd} (h : Crs w B A l) (hB : B ≤ w.heap.size) (hg : w.grownBy w' (some g)) (hgB : B ≤ g) : Crs w' B A l := fun hn => by
  obtain ⟨ad, e, hb, hc⟩ := h hn
  exact ⟨ad, e, hb, fun j x hx => (hg.cell_far _ (by rw [block_add]; omega) (by rw [block_add]; intro e; injection e with e; omega)).trans (hc j x hx)⟩
theorem Crs.drewN {w : World} {B : Nat} {A : Option Addr} {l : List Crd} (h : Crs w B A l) (k : Nat) : Crs (w.drewN k) B A l := h
/-- A row of so many cells, whatever they hold. -/
def RowOf (w : World) (g S : Nat) : Prop := ∃ cur, w.heap[g]? = some (.cells cur 27 (0, 0)) ∧ cur.size = S
theorem RowOf.set {w : World} {g S : Nat} (h : RowOf w g S) (k : Nat) (v : Value) : RowOf (w.setCell ⟨g, k, none⟩ v) g S := by
  obtain ⟨cur, h1, h2⟩ := h
  exact ⟨_, heap_setCell_same w g k _ _ v h1, by simpa using h2⟩
theorem RowOf.cell {w : World} {g S : Nat} (h : RowOf w g S) {k : Nat} (hk : k < S) : ∃ v, w.cell? ⟨g, k, none⟩ = some v := by
  obtain ⟨cur, h1, h2⟩ := h
  refine ⟨cur[k]'(by omega), ?_⟩
  rw [cell_of_row w g k _ _ (0, 0) h1]
  exact Array.getElem?_eq_getElem (by omega)
theorem RowOf.frozen {w : World} {g S : Nat} (h : RowOf w g S) (k : Nat) : w.frozen? ⟨g, k, none⟩ = false := by
  obtain ⟨cur, h1, h2⟩ := h
  exact frozen_of_row w g k _ _ h1
theorem RowOf.drewN {w : World} {g S : Nat} (h : RowOf w g S) (k : Nat) : RowOf (w.drewN k) g S := h
theorem RowOf.sets {w0 : World} {g S : Nat} : ∀ (vs : List Value) (o : Nat) (w : World), RowOf w g S → w0.grownBy w (some g) → RowOf (w.setCells g o vs) g S ∧ w0.grownBy (w.setCells g o vs) (some g)
  | [], _, _, h, hg => ⟨h, hg⟩
  | v :: r, o, w, h, hg => RowOf.sets r (o + 1) _ (h.set o v) (gro_trans hg (grown_set w g o v))

theorem zero_all : ((#[.int .i64 0, .int .i64 0, .string ⟨#[]⟩, .int .i64 0, .string ⟨#[]⟩, .string ⟨#[]⟩, .string ⟨#[]⟩, .string ⟨#[]⟩, .string ⟨#[]⟩] : Array Value)).all (·.oneCell') = true := by kernel_rfl
theorem zero_size : (Tryd.prog.info? 27).map (·.size) = some ((#[.int .i64 0, .int .i64 0, .string ⟨#[]⟩, .int .i64 0, .string ⟨#[]⟩, .string ⟨#[]⟩, .string ⟨#[]⟩, .string ⟨#[]⟩, .string ⟨#[]⟩] : Array Value)).size := by kernel_rfl
theorem there9 {w : World} {g S J : Nat} (h : RowOf w g S) (hS : J + 8 < S) : w.there g J ((#[.int .i64 0, .int .i64 0, .string ⟨#[]⟩, .int .i64 0, .string ⟨#[]⟩, .string ⟨#[]⟩, .string ⟨#[]⟩, .string ⟨#[]⟩, .string ⟨#[]⟩] : Array Value)).size := fun i hi => by
  have hi9 : i < 9 := hi
  obtain ⟨v, hv⟩ := h.cell (k := J + i) (by omega)
  exact ⟨by rw [hv]; rfl, h.frozen (J + i)⟩
set_option maxHeartbeats 1000000 in
theorem credSorts_walk (A : Option Addr) (l : List Crd) (n k : Nat) (hn : l.length = n) (hk : n ≤ k) (hk2 : k ≤ 9223372036854775807) (w : World) (hb : Crs w w.heap.size A l) :
    Calls Tryd.prog 8 #[.slice A n k] w fun e w' => e = .returned (.bool true) ∧ Below w.heap.size w w' := by
  by_cases h40 : 40 < n
  · have hN : (l.take 40).length = 40 := by rw [List.length_take]; omega
    have y0 := hb.head (hi := 40)
    have h40' : (40 : Int) < (n : Int) := by omega
    have h40k : 40 ≤ k := by omega
    have HN := hid hN
    have HQ1 : Hid (0 + 40 ≤ 1000000000000) := hid (by omega)
    have HQ2 : Hid (0 + 40 = 40) := hid (by omega)
    clear hb hn
    go_enter Tryd.func8, Tryd.ntmps8
    go_wp2_with ((at_builtin; refine wpList_appC rfl (.tmp 13) (.tmp 14) rfl w.heap.size (.slice none 0 0) 0 [] (OwnC.nil _ _) ?c1 A 40 k (l.take 40) ?c2 ?c3 ?c4 ?c5 ?c6 w ?c7 40 ?c8 ?c9; (case c1 => rfl); (case c2 => rfl); (case c3 => exact HN.out); (case c4 => exact y0.reads); (case c5 => exact HQ1.out); (case c6 => exact Nat.le_refl _); (case c7 => exact Below.refl _ _); (case c8 => exact HQ2.out); (intro Ao co w1 o1 g1 b1 h1; have y1 := y0.far (Nat.le_refl _) g1 (FarV.nil _); clear g1 h1 y0)))
    have z1 := o1.crs
    rw [List.nil_append] at z1
    have SO := sorted_any A (l.take 40) 40 k HN.out (by omega) hk2 (by omega) w1 (y1.more b1.size)
    have HSO := hid SO
    clear SO o1
    refine HSO.out.mono ?_
    rintro er w2 ⟨Aa, ca, out, rfl, oa, sa, bb⟩
    have y2 := y1.below (bb.mono b1.size)
    have z2 := z1.below bb
    have b2 := b1.trans (bb.mono b1.size)
    have hw12 := bb.size
    have hw01 := b1.size
    clear bb y1 z1 b1 HSO
    have HSR := hid (refSorted_any A (l.take 40) 40 k HN.out (by omega) hk2 (by omega) w2 (y2.more b2.size))
    go_wp2_with fail
    refine HSR.out.mono ?_
    rintro er w3 ⟨Ar, cr, out2, rfl, orr, sr, bb⟩
    obtain rfl : out2 = out := sort_uniq sr sa
    have y3 := y2.below (bb.mono b2.size)
    have z3 := z2.below (bb.mono hw12)
    have oa3 := oa.below bb
    have b3 := b2.trans (bb.mono b2.size)
    have hw23 := bb.size
    have hlo := oa.len
    obtain ⟨ga, hga, hgw, hrow⟩ : ∃ ga, (0 < 40 → Aa = some ⟨ga, 0, none⟩) ∧ w1.heap.size ≤ ga ∧ (0 < 40 → RowOf w3 ga (ca * 9)) := by
      rcases oa3.2 with ⟨hv, h0⟩ | ⟨g, cap, cur, hv, hB, hg, _, _, hs, _⟩
      · exact ⟨w1.heap.size, fun h => by omega, Nat.le_refl _, fun h => by omega⟩
      · simp only [Value.slice.injEq] at hv
        obtain ⟨h1, -, h2⟩ := hv
        exact ⟨g, fun _ => h1, hB, fun _ => ⟨cur, hg, by rw [h2]; exact hs⟩⟩
    have hcap : 40 ≤ ca := by
      obtain ⟨_, _, hv, hx, _⟩ := oa.slice
      simp only [Value.slice.injEq] at hv
      omega
    have HGA := hid hga
    have HROW := hid hrow
    clear hga hrow
    have SM := hid (refSameC_eq Aa Ar out2 40 ca cr hlo (by omega) w3 oa3.crs orr.crs)
    clear y2 z2 oa oa3 orr b2 sr sa bb hlo HSR
    go_wp2_with fail
    refine SM.out.mono ?_
    rintro er w4 ⟨rfl, hq⟩
    have HY : Hid (Crs w4 w.heap.size A (l.take 40)) := hid (by obtain ⟨q, rfl⟩ := hq; exact y3.drewN q)
    have HZ : Hid (Crs w4 w1.heap.size Ao (l.take 40)) := hid (by obtain ⟨q, rfl⟩ := hq; exact z3.drewN q)
    have HB : Hid (Below w.heap.size w w4) := hid (by obtain ⟨q, rfl⟩ := hq; exact below_drewN b3 q)
    have HR : Hid (0 < 40 → RowOf w4 ga (ca * 9)) := hid (by obtain ⟨q, rfl⟩ := hq; exact fun h => (HROW.out h).drewN q)
    have HS : Hid (w1.heap.size ≤ w4.heap.size) := hid (by obtain ⟨q, rfl⟩ := hq; exact Nat.le_trans hw12 hw23)
    clear hq y3 z3 b3 HROW SM
    go_wp2
    go_loopw [6] (fun i wr => ∃ j : Nat, i = .int .i64 (j : Int) ∧ j ≤ 40 ∧ Hid (w4.grownBy wr (some ga)) ∧ Hid (0 < 40 → RowOf wr ga (ca * 9))) (fun i _ => 40 - (intOf i).toNat)
    case atStart => exact ⟨0, rfl, by omega, hid (gro_refl _ _), HR⟩
    case round =>
      obtain ⟨j, rfl, hj, HG, HRW⟩ := hrel
      by_cases hlt : j < 40
      · have hjl : (j : Int) < (40 : Int) := by omega
        have hj0 : (0 : Int) ≤ (j : Int) := Int.natCast_nonneg _
        have hr := HRW.out (by omega)
        obtain rfl := HGA.out (by omega)
        obtain ⟨ad, had⟩ : ∃ ad : Addr, ad = ⟨ga, 0, none⟩ := ⟨_, rfl⟩
        obtain ⟨J, hJ⟩ : ∃ J, J = j * 9 := ⟨_, rfl⟩
        have ea : ad.add (j * 9) = ⟨ga, J, none⟩ := by rw [had, ← hJ]; unfold Addr.add; split <;> simp_all
        rw [← had]
        have hS : J + 8 < ca * 9 := by omega
        clear hJ
        have HTH := hid (there9 hr hS)
        have HNR := hid (fun vs => RowOf.sets vs J wr hr HG.out)
        clear hr had HRW
        go_wp2_with ((refine wpList_store_named rfl 27 (.tmp 31) (.tmp 30) rfl ga J #[.int .i64 0, .int .i64 0, .string ⟨#[]⟩, .int .i64 0, .string ⟨#[]⟩, .string ⟨#[]⟩, .string ⟨#[]⟩, .string ⟨#[]⟩, .string ⟨#[]⟩] rfl rfl HTH.out zero_size zero_all ?_; intro w8 hw8; have HN8 := hid (by have := HNR.out [.int .i64 0, .int .i64 0, .string ⟨#[]⟩, .int .i64 0, .string ⟨#[]⟩, .string ⟨#[]⟩, .string ⟨#[]⟩, .string ⟨#[]⟩, .string ⟨#[]⟩]; rw [← hw8.out] at this; exact this); clear hw8))
        go_roundw
        case rel => exact ⟨j + 1, by go_num, by omega, hid HN8.out.2, hid fun _ => HN8.out.1⟩
        case measure => simp [intOf]; omega
      · obtain rfl : j = 40 := by omega
        have y5 := HY.out.past HB.out.size HG.out (by omega)
        have z5 := HZ.out.past HS.out HG.out hgw
        have b5 := HB.out.grown HG.out HB.out.size (fun g e => by injection e with e; omega)
        have hsz : w1.heap.size ≤ wr.heap.size := Nat.le_trans HS.out HG.out.size
        have SM := hid (refSameC_eq Ao A (l.take 40) 40 co k HN.out (by omega) wr (z5.more hsz) (y5.more b5.size))
        clear y5 z5 hsz
        go_wp2_with fail
        refine SM.out.mono ?_
        rintro er w6 ⟨rfl, hq⟩
        have b6 : Below w.heap.size w w6 := by obtain ⟨q, rfl⟩ := hq; exact below_drewN b5 q
        clear hq b5 SM
        go_wp2_with fail
        refine (lives_any w6).mono ?_
        rintro er w7 ⟨rfl, bb⟩
        go_wp2
        go_ret
        exact ⟨rfl, b6.trans (bb.mono b6.size)⟩
  · have hN : l.length = n := hn
    have y0 := hb
    have h40' : ¬ (40 : Int) < (n : Int) := by omega
    have HN := hid hN
    have HQ1 : Hid (0 + n ≤ 1000000000000) := hid (by omega)
    have HQ2 : Hid (0 + n = n) := hid (by omega)
    clear hb hn
    go_enter Tryd.func8, Tryd.ntmps8
    go_wp2_with ((at_builtin; refine wpList_appC rfl (.tmp 13) (.tmp 14) rfl w.heap.size (.slice none 0 0) 0 [] (OwnC.nil _ _) ?d1 A n k l ?d2 ?d3 ?d4 ?d5 ?d6 w ?d7 n ?d8 ?d9; (case d1 => rfl); (case d2 => rfl); (case d3 => exact HN.out); (case d4 => exact y0.reads); (case d5 => exact HQ1.out); (case d6 => exact Nat.le_refl _); (case d7 => exact Below.refl _ _); (case d8 => exact HQ2.out); (intro Ao co w1 o1 g1 b1 h1; have y1 := y0.far (Nat.le_refl _) g1 (FarV.nil _); clear g1 h1 y0)))
    have z1 := o1.crs
    rw [List.nil_append] at z1
    have SO := sorted_any A l n k HN.out (by omega) hk2 (by omega) w1 (y1.more b1.size)
    have HSO := hid SO
    clear SO o1
    refine HSO.out.mono ?_
    rintro er w2 ⟨Aa, ca, out, rfl, oa, sa, bb⟩
    have y2 := y1.below (bb.mono b1.size)
    have z2 := z1.below bb
    have b2 := b1.trans (bb.mono b1.size)
    have hw12 := bb.size
    have hw01 := b1.size
    clear bb y1 z1 b1 HSO
    have HSR := hid (refSorted_any A l n k HN.out (by omega) hk2 (by omega) w2 (y2.more b2.size))
    go_wp2_with fail
    refine HSR.out.mono ?_
    rintro er w3 ⟨Ar, cr, out2, rfl, orr, sr, bb⟩
    obtain rfl : out2 = out := sort_uniq sr sa
    have y3 := y2.below (bb.mono b2.size)
    have z3 := z2.below (bb.mono hw12)
    have oa3 := oa.below bb
    have b3 := b2.trans (bb.mono b2.size)
    have hw23 := bb.size
    have hlo := oa.len
    obtain ⟨ga, hga, hgw, hrow⟩ : ∃ ga, (0 < n → Aa = some ⟨ga, 0, none⟩) ∧ w1.heap.size ≤ ga ∧ (0 < n → RowOf w3 ga (ca * 9)) := by
      rcases oa3.2 with ⟨hv, h0⟩ | ⟨g, cap, cur, hv, hB, hg, _, _, hs, _⟩
      · exact ⟨w1.heap.size, fun h => by omega, Nat.le_refl _, fun h => by omega⟩
      · simp only [Value.slice.injEq] at hv
        obtain ⟨h1, -, h2⟩ := hv
        exact ⟨g, fun _ => h1, hB, fun _ => ⟨cur, hg, by rw [h2]; exact hs⟩⟩
    have hcap : n ≤ ca := by
      obtain ⟨_, _, hv, hx, _⟩ := oa.slice
      simp only [Value.slice.injEq] at hv
      omega
    have HGA := hid hga
    have HROW := hid hrow
    clear hga hrow
    have SM := hid (refSameC_eq Aa Ar out2 n ca cr hlo (by omega) w3 oa3.crs orr.crs)
    clear y2 z2 oa oa3 orr b2 sr sa bb hlo HSR
    go_wp2_with fail
    refine SM.out.mono ?_
    rintro er w4 ⟨rfl, hq⟩
    have HY : Hid (Crs w4 w.heap.size A l) := hid (by obtain ⟨q, rfl⟩ := hq; exact y3.drewN q)
    have HZ : Hid (Crs w4 w1.heap.size Ao l) := hid (by obtain ⟨q, rfl⟩ := hq; exact z3.drewN q)
    have HB : Hid (Below w.heap.size w w4) := hid (by obtain ⟨q, rfl⟩ := hq; exact below_drewN b3 q)
    have HR : Hid (0 < n → RowOf w4 ga (ca * 9)) := hid (by obtain ⟨q, rfl⟩ := hq; exact fun h => (HROW.out h).drewN q)
    have HS : Hid (w1.heap.size ≤ w4.heap.size) := hid (by obtain ⟨q, rfl⟩ := hq; exact Nat.le_trans hw12 hw23)
    clear hq y3 z3 b3 HROW SM
    go_wp2
    go_loopw [6] (fun i wr => ∃ j : Nat, i = .int .i64 (j : Int) ∧ j ≤ n ∧ Hid (w4.grownBy wr (some ga)) ∧ Hid (0 < n → RowOf wr ga (ca * 9))) (fun i _ => n - (intOf i).toNat)
    case atStart => exact ⟨0, rfl, by omega, hid (gro_refl _ _), HR⟩
    case round =>
      obtain ⟨j, rfl, hj, HG, HRW⟩ := hrel
      by_cases hlt : j < n
      · have hjl : (j : Int) < (n : Int) := by omega
        have hj0 : (0 : Int) ≤ (j : Int) := Int.natCast_nonneg _
        have hr := HRW.out (by omega)
        obtain rfl := HGA.out (by omega)
        obtain ⟨ad, had⟩ : ∃ ad : Addr, ad = ⟨ga, 0, none⟩ := ⟨_, rfl⟩
        obtain ⟨J, hJ⟩ : ∃ J, J = j * 9 := ⟨_, rfl⟩
        have ea : ad.add (j * 9) = ⟨ga, J, none⟩ := by rw [had, ← hJ]; unfold Addr.add; split <;> simp_all
        rw [← had]
        have hS : J + 8 < ca * 9 := by omega
        clear hJ
        have HTH := hid (there9 hr hS)
        have HNR := hid (fun vs => RowOf.sets vs J wr hr HG.out)
        clear hr had HRW
        go_wp2_with ((refine wpList_store_named rfl 27 (.tmp 31) (.tmp 30) rfl ga J #[.int .i64 0, .int .i64 0, .string ⟨#[]⟩, .int .i64 0, .string ⟨#[]⟩, .string ⟨#[]⟩, .string ⟨#[]⟩, .string ⟨#[]⟩, .string ⟨#[]⟩] rfl rfl HTH.out zero_size zero_all ?_; intro w8 hw8; have HN8 := hid (by have := HNR.out [.int .i64 0, .int .i64 0, .string ⟨#[]⟩, .int .i64 0, .string ⟨#[]⟩, .string ⟨#[]⟩, .string ⟨#[]⟩, .string ⟨#[]⟩, .string ⟨#[]⟩]; rw [← hw8.out] at this; exact this); clear hw8))
        go_roundw
        case rel => exact ⟨j + 1, by go_num, by omega, hid HN8.out.2, hid fun _ => HN8.out.1⟩
        case measure => simp [intOf]; omega
      · obtain rfl : n = j := by omega
        have y5 := HY.out.past HB.out.size HG.out (by omega)
        have z5 := HZ.out.past HS.out HG.out hgw
        have b5 := HB.out.grown HG.out HB.out.size (fun g e => by injection e with e; omega)
        have hsz : w1.heap.size ≤ wr.heap.size := Nat.le_trans HS.out HG.out.size
        have SM := hid (refSameC_eq Ao A l n co k HN.out (by omega) wr (z5.more hsz) (y5.more b5.size))
        clear y5 z5 hsz
        go_wp2_with fail
        refine SM.out.mono ?_
        rintro er w6 ⟨rfl, hq⟩
        have b6 : Below w.heap.size w w6 := by obtain ⟨q, rfl⟩ := hq; exact below_drewN b5 q
        clear hq b5 SM
        go_wp2_with fail
        refine (lives_any w6).mono ?_
        rintro er w7 ⟨rfl, bb⟩
        go_wp2
        go_ret
        exact ⟨rfl, b6.trans (bb.mono b6.size)⟩
end Go.Proofs.YtkggagnaiiemlaaDoor.Sh
/-
  The walk of CredCounts.
-/
namespace Go.Proofs.YtkggagnaiiemlaaDoor.Sh
open Go Go.RowKit

set_option maxHeartbeats 1000000 in
theorem credCounts_walk (A : Option Addr) (l : List Crd) (n k : Nat) (hn : l.length = n) (hk : n ≤ k) (hk2 : k ≤ 9223372036854775807) (w : World) (hb : Crs w w.heap.size A l) :
    Calls Tryd.prog 10 #[.slice A n k] w fun e w' => e = .returned (.bool true) ∧ Below w.heap.size w w' := by
  by_cases h40 : 40 < n
  · have hN : (l.take 40).length = 40 := by rw [List.length_take]; omega
    have y0 := hb.head (hi := 40)
    have h40' : (40 : Int) < (n : Int) := by omega
    have h40k : 40 ≤ k := by omega
    have HSO := hid (counts_any A (l.take 40) 40 k hN (by omega) hk2 (by omega) w y0)
    have HSR := hid (fun w2 (h : Crs w2 w2.heap.size A (l.take 40)) => refCounts_any A (l.take 40) 40 k hN (by omega) w2 h)
    have HY := hid y0
    clear hb hn hN y0
    go_enter Tryd.func10, Tryd.ntmps10
    go_wp2_with fail
    refine HSO.out.mono ?_
    rintro er w2 ⟨Aa, na, ca, out, rfl, hna, oa, sa, bb⟩
    have y2 := (HY.out.below bb).more bb.size
    have HS2 := hid (HSR.out w2 y2)
    clear HSO HSR y2
    go_wp2_with fail
    refine HS2.out.mono ?_
    rintro er w3 ⟨Ar, nr, cr, out2, rfl, hnr, orr, sr, bb2⟩
    obtain rfl : out2 = out := counts_uniq sr sa
    have hl1 := oa.len
    have hl2 := orr.len
    obtain rfl : nr = na := by omega
    have b3 := bb.trans (bb2.mono bb.size)
    have SM := hid (refSameC_eq Aa Ar out2 nr ca cr hl1 (by omega) w3 (oa.below bb2).crs orr.crs)
    clear oa orr sa sr bb bb2 hl1 hl2 HS2
    go_wp2_with fail
    refine SM.out.mono ?_
    rintro er w4 ⟨rfl, hq⟩
    have b4 : Below w.heap.size w w4 := by obtain ⟨q, rfl⟩ := hq; exact below_drewN b3 q
    clear hq b3 SM
    go_wp2_with fail
    refine (lives_any w4).mono ?_
    rintro er w5 ⟨rfl, bb⟩
    go_wp2
    go_ret
    exact ⟨rfl, b4.trans (bb.mono b4.size)⟩
  · have hN : l.length = n := hn
    have y0 := hb
    have h40' : ¬ (40 : Int) < (n : Int) := by omega
    have HSO := hid (counts_any A l n k hN (by omega) hk2 (by omega) w y0)
    have HSR := hid (fun w2 (h : Crs w2 w2.heap.size A l) => refCounts_any A l n k hN (by omega) w2 h)
    have HY := hid y0
    clear hb hn hN y0
    go_enter Tryd.func10, Tryd.ntmps10
    go_wp2_with fail
    refine HSO.out.mono ?_
    rintro er w2 ⟨Aa, na, ca, out, rfl, hna, oa, sa, bb⟩
    have y2 := (HY.out.below bb).more bb.size
    have HS2 := hid (HSR.out w2 y2)
    clear HSO HSR y2
    go_wp2_with fail
    refine HS2.out.mono ?_
    rintro er w3 ⟨Ar, nr, cr, out2, rfl, hnr, orr, sr, bb2⟩
    obtain rfl : out2 = out := counts_uniq sr sa
    have hl1 := oa.len
    have hl2 := orr.len
    obtain rfl : nr = na := by omega
    have b3 := bb.trans (bb2.mono bb.size)
    have SM := hid (refSameC_eq Aa Ar out2 nr ca cr hl1 (by omega) w3 (oa.below bb2).crs orr.crs)
    clear oa orr sa sr bb bb2 hl1 hl2 HS2
    go_wp2_with fail
    refine SM.out.mono ?_
    rintro er w4 ⟨rfl, hq⟩
    have b4 : Below w.heap.size w w4 := by obtain ⟨q, rfl⟩ := hq; exact below_drewN b3 q
    clear hq b3 SM
    go_wp2_with fail
    refine (lives_any w4).mono ?_
    rintro er w5 ⟨rfl, bb⟩
    go_wp2
    go_ret
    exact ⟨rfl, b4.trans (bb.mono b4.size)⟩
end Go.Proofs.YtkggagnaiiemlaaDoor.Sh
