/-
  The program's tape: Crash. Written by mk_tppgg.py.
-/
import Derived.Test.YtdigfbgjefffiaaTpPgC
import Derived.Test.YtdigfbgjefffiaaTpPgE
namespace Go.Proofs.Ytdigfbgjefffiaa.Sh
open Go Go.RowKit

set_option linter.unusedSimpArgs false
set_option linter.unusedVariables false
/-- How far the units of the first j calls reach, no farther than K. -/
def reachU (R : List Rn) (j K : Nat) : Nat := min (usR (R.take j)).length K
theorem FitR.reach {S : TS} {R : List Rn} (h : FitR S R) {K : Nat} (hK : K ≤ S.us.length) : reachU R 0 K = 0 ∧ reachU R R.length K = K := by
  unfold reachU
  refine ⟨by simp [usR], ?_⟩
  rw [List.take_of_length_le (Nat.le_refl _), h.us]
  omega
/-- One call more: m units are left, so many of its own are kept. -/
theorem FitR.round {S : TS} {R : List Rn} (h : FitR S R) {j K m : Nat} {r : Rn} (hj : R[j]? = some r) (hm : K - reachU R j K = m) (h0 : 0 < m) :
    reachU R (j + 1) K = reachU R j K + min m r.us.length ∧ ∀ d, S.done d (reachU R (j + 1) K) = if d = r.sd then (S.done d (reachU R j K)).take r.kp ++ r.dt.take m else S.done d (reachU R j K) := by
  have e0 : reachU R j K = (usR (R.take j)).length := by unfold reachU at *; omega
  have e1 : reachU R (j + 1) K = reachU R j K + min m r.us.length := by
    have := usR_take_succ hj
    rw [e0] at hm ⊢
    unfold reachU
    omega
  refine ⟨e1, fun d => ?_⟩
  rw [e1, e0]
  exact h.step hj h0 d
theorem FitR.small {S : TS} {R : List Rn} (h : FitR S R) (hok : TS.Ok S) {j : Nat} {r : Rn} (hj : R[j]? = some r) : (r.sd = 0 ∨ r.sd = 1) ∧ r.kp ≤ 65536 ∧ r.dt.length ≤ S.us.length := by
  refine ⟨h.sd j r hj, Nat.le_trans (h.kp j r hj).1 (hok.len _ _), ?_⟩
  have e := usR_split hj
  have e2 := r.us_len
  rw [h.us] at e
  have e3 : S.us.length = (usR (R.take j)).length + (r.us.length + (usR (R.drop (j + 1))).length) := by rw [e, List.length_append, List.length_append]
  omega
set_option maxHeartbeats 1000000 in
theorem applyC_any {w : World} {P : Nat → Prop} {κ : Nat → Nat} {q un uc : Nat} {V0 V1 U0 U1 : Hd} {UA : Option Addr} {b0 b1 : List UInt8} {L : List Ru} {ct lf : Int} {bn : Bool} {S : TS} {R : List Rn} {j K m kp : Nat} {dt : List UInt8} {sg : Int} (hok : TS.Ok S) (f : FitR S R) (hu : S.us.length ≤ 900000) (hx : R[j]? = some ⟨sg, kp, dt⟩) (hm : K - reachU R j K = m) (h0 : 0 < m)
    (e : TapF w P κ q V0 V1 U0 U1 UA un uc (S.done 0 (reachU R j K)) (S.done 1 (reachU R j K)) b0 b1 L ct bn lf) (X : Option Addr) (M d : Nat) (hM : min m dt.length = M) (hX : BytQ w (fun g => P g ∧ κ g = 2) X dt) :
    Calls Try.prog 39 #[.pointer (some ⟨q, 0, none⟩), .agg #[.int .i64 sg, .int .i64 (kp : Int), .slice X M d]] w fun er w' => er = .returned (.tuple #[]) ∧ ∃ κ' V0' V1', TapF w' (plusQ P w.heap.size w'.heap.size) κ' q V0' V1' U0 U1 UA un uc (S.done 0 (reachU R (j + 1) K)) (S.done 1 (reachU R (j + 1) K)) b0 b1 L ct bn lf ∧ Grew w w' P := by
  obtain ⟨hsd, hkp, hdl⟩ := f.small hok hx
  obtain ⟨-, hdn⟩ := f.round hx hm h0
  have hl0 := hok.len 0 (reachU R j K)
  have hl1 := hok.len 1 (reachU R j K)
  have htk : dt.take m = dt.take M := by rw [← hM, List.take_eq_take_iff]; omega
  have hMl : (dt.take M).length = M := by rw [List.length_take]; omega
  have hbt : Byt w w.heap.size X (dt.take M) := hX.byt.head
  simp only at hdn hsd hkp hdl
  rcases hsd with rfl | rfl
  · refine (apply0_any e kp X M d (dt.take M) hMl hbt (by omega) (by omega) (by omega)).mono ?_
    rintro er w' ⟨rfl, V', e', g'⟩
    refine ⟨rfl, kapQ κ w.heap.size 0, V', V1, ?_, g'.mono fun b _ h => h.1⟩
    rw [hdn 0, hdn 1, if_pos rfl, if_neg (by simp), htk]
    exact e'
  · refine (apply1_any e kp X M d (dt.take M) hMl hbt (by omega) (by omega) (by omega)).mono ?_
    rintro er w' ⟨rfl, V', e', g'⟩
    refine ⟨rfl, kapQ κ w.heap.size 1, V0, V', ?_, g'.mono fun b _ h => h.1⟩
    rw [hdn 0, hdn 1, if_pos rfl, if_neg (by simp), htk]
    exact e'
theorem crash_end {w w10 w11 w12 : World} {P : Nat → Prop} {κ : Nat → Nat} {q n K : Nat} {V0 V1 : Hd} {S : TS} (hok : TS.Ok ⟨S.done 0 K, S.done 1 K, [], false, S.lf⟩) (hg : Grew w w10 P) (hn : n ≤ w10.heap.size)
    (h : TapF w12 (plusQ P w.heap.size n) κ q V0 V1 V0 V1 none 0 0 (S.done 0 K) (S.done 1 K) (S.done 0 K) (S.done 1 K) [] 0 false S.lf ∧ Grew w10 w11 (plusQ P w.heap.size n) ∧ Grew w11 w12 (plusQ P w.heap.size n)) :
    Ending.returned (.tuple #[]) = .returned (.tuple #[]) ∧ TapI w12 (plusQ P w.heap.size w12.heap.size) q ⟨S.done 0 K, S.done 1 K, [], false, S.lf⟩ ∧ Grew w w12 P := by
  obtain ⟨e12, g11, g12⟩ := h
  have s1 := g11.size
  have s2 := g12.size
  refine ⟨rfl, ⟨hok, κ, _, _, _, _, _, _, _, _, e12.imp (fun x hx => ⟨plusQ_grow (by omega) x hx, rfl⟩) (fun x hx => hx.elim (fun hp => e12.dom x (.inl hp)) (·.2)), FitR.nil rfl⟩, (hg.thenQ g11).thenQ g12⟩
section
variable {w : World} {P : Nat → Prop} {q : Nat} {S : TS}
set_option maxHeartbeats 8000000 in
theorem crashI_any (e : TapI w P q S) (hu : S.us.length ≤ 900000) (z : Int) (hz : -9223372036854775808 ≤ z) (hz2 : z < 9223372036854775808) :
    Calls Try.prog 19 #[.pointer (some ⟨q, 0, none⟩), .int .i64 z] w fun er w' => er = .returned (.tuple #[]) ∧ TapI w' (plusQ P w.heap.size w'.heap.size) q ⟨S.done 0 (S.keep z), S.done 1 (S.keep z), [], false, S.lf⟩ ∧ Grew w w' P := by
  by_cases h0 : z < 0
  · skip
    have hkl := S.keep_le z
    have hkn := S.keep_num z
    rw [if_pos h0] at hkn
    have HOK := hid (TS.flat_ok (bn := false) (e.1.len 0 (S.keep z)) (e.1.len 1 (S.keep z)) e.1.lf0 e.1.lf1)
    obtain ⟨hok, κ, V0, V1, U0, U1, UA, un, uc, L, e, f⟩ := e
    obtain ⟨⟨k0, k1, k2, k3⟩, ⟨k4, k5, k6, k7⟩, hf⟩ := e.cells w (Below.refl _ _)
    obtain ⟨U, hU⟩ : ∃ U, S.us.length = U := ⟨_, rfl⟩
    rw [hU] at k5 hkn hkl hu
    have ep : -(z + 1).tmod ((U : Int) + 1) = ((S.keep z : Nat) : Int) := by rw [hkn, ← Int.neg_tmod, Int.tmod_eq_emod_of_nonneg (by omega)]
    generalize hKK : S.keep z = K at *
    have HRE := hid (f.reach (K := K) (by omega))
    have HFT := hid f
    have HOK0 := hid hok
    have HU := hid hU
    have hun : (L.map (·.1)).length = un := by rw [List.length_map]; exact e.ul
    have HUN := hid hun
    have hUU : un ≤ 900000 := by have := f.le; omega
    have f0 := hf 0
    have f1 : (w.setCell ⟨q, 0, none⟩ (.slice U0.A U0.n U0.c)).frozen? ⟨q, 1, none⟩ = false := frozen_of_row _ q 1 _ _ (heap_setCell_same w q 0 _ _ _ e.row)
    have HBK := hid (fun w' h => e.setBack w' h)
    have HDM := hid e.dom
    clear hf e f hok hkn hun hU hKK
    go_enter Try.func19, Try.ntmps19
    go_upto_region 4 with fail
    obtain ⟨w2, hw2⟩ : ∃ x, x = ((w.setCell ⟨q, 0, none⟩ (.slice U0.A U0.n U0.c)).setCell ⟨q, 1, none⟩ (.slice U1.A U1.n U1.c)) := ⟨_, rfl⟩
    rw [← hw2]
    have h2 := HBK.out w2 hw2
    have HE2 := hid h2.1
    have HG2 := hid h2.2
    have k24 := (h2.1.cells _ (Below.refl _ _)).2.1.1
    clear h2 hw2 k0 k1 k2 k3 k4 k5 k6 k7 f0 f1
    go_wp2_with fail
    have hE2' : TapF w2 (plusQ P w.heap.size w2.heap.size) κ q U0 U1 U0 U1 UA un uc (S.done 0 (reachU (L.map (·.1)) 0 K)) (S.done 1 (reachU (L.map (·.1)) 0 K)) S.s0 S.s1 L (S.us.length : Int) S.bn S.lf := by
      rw [HRE.out.1]
      exact HE2.out.imp (fun x hx => ⟨.inl hx, rfl⟩) (fun x hx => hx.elim (HE2.out.dom x) (·.2))
    have HE2' := hid hE2'
    have hr0 : reachU (L.map (·.1)) 0 K = 0 := HRE.out.1
    clear hE2' HE2
    go_loopw [4, 31] (fun lv i wr => ∃ (j : Nat) (m : Nat) (κ' : Nat → Nat) (V0' V1' : Hd), lv = .int .i64 (m : Int) ∧ i = .int .i64 (j : Int) ∧ j ≤ un ∧ m ≤ 900000 ∧ Hid (K - reachU (L.map (·.1)) j K = m) ∧ Hid (TapF wr (plusQ P w.heap.size wr.heap.size) κ' q V0' V1' U0 U1 UA un uc (S.done 0 (reachU (L.map (·.1)) j K)) (S.done 1 (reachU (L.map (·.1)) j K)) S.s0 S.s1 L (S.us.length : Int) S.bn S.lf) ∧ Hid (Grew w wr P)) (fun _ i _ => un - (intOf i).toNat)
    case atStart =>
      exact ⟨0, K, κ, U0, U1, rfl, rfl, Nat.zero_le _, by omega, hid (by rw [hr0]; rfl), HE2', HG2⟩
    case round =>
      obtain ⟨wj, hwj⟩ : ∃ x, x = wr := ⟨_, rfl⟩
      subst hwj
      obtain ⟨j, m, κ', V0', V1', rfl, rfl, hj, hm9, HM, HE, HG⟩ := hrel
      have hj0 : (0 : Int) ≤ (j : Int) := Int.natCast_nonneg _
      by_cases hlt : j < un
      · obtain ⟨⟨⟨sd, kp, dt⟩, X, d⟩, hx⟩ : ∃ x, L[j]? = some x := ⟨_, List.getElem?_eq_getElem (by rw [← List.length_map (f := fun x : Ru => x.1), HUN.out]; exact hlt)⟩
        have hxm : (L.map (·.1))[j]? = some ⟨sd, kp, dt⟩ := by rw [List.getElem?_map, hx]; rfl
        obtain ⟨hsd, hkp, hdl⟩ := HFT.out.small HOK0.out hxm
        have hdat := HE.out.dat _ (List.mem_of_getElem? hx)
        obtain ⟨hd1, hd2, hd3⟩ := hdat
        obtain ⟨ad, aj, rfl, hab, ea, heb, g0, g1⟩ := (own_els HE.out.own).get hx
        have ea3 : ad.add (j * 3) = aj := ea
        have gA := g0 _ rfl
        have gB := g1 1 _ (by omega) rfl
        have gC := g1 2 _ (by omega) rfl
        simp only at gA gB gC hsd hkp hdl hd1 hd2 hd3
        clear g0 g1 ea heb hab
        obtain ⟨n, hn⟩ : ∃ n, dt.length = n := ⟨_, rfl⟩
        rw [hn] at gC hdl hd1
        have hj1 : (j : Int) < (un : Int) := by omega
        by_cases hm0 : m = 0
        · subst hm0
          have hrK : reachU (L.map (·.1)) j K = K := by have := HM.out; unfold reachU at this ⊢; omega
          have hba : Below wj.heap.size wj (wj.alloc (.cells #[.int .i64 sd, .int .i64 (kp : Int), .slice X n d] 61)) := (Below.refl _ _).alloc (Nat.le_refl _) _
          have HE10 := HE.out.below hba
          rw [hrK] at HE10
          have HS10 := hid (HG.out.trans (Grew.of_below hba))
          have HZ10 := hid hba.size
          have HT := hid (settle_any HE10)
          clear hx hxm hrK hba HE10 hd3
          go_wp2_with fail
          refine HT.out.mono ?_
          rintro er w11 ⟨rfl, e11, g11⟩
          have f116 := (e11.cells _ (Below.refl _ _)).2.2 6
          have k116 := (e11.cells _ (Below.refl _ _)).2.1.2.2.1
          have H12 := hid (And.intro (e11.setBn false) (And.intro g11 (e11.grew_set 6 (.bool false))))
          clear e11 g11
          go_wp2_with fail
          go_end0
          exact crash_end HOK.out HS10.out HZ10.out H12.out
        · have hmz : ((m : Int) == 0) = false := by simp [hm0]
          by_cases hnm : n < m
          · skip
            have HSZ := hid (fun W => size_any W sd (kp : Int) X n d (by omega))
            obtain ⟨z', hz'⟩ : ∃ z', max 1 n = z' := ⟨_, rfl⟩
            rw [hz'] at HSZ
            have hzm : z' ≤ m := by omega
            obtain ⟨wa, hwa⟩ : ∃ x, x = wj.alloc (.cells #[.int .i64 sd, .int .i64 (kp : Int), .slice X n d] 61) := ⟨_, rfl⟩
            have hba : Below wj.heap.size wj wa := by rw [hwa]; exact (Below.refl _ _).alloc (Nat.le_refl _) _
            have hrowa : wa.heap[wj.heap.size]? = some (.cells #[.int .i64 sd, .int .i64 (kp : Int), .slice X n d] 61 (0, 0)) := by rw [hwa]; exact heap_alloc_new wj _
            have hsa : wa.heap.size = wj.heap.size + 1 := by rw [hwa]; simp
            have HRX := hid (fun (w8 : World) (b : Below wa.heap.size wa w8) => (show w8.cell? ⟨wj.heap.size, 0, none⟩ = some (.int .i64 sd) ∧ w8.cell? ⟨wj.heap.size, 1, none⟩ = some (.int .i64 (kp : Int)) ∧ w8.cell? ⟨wj.heap.size, 2, none⟩ = some (.slice X n d) from by
              have hr : w8.heap[wj.heap.size]? = some (.cells #[.int .i64 sd, .int .i64 (kp : Int), .slice X n d] 61 (0, 0)) := (b.block _ (by omega)).trans hrowa
              exact ⟨by rw [cell_of_row w8 _ 0 _ _ (0, 0) hr]; rfl, by rw [cell_of_row w8 _ 1 _ _ (0, 0) hr]; rfl, by rw [cell_of_row w8 _ 2 _ _ (0, 0) hr]; rfl⟩))
            have HAP := hid (fun (w8 : World) (b : Below wa.heap.size wa w8) => applyC_any HOK0.out HFT.out (by rw [HU.out]; exact hu) hxm HM.out (by omega) ((HE.out.below hba).below b) X n d (by rw [hn]; omega) ((hd3.kept (w' := wa) (fun b _ hl => hba.block b hl) hba.size).kept (w' := w8) (fun x _ hl => b.block x hl) b.size))
            have HRN := hid (HFT.out.round hxm HM.out (by omega)).1
            have HBA := hid hba
            have hus : (Rn.us ⟨sd, kp, dt⟩).length = max 1 n := by rw [Rn.us_len]; simp only; rw [hn]
            rw [hus] at HRN
            clear hx hxm hrowa hd3 hus
            go_wp2_with fail
            rw [← hwa]
            clear hwa
            refine (HSZ.out wa).mono ?_
            rintro er w8 ⟨rfl, b8⟩
            obtain ⟨x0, x1, x2⟩ := HRX.out w8 b8
            have HB8 := hid b8
            have HA8 := hid (HAP.out w8 b8)
            clear b8
            go_wp2_with fail
            refine HA8.out.mono ?_
            rintro er w9 ⟨rfl, κ9, V09, V19, e9, g9⟩
            have H9 := hid (And.intro e9 g9)
            clear e9 g9
            go_wp2_with fail
            go_roundw
            case rel =>
              have s1 := HG.out.size
              have s2 := HBA.out.size
              have s3 := HB8.out.size
              have s4 := H9.out.2.size
              have hrn := HRN.out
              have hmm := HM.out
              refine ⟨j + 1, m - z', κ9, V09, V19, ?_, by go_num, by omega, by omega, hid (by omega), hid (H9.out.1.imp (fun x hx => ⟨plusQ_twice (n := w.heap.size) (m := wj.heap.size) (M := w8.heap.size) (k := w9.heap.size) (by omega) (by omega) x hx, rfl⟩) (fun x hx => hx.elim (fun hp => H9.out.1.dom x (.inl (.inl hp))) (·.2))), hid (((HG.out.trans (Grew.of_below HBA.out)).trans (Grew.of_below HB8.out)).thenQ H9.out.2)⟩
              rw [Int.natCast_sub hzm]
            case measure => simp [intOf]; omega
          · skip
            have HSZ := hid (fun W => size_any W sd (kp : Int) X m d (by omega))
            obtain ⟨z', hz'⟩ : ∃ z', max 1 m = z' := ⟨_, rfl⟩
            rw [hz'] at HSZ
            have hzm : z' ≤ m := by omega
            obtain ⟨wa, hwa⟩ : ∃ x, x = wj.alloc (.cells #[.int .i64 sd, .int .i64 (kp : Int), .slice X m d] 61) := ⟨_, rfl⟩
            have hba : Below wj.heap.size wj wa := by rw [hwa]; exact (Below.refl _ _).alloc (Nat.le_refl _) _
            have hrowa : wa.heap[wj.heap.size]? = some (.cells #[.int .i64 sd, .int .i64 (kp : Int), .slice X m d] 61 (0, 0)) := by rw [hwa]; exact heap_alloc_new wj _
            have hsa : wa.heap.size = wj.heap.size + 1 := by rw [hwa]; simp
            have HRX := hid (fun (w8 : World) (b : Below wa.heap.size wa w8) => (show w8.cell? ⟨wj.heap.size, 0, none⟩ = some (.int .i64 sd) ∧ w8.cell? ⟨wj.heap.size, 1, none⟩ = some (.int .i64 (kp : Int)) ∧ w8.cell? ⟨wj.heap.size, 2, none⟩ = some (.slice X m d) from by
              have hr : w8.heap[wj.heap.size]? = some (.cells #[.int .i64 sd, .int .i64 (kp : Int), .slice X m d] 61 (0, 0)) := (b.block _ (by omega)).trans hrowa
              exact ⟨by rw [cell_of_row w8 _ 0 _ _ (0, 0) hr]; rfl, by rw [cell_of_row w8 _ 1 _ _ (0, 0) hr]; rfl, by rw [cell_of_row w8 _ 2 _ _ (0, 0) hr]; rfl⟩))
            have HAP := hid (fun (w8 : World) (b : Below wa.heap.size wa w8) => applyC_any HOK0.out HFT.out (by rw [HU.out]; exact hu) hxm HM.out (by omega) ((HE.out.below hba).below b) X m d (by rw [hn]; omega) ((hd3.kept (w' := wa) (fun b _ hl => hba.block b hl) hba.size).kept (w' := w8) (fun x _ hl => b.block x hl) b.size))
            have HRN := hid (HFT.out.round hxm HM.out (by omega)).1
            have HBA := hid hba
            have hus : (Rn.us ⟨sd, kp, dt⟩).length = max 1 n := by rw [Rn.us_len]; simp only; rw [hn]
            rw [hus] at HRN
            clear hx hxm hrowa hd3 hus
            go_wp2_with fail
            rw [← hwa]
            clear hwa
            refine (HSZ.out wa).mono ?_
            rintro er w8 ⟨rfl, b8⟩
            obtain ⟨x0, x1, x2⟩ := HRX.out w8 b8
            have HB8 := hid b8
            have HA8 := hid (HAP.out w8 b8)
            clear b8
            go_wp2_with fail
            refine HA8.out.mono ?_
            rintro er w9 ⟨rfl, κ9, V09, V19, e9, g9⟩
            have H9 := hid (And.intro e9 g9)
            clear e9 g9
            go_wp2_with fail
            go_roundw
            case rel =>
              have s1 := HG.out.size
              have s2 := HBA.out.size
              have s3 := HB8.out.size
              have s4 := H9.out.2.size
              have hrn := HRN.out
              have hmm := HM.out
              refine ⟨j + 1, m - z', κ9, V09, V19, ?_, by go_num, by omega, by omega, hid (by omega), hid (H9.out.1.imp (fun x hx => ⟨plusQ_twice (n := w.heap.size) (m := wj.heap.size) (M := w8.heap.size) (k := w9.heap.size) (by omega) (by omega) x hx, rfl⟩) (fun x hx => hx.elim (fun hp => H9.out.1.dom x (.inl (.inl hp))) (·.2))), hid (((HG.out.trans (Grew.of_below HBA.out)).trans (Grew.of_below HB8.out)).thenQ H9.out.2)⟩
              rw [Int.natCast_sub hzm]
            case measure => simp [intOf]; omega
      · obtain rfl : j = un := by omega
        have hrK : reachU (L.map (·.1)) j K = K := by have := HRE.out.2; rw [HUN.out] at this; exact this
        have HE10 := HE.out
        rw [hrK] at HE10
        have HT := hid (settle_any HE10)
        clear hrK HE10
        go_wp2_with fail
        refine HT.out.mono ?_
        rintro er w11 ⟨rfl, e11, g11⟩
        have f116 := (e11.cells _ (Below.refl _ _)).2.2 6
        have k116 := (e11.cells _ (Below.refl _ _)).2.1.2.2.1
        have H12 := hid (And.intro (e11.setBn false) (And.intro g11 (e11.grew_set 6 (.bool false))))
        clear e11 g11
        go_wp2_with fail
        go_end0
        exact crash_end HOK.out HG.out (Nat.le_refl _) H12.out
  · skip
    have hkl := S.keep_le z
    have hkn := S.keep_num z
    rw [if_neg h0] at hkn
    have HOK := hid (TS.flat_ok (bn := false) (e.1.len 0 (S.keep z)) (e.1.len 1 (S.keep z)) e.1.lf0 e.1.lf1)
    obtain ⟨hok, κ, V0, V1, U0, U1, UA, un, uc, L, e, f⟩ := e
    obtain ⟨⟨k0, k1, k2, k3⟩, ⟨k4, k5, k6, k7⟩, hf⟩ := e.cells w (Below.refl _ _)
    obtain ⟨U, hU⟩ : ∃ U, S.us.length = U := ⟨_, rfl⟩
    rw [hU] at k5 hkn hkl hu
    have ep : z % ((U : Int) + 1) = ((S.keep z : Nat) : Int) := hkn.symm
    have h0' : 0 ≤ z := by omega
    generalize hKK : S.keep z = K at *
    have HRE := hid (f.reach (K := K) (by omega))
    have HFT := hid f
    have HOK0 := hid hok
    have HU := hid hU
    have hun : (L.map (·.1)).length = un := by rw [List.length_map]; exact e.ul
    have HUN := hid hun
    have hUU : un ≤ 900000 := by have := f.le; omega
    have f0 := hf 0
    have f1 : (w.setCell ⟨q, 0, none⟩ (.slice U0.A U0.n U0.c)).frozen? ⟨q, 1, none⟩ = false := frozen_of_row _ q 1 _ _ (heap_setCell_same w q 0 _ _ _ e.row)
    have HBK := hid (fun w' h => e.setBack w' h)
    have HDM := hid e.dom
    clear hf e f hok hkn hun hU hKK
    go_enter Try.func19, Try.ntmps19
    go_upto_region 4 with fail
    obtain ⟨w2, hw2⟩ : ∃ x, x = ((w.setCell ⟨q, 0, none⟩ (.slice U0.A U0.n U0.c)).setCell ⟨q, 1, none⟩ (.slice U1.A U1.n U1.c)) := ⟨_, rfl⟩
    rw [← hw2]
    have h2 := HBK.out w2 hw2
    have HE2 := hid h2.1
    have HG2 := hid h2.2
    have k24 := (h2.1.cells _ (Below.refl _ _)).2.1.1
    clear h2 hw2 k0 k1 k2 k3 k4 k5 k6 k7 f0 f1
    go_wp2_with fail
    have hE2' : TapF w2 (plusQ P w.heap.size w2.heap.size) κ q U0 U1 U0 U1 UA un uc (S.done 0 (reachU (L.map (·.1)) 0 K)) (S.done 1 (reachU (L.map (·.1)) 0 K)) S.s0 S.s1 L (S.us.length : Int) S.bn S.lf := by
      rw [HRE.out.1]
      exact HE2.out.imp (fun x hx => ⟨.inl hx, rfl⟩) (fun x hx => hx.elim (HE2.out.dom x) (·.2))
    have HE2' := hid hE2'
    have hr0 : reachU (L.map (·.1)) 0 K = 0 := HRE.out.1
    clear hE2' HE2
    go_loopw [4, 31] (fun lv i wr => ∃ (j : Nat) (m : Nat) (κ' : Nat → Nat) (V0' V1' : Hd), lv = .int .i64 (m : Int) ∧ i = .int .i64 (j : Int) ∧ j ≤ un ∧ m ≤ 900000 ∧ Hid (K - reachU (L.map (·.1)) j K = m) ∧ Hid (TapF wr (plusQ P w.heap.size wr.heap.size) κ' q V0' V1' U0 U1 UA un uc (S.done 0 (reachU (L.map (·.1)) j K)) (S.done 1 (reachU (L.map (·.1)) j K)) S.s0 S.s1 L (S.us.length : Int) S.bn S.lf) ∧ Hid (Grew w wr P)) (fun _ i _ => un - (intOf i).toNat)
    case atStart =>
      exact ⟨0, K, κ, U0, U1, rfl, rfl, Nat.zero_le _, by omega, hid (by rw [hr0]; rfl), HE2', HG2⟩
    case round =>
      obtain ⟨wj, hwj⟩ : ∃ x, x = wr := ⟨_, rfl⟩
      subst hwj
      obtain ⟨j, m, κ', V0', V1', rfl, rfl, hj, hm9, HM, HE, HG⟩ := hrel
      have hj0 : (0 : Int) ≤ (j : Int) := Int.natCast_nonneg _
      by_cases hlt : j < un
      · obtain ⟨⟨⟨sd, kp, dt⟩, X, d⟩, hx⟩ : ∃ x, L[j]? = some x := ⟨_, List.getElem?_eq_getElem (by rw [← List.length_map (f := fun x : Ru => x.1), HUN.out]; exact hlt)⟩
        have hxm : (L.map (·.1))[j]? = some ⟨sd, kp, dt⟩ := by rw [List.getElem?_map, hx]; rfl
        obtain ⟨hsd, hkp, hdl⟩ := HFT.out.small HOK0.out hxm
        have hdat := HE.out.dat _ (List.mem_of_getElem? hx)
        obtain ⟨hd1, hd2, hd3⟩ := hdat
        obtain ⟨ad, aj, rfl, hab, ea, heb, g0, g1⟩ := (own_els HE.out.own).get hx
        have ea3 : ad.add (j * 3) = aj := ea
        have gA := g0 _ rfl
        have gB := g1 1 _ (by omega) rfl
        have gC := g1 2 _ (by omega) rfl
        simp only at gA gB gC hsd hkp hdl hd1 hd2 hd3
        clear g0 g1 ea heb hab
        obtain ⟨n, hn⟩ : ∃ n, dt.length = n := ⟨_, rfl⟩
        rw [hn] at gC hdl hd1
        have hj1 : (j : Int) < (un : Int) := by omega
        by_cases hm0 : m = 0
        · subst hm0
          have hrK : reachU (L.map (·.1)) j K = K := by have := HM.out; unfold reachU at this ⊢; omega
          have hba : Below wj.heap.size wj (wj.alloc (.cells #[.int .i64 sd, .int .i64 (kp : Int), .slice X n d] 61)) := (Below.refl _ _).alloc (Nat.le_refl _) _
          have HE10 := HE.out.below hba
          rw [hrK] at HE10
          have HS10 := hid (HG.out.trans (Grew.of_below hba))
          have HZ10 := hid hba.size
          have HT := hid (settle_any HE10)
          clear hx hxm hrK hba HE10 hd3
          go_wp2_with fail
          refine HT.out.mono ?_
          rintro er w11 ⟨rfl, e11, g11⟩
          have f116 := (e11.cells _ (Below.refl _ _)).2.2 6
          have k116 := (e11.cells _ (Below.refl _ _)).2.1.2.2.1
          have H12 := hid (And.intro (e11.setBn false) (And.intro g11 (e11.grew_set 6 (.bool false))))
          clear e11 g11
          go_wp2_with fail
          go_end0
          exact crash_end HOK.out HS10.out HZ10.out H12.out
        · have hmz : ((m : Int) == 0) = false := by simp [hm0]
          by_cases hnm : n < m
          · skip
            have HSZ := hid (fun W => size_any W sd (kp : Int) X n d (by omega))
            obtain ⟨z', hz'⟩ : ∃ z', max 1 n = z' := ⟨_, rfl⟩
            rw [hz'] at HSZ
            have hzm : z' ≤ m := by omega
            obtain ⟨wa, hwa⟩ : ∃ x, x = wj.alloc (.cells #[.int .i64 sd, .int .i64 (kp : Int), .slice X n d] 61) := ⟨_, rfl⟩
            have hba : Below wj.heap.size wj wa := by rw [hwa]; exact (Below.refl _ _).alloc (Nat.le_refl _) _
            have hrowa : wa.heap[wj.heap.size]? = some (.cells #[.int .i64 sd, .int .i64 (kp : Int), .slice X n d] 61 (0, 0)) := by rw [hwa]; exact heap_alloc_new wj _
            have hsa : wa.heap.size = wj.heap.size + 1 := by rw [hwa]; simp
            have HRX := hid (fun (w8 : World) (b : Below wa.heap.size wa w8) => (show w8.cell? ⟨wj.heap.size, 0, none⟩ = some (.int .i64 sd) ∧ w8.cell? ⟨wj.heap.size, 1, none⟩ = some (.int .i64 (kp : Int)) ∧ w8.cell? ⟨wj.heap.size, 2, none⟩ = some (.slice X n d) from by
              have hr : w8.heap[wj.heap.size]? = some (.cells #[.int .i64 sd, .int .i64 (kp : Int), .slice X n d] 61 (0, 0)) := (b.block _ (by omega)).trans hrowa
              exact ⟨by rw [cell_of_row w8 _ 0 _ _ (0, 0) hr]; rfl, by rw [cell_of_row w8 _ 1 _ _ (0, 0) hr]; rfl, by rw [cell_of_row w8 _ 2 _ _ (0, 0) hr]; rfl⟩))
            have HAP := hid (fun (w8 : World) (b : Below wa.heap.size wa w8) => applyC_any HOK0.out HFT.out (by rw [HU.out]; exact hu) hxm HM.out (by omega) ((HE.out.below hba).below b) X n d (by rw [hn]; omega) ((hd3.kept (w' := wa) (fun b _ hl => hba.block b hl) hba.size).kept (w' := w8) (fun x _ hl => b.block x hl) b.size))
            have HRN := hid (HFT.out.round hxm HM.out (by omega)).1
            have HBA := hid hba
            have hus : (Rn.us ⟨sd, kp, dt⟩).length = max 1 n := by rw [Rn.us_len]; simp only; rw [hn]
            rw [hus] at HRN
            clear hx hxm hrowa hd3 hus
            go_wp2_with fail
            rw [← hwa]
            clear hwa
            refine (HSZ.out wa).mono ?_
            rintro er w8 ⟨rfl, b8⟩
            obtain ⟨x0, x1, x2⟩ := HRX.out w8 b8
            have HB8 := hid b8
            have HA8 := hid (HAP.out w8 b8)
            clear b8
            go_wp2_with fail
            refine HA8.out.mono ?_
            rintro er w9 ⟨rfl, κ9, V09, V19, e9, g9⟩
            have H9 := hid (And.intro e9 g9)
            clear e9 g9
            go_wp2_with fail
            go_roundw
            case rel =>
              have s1 := HG.out.size
              have s2 := HBA.out.size
              have s3 := HB8.out.size
              have s4 := H9.out.2.size
              have hrn := HRN.out
              have hmm := HM.out
              refine ⟨j + 1, m - z', κ9, V09, V19, ?_, by go_num, by omega, by omega, hid (by omega), hid (H9.out.1.imp (fun x hx => ⟨plusQ_twice (n := w.heap.size) (m := wj.heap.size) (M := w8.heap.size) (k := w9.heap.size) (by omega) (by omega) x hx, rfl⟩) (fun x hx => hx.elim (fun hp => H9.out.1.dom x (.inl (.inl hp))) (·.2))), hid (((HG.out.trans (Grew.of_below HBA.out)).trans (Grew.of_below HB8.out)).thenQ H9.out.2)⟩
              rw [Int.natCast_sub hzm]
            case measure => simp [intOf]; omega
          · skip
            have HSZ := hid (fun W => size_any W sd (kp : Int) X m d (by omega))
            obtain ⟨z', hz'⟩ : ∃ z', max 1 m = z' := ⟨_, rfl⟩
            rw [hz'] at HSZ
            have hzm : z' ≤ m := by omega
            obtain ⟨wa, hwa⟩ : ∃ x, x = wj.alloc (.cells #[.int .i64 sd, .int .i64 (kp : Int), .slice X m d] 61) := ⟨_, rfl⟩
            have hba : Below wj.heap.size wj wa := by rw [hwa]; exact (Below.refl _ _).alloc (Nat.le_refl _) _
            have hrowa : wa.heap[wj.heap.size]? = some (.cells #[.int .i64 sd, .int .i64 (kp : Int), .slice X m d] 61 (0, 0)) := by rw [hwa]; exact heap_alloc_new wj _
            have hsa : wa.heap.size = wj.heap.size + 1 := by rw [hwa]; simp
            have HRX := hid (fun (w8 : World) (b : Below wa.heap.size wa w8) => (show w8.cell? ⟨wj.heap.size, 0, none⟩ = some (.int .i64 sd) ∧ w8.cell? ⟨wj.heap.size, 1, none⟩ = some (.int .i64 (kp : Int)) ∧ w8.cell? ⟨wj.heap.size, 2, none⟩ = some (.slice X m d) from by
              have hr : w8.heap[wj.heap.size]? = some (.cells #[.int .i64 sd, .int .i64 (kp : Int), .slice X m d] 61 (0, 0)) := (b.block _ (by omega)).trans hrowa
              exact ⟨by rw [cell_of_row w8 _ 0 _ _ (0, 0) hr]; rfl, by rw [cell_of_row w8 _ 1 _ _ (0, 0) hr]; rfl, by rw [cell_of_row w8 _ 2 _ _ (0, 0) hr]; rfl⟩))
            have HAP := hid (fun (w8 : World) (b : Below wa.heap.size wa w8) => applyC_any HOK0.out HFT.out (by rw [HU.out]; exact hu) hxm HM.out (by omega) ((HE.out.below hba).below b) X m d (by rw [hn]; omega) ((hd3.kept (w' := wa) (fun b _ hl => hba.block b hl) hba.size).kept (w' := w8) (fun x _ hl => b.block x hl) b.size))
            have HRN := hid (HFT.out.round hxm HM.out (by omega)).1
            have HBA := hid hba
            have hus : (Rn.us ⟨sd, kp, dt⟩).length = max 1 n := by rw [Rn.us_len]; simp only; rw [hn]
            rw [hus] at HRN
            clear hx hxm hrowa hd3 hus
            go_wp2_with fail
            rw [← hwa]
            clear hwa
            refine (HSZ.out wa).mono ?_
            rintro er w8 ⟨rfl, b8⟩
            obtain ⟨x0, x1, x2⟩ := HRX.out w8 b8
            have HB8 := hid b8
            have HA8 := hid (HAP.out w8 b8)
            clear b8
            go_wp2_with fail
            refine HA8.out.mono ?_
            rintro er w9 ⟨rfl, κ9, V09, V19, e9, g9⟩
            have H9 := hid (And.intro e9 g9)
            clear e9 g9
            go_wp2_with fail
            go_roundw
            case rel =>
              have s1 := HG.out.size
              have s2 := HBA.out.size
              have s3 := HB8.out.size
              have s4 := H9.out.2.size
              have hrn := HRN.out
              have hmm := HM.out
              refine ⟨j + 1, m - z', κ9, V09, V19, ?_, by go_num, by omega, by omega, hid (by omega), hid (H9.out.1.imp (fun x hx => ⟨plusQ_twice (n := w.heap.size) (m := wj.heap.size) (M := w8.heap.size) (k := w9.heap.size) (by omega) (by omega) x hx, rfl⟩) (fun x hx => hx.elim (fun hp => H9.out.1.dom x (.inl (.inl hp))) (·.2))), hid (((HG.out.trans (Grew.of_below HBA.out)).trans (Grew.of_below HB8.out)).thenQ H9.out.2)⟩
              rw [Int.natCast_sub hzm]
            case measure => simp [intOf]; omega
      · obtain rfl : j = un := by omega
        have hrK : reachU (L.map (·.1)) j K = K := by have := HRE.out.2; rw [HUN.out] at this; exact this
        have HE10 := HE.out
        rw [hrK] at HE10
        have HT := hid (settle_any HE10)
        clear hrK HE10
        go_wp2_with fail
        refine HT.out.mono ?_
        rintro er w11 ⟨rfl, e11, g11⟩
        have f116 := (e11.cells _ (Below.refl _ _)).2.2 6
        have k116 := (e11.cells _ (Below.refl _ _)).2.1.2.2.1
        have H12 := hid (And.intro (e11.setBn false) (And.intro g11 (e11.grew_set 6 (.bool false))))
        clear e11 g11
        go_wp2_with fail
        go_end0
        exact crash_end HOK.out HG.out (Nat.le_refl _) H12.out
end
end Go.Proofs.Ytdigfbgjefffiaa.Sh
