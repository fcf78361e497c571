/-
  The program's linked, by contract.
-/
import Derived.Test.YtfbapbpggicfbaaDoorJa15
import Derived.Test.YtfbapbpggicfbaaDoorJa17
set_option linter.unusedVariables false
set_option linter.unusedSimpArgs false
namespace Go.Proofs.YtfbapbpggicfbaaDoor.Sh
open Go Go.RowKit

set_option linter.unusedVariables false
set_option linter.unusedSimpArgs false

/-- What a Link asks of a proof's parts. -/
def LinkP (c : Crd) (p : PT) : Prop := ∃ a b, p.ps = [a, b] ∧ a.pr = (firstOf c, a.x) ∧ isD a.x ∧ b.pr = ((a.x, c.bn), p.x)
theorem linkP_iff {c : Crd} {o n x : ByteArray} {d q : Int} {A : Option Addr} {cp : Nat} {a : PT} {ps : List PT} :
    LinkP c (.mk o n x d q A cp (a :: ps)) ↔ isD a.x ∧ (a :: ps).map PT.pr = [(firstOf c, a.x), ((a.x, c.bn), x)] := by
  unfold LinkP
  constructor
  · rintro ⟨a', b', h1, h2, h3, h4⟩
    simp only [PT.ps, List.cons.injEq] at h1
    obtain ⟨rfl, rfl⟩ := h1
    exact ⟨h3, by simp only [List.map_cons, List.map_nil]; rw [h2, h4]; rfl⟩
  · rintro ⟨h1, h2⟩
    simp only [List.map_cons, List.cons.injEq] at h2
    obtain ⟨h3, h4⟩ := h2
    cases ps with
    | nil => cases h4
    | cons b t =>
      simp only [List.map_cons, List.cons.injEq, List.map_eq_nil_iff] at h4
      obtain ⟨h5, rfl⟩ := h4
      exact ⟨a, b, rfl, h3, h1, h5⟩
theorem linkP_nil {c : Crd} {o n x : ByteArray} {d q : Int} {A : Option Addr} {cp : Nat} : ¬ LinkP c (.mk o n x d q A cp []) := by
  rintro ⟨a, b, h, _⟩
  cases h
theorem zrow (w : World) {w' : World} (hb : Below (w.alloc (.cells #[.string ⟨#[]⟩, .string ⟨#[]⟩, .string ⟨#[]⟩] 73)).drew.heap.size (w.alloc (.cells #[.string ⟨#[]⟩, .string ⟨#[]⟩, .string ⟨#[]⟩] 73)).drew w') :
    w'.heap[w.heap.size]? = some (.cells #[.string ⟨#[]⟩, .string ⟨#[]⟩, .string ⟨#[]⟩] 73 (0, 0)) := by
  rw [hb.block w.heap.size (by show _ < (w.alloc _).heap.size; rw [World.size_alloc]; exact Nat.lt_succ_self _)]
  exact heap_alloc_new w _
theorem zrow_cells {w : World} {g : Nat} (h : w.heap[g]? = some (.cells #[.string ⟨#[]⟩, .string ⟨#[]⟩, .string ⟨#[]⟩] 73 (0, 0))) :
    (w.cell? ⟨g, 0, none⟩ = some (.string ⟨#[]⟩) ∧ w.cell? ⟨g, 1, none⟩ = some (.string ⟨#[]⟩) ∧ w.cell? ⟨g, 2, none⟩ = some (.string ⟨#[]⟩)) ∧ w.frozen? ⟨g, 0, none⟩ = false ∧ w.frozen? ⟨g, 1, none⟩ = false ∧ w.frozen? ⟨g, 2, none⟩ = false := by
  refine ⟨⟨?_, ?_, ?_⟩, ?_, ?_, ?_⟩
  · rw [cell_of_row w g 0 _ _ (0, 0) h]; rfl
  · rw [cell_of_row w g 1 _ _ (0, 0) h]; rfl
  · rw [cell_of_row w g 2 _ _ (0, 0) h]; rfl
  · simp [World.frozen?, h]
  · simp [World.frozen?, h]
  · simp [World.frozen?, h]
theorem set3 {w : World} {g : Nat} {a b c x y z : Value} {T : TypeId} {fr : Nat × Nat} (h : w.heap[g]? = some (.cells #[a, b, c] T fr)) :
    (((w.setCell ⟨g, 0, none⟩ x).setCell ⟨g, 1, none⟩ y).setCell ⟨g, 2, none⟩ z).heap[g]? = some (.cells #[x, y, z] T fr) := by
  simp [World.setCell, Array.getElem?_modify, h]
theorem cells3 {w : World} {g : Nat} {a b c : Value} {T : TypeId} (h : w.heap[g]? = some (.cells #[a, b, c] T (0, 0))) : w.cell? ⟨g, 0, none⟩ = some a ∧ w.cell? ⟨g, 1, none⟩ = some b ∧ w.cell? ⟨g, 2, none⟩ = some c := by
  refine ⟨?_, ?_, ?_⟩
  · rw [cell_of_row w g 0 _ _ (0, 0) h]; rfl
  · rw [cell_of_row w g 1 _ _ (0, 0) h]; rfl
  · rw [cell_of_row w g 2 _ _ (0, 0) h]; rfl
theorem els_new (w : World) {α : Type} (E : Enc α) (l : List α) (T : TypeId) : Els E (w.alloc (.cells (ev E l).toArray T)) (w.alloc (.cells (ev E l).toArray T)).heap.size (some ⟨w.heap.size, 0, none⟩) l := fun hn => by
  obtain ⟨ad, e, hc⟩ := reads_new w (ev E l).toArray T (0, 0) (by
    have := E.pos
    show 0 < (ev E l).length
    rw [ev_length]
    exact Nat.mul_pos hn this)
  injection e with e
  subst e
  exact ⟨_, rfl, by rw [World.size_alloc]; exact Nat.lt_succ_self _, hc⟩
set_option maxHeartbeats 4000000 in
set_option maxRecDepth 100000 in
theorem linked_any (c : Crd) (h0 : -9223372036854775808 ≤ c.d) (h1 : c.d < 9223372036854775808) (p : PT) (w : World) (hp : PIn w w.heap.size p) :
    Calls Tryd.prog 61 #[.agg c.cells.toArray, .agg p.cells.toArray] w fun e w' => e = .returned (.bool (dc (LinkP c p))) ∧ Below w.heap.size w w' := by
  obtain ⟨cd, cq, nm, kd, wh, ao, an, bo, bn⟩ := c
  obtain ⟨o, n, x, d, q, A, cp, ps⟩ := p
  simp only at h0 h1
  obtain ⟨g1, g2, g3, g4⟩ := hp.open'
  obtain ⟨w1, hw1⟩ : ∃ w1, w1 = (w.alloc (.cells (Crd.cells ⟨cd, cq, nm, kd, wh, ao, an, bo, bn⟩).toArray 38)).alloc (.cells (PT.mk o n x d q A cp ps).cells.toArray 29) := ⟨_, rfl⟩
  have HQ1 : Hid (Below w.heap.size w w1) := hid (by rw [hw1]; exact (below_cr w _).alloc (by rw [World.size_alloc]; exact Nat.le_succ _) _)
  have HCA : Hid (CrAt w1 w.heap.size ⟨cd, cq, nm, kd, wh, ao, an, bo, bn⟩) := hid (by rw [hw1]; exact (CrAt.new w _).kept (below_pr _ _))
  have HPA : Hid (PrAt w1 (w.heap.size + 1) (.mk o n x d q A cp ps)) := hid (by rw [hw1]; have := PrAt.new (w.alloc (.cells (Crd.cells ⟨cd, cq, nm, kd, wh, ao, an, bo, bn⟩).toArray 38)) (.mk o n x d q A cp ps); rwa [World.size_alloc] at this)
  have HEL := hid (fun W (hW : Below w1.heap.size w1 W) => (g3.below (HQ1.out.trans (hW.mono HQ1.out.size))).more (Nat.le_trans HQ1.out.size hW.size))
  have HDO := hid (fun W => domain_any cd h0 h1 W)
  obtain ⟨D, hD⟩ : ∃ D : ByteArray, domB cd = D := ⟨_, rfl⟩
  have hD2 : (⟨(domL cd).toArray⟩ : ByteArray) = D := hD
  rw [hD2] at HDO
  obtain ⟨Z, hZ⟩ : ∃ Z, dc (LinkP ⟨cd, cq, nm, kd, wh, ao, an, bo, bn⟩ (.mk o n x d q A cp ps)) = Z := ⟨_, rfl⟩
  rw [hZ]
  have HK := hid (fun W (hW : Below w1.heap.size w1 W) => (⟨(HCA.out.kept hW).all, (HPA.out.kept hW).all⟩ : _ ∧ _))
  obtain ⟨np, hnp⟩ : ∃ np, ps.length = np := ⟨_, rfl⟩
  have HNP := hid hnp
  have hnp63 : np ≤ 9223372036854775807 := by omega
  rw [hnp] at HK
  obtain ⟨⟨c0, c1, c2, c3, c4, c5, c6, c7, c8⟩, k0, k1, k2, k3, k4, k5⟩ := HK.out _ (Below.refl _ _)
  cases ps with
  | nil =>
    have HF : Hid (Z = false) := hid (by rw [← hZ]; exact dc_false linkP_nil)
    simp only [List.length_nil] at hnp
    subst hnp
    unfold PT.cells Crd.cells at hw1 ⊢
    simp only [List.length_nil] at hw1 ⊢
    clear hp g1 g2 g3 g4 hD hD2 hZ
    go_enter Tryd.func61, Tryd.ntmps61
    go_wp2_with fail
    go_ret
    exact ⟨by rw [HF.out]; rfl, by rw [← hw1]; exact HQ1.out⟩
  | cons a ps =>
    have HZI : Hid (Z = true ↔ isD a.x ∧ (a :: ps).map PT.pr = [((D, an), a.x), ((a.x, bn), x)]) := hid (by
      rw [← hZ, dc_iff, linkP_iff, ← hD]
      rfl)
    obtain ⟨o2, n2, y, d2, q2, A2, c2', ps2⟩ := a
    have HZI := hid (show Z = true ↔ isD y ∧ (PT.mk o2 n2 y d2 q2 A2 c2' ps2 :: ps).map PT.pr = [((D, an), y), ((y, bn), x)] from HZI.out)
    obtain ⟨ad, aj, rfl, hab, ea, hbj, a0, a1, a2, a3, a4, a5⟩ := PIn.get (HEL.out _ (Below.refl _ _)) (j := 0) rfl
    have ea : ad = aj := by rw [← ea]; exact (add_zero ad).symm
    subst ea
    have hpos : (0 : Int) < (np : Int) := by rw [← hnp, List.length_cons]; omega
    have hne : ¬ (np : Int) = 0 := by omega
    have HNU := hid (fun W => nnum_any y W)
    obtain ⟨N, hN⟩ : ∃ N, numL y.data.toList = N := ⟨_, rfl⟩
    have HNN : Hid (isD y ↔ N ≠ 0) := hid (by unfold isD; rw [hN])
    rw [hN] at HNU
    have HPV := hid (fun (B : Option Addr) (W : World) (hW : Below w1.heap.size w1 W) (hB : Els encP W W.heap.size B [((D, an), y), ((y, bn), x)]) => prove_any (PT.mk o2 n2 y d2 q2 A2 c2' ps2 :: ps) [((D, an), y), ((y, bn), x)] (some ad) B np 2 cp 2 hnp rfl hnp63 W (HEL.out W hW) hB)
    unfold PT.cells Crd.cells at hw1 ⊢
    simp only [hnp] at hw1 ⊢
    obtain ⟨T, hT⟩ : ∃ T, dc ((PT.mk o2 n2 y d2 q2 A2 c2' ps2 :: ps).map PT.pr = [((D, an), y), ((y, bn), x)]) = T := ⟨_, rfl⟩
    have HTI : Hid (T = true ↔ (PT.mk o2 n2 y d2 q2 A2 c2' ps2 :: ps).map PT.pr = [((D, an), y), ((y, bn), x)]) := hid (by rw [← hT, dc_iff])
    rw [hT] at HPV
    rw [hw1] at a0 a1 a2 a3 a4 a5
    clear hp g1 g2 g3 g4 hD hD2 hZ hab hbj hnp hN hT
    go_enter Tryd.func61, Tryd.ntmps61
    go_wp2_with fail
    rw [← hw1]
    clear hw1 a0 a1 a2 a3 a4 a5
    have HDR := hid (Below.refl w1.heap.size w1).drew
    have HDA := hid ((Below.refl w1.heap.size w1).alloc (Nat.le_refl _) (.cells #[.string ⟨#[]⟩, .string ⟨#[]⟩, .string ⟨#[]⟩] 73)).drew
    have HS0 := hid (fun W (hW : Below w1.heap.size w1 W) => (⟨(HK.out W hW).1.1, (HK.out W hW).1.2.2.2.2.2.2.1⟩ : W.cell? ⟨w.heap.size, 0, none⟩ = some (.int .i64 cd) ∧ W.cell? ⟨w.heap.size, 6, none⟩ = some (.string an)))
    clear c0 c1 c2 c3 c4 c5 c6 c7 c8 k0 k1 k2 k3 k4 k5
    go_region_held3 (fun w' => w'.cell? ⟨w.heap.size, 0, none⟩ = some (.int .i64 cd) ∧ w'.cell? ⟨w.heap.size, 6, none⟩ = some (.string an))
      (first | exact HS0.out _ HDR.out | exact HS0.out _ HDA.out | exact HS0.out _ B5.out | exact HS0.out _ (B5.out.alloc B5.out.size _) | exact HS0.out _ ((B5.out.alloc B5.out.size _).setCell B5.out.size _) | exact HS0.out _ (((B5.out.setCell (Nat.le_refl _) _).setCell (Nat.le_refl _) _).setCell (Nat.le_refl _) _))
      ((first | (go_at_call 72; (refine (HDO.out _).mono ?_); rintro er w5 ⟨rfl, bb⟩; (first | (have zz := zrow_cells (zrow w1 bb)) | skip); have B5 : Hid (Below w1.heap.size w1 w5) := (hid (by first | exact (kept_trans HDR.out HDR.out.size bb) | exact (kept_trans HDA.out HDA.out.size bb))))))
    all_goals
      first
        | (obtain ⟨w6, hw6⟩ : ∃ w6, w6 = w5.alloc (.cells #[.string D, .string an, .string y] 73) := ⟨_, rfl⟩
           have HR6 : Hid (w6.heap[w5.heap.size]? = some (.cells #[.string D, .string an, .string y] 73 (0, 0))) := hid (by rw [hw6]; exact heap_alloc_new w5 _)
           have HB6 : Hid (Below w1.heap.size w1 w6) := hid (by rw [hw6]; exact B5.out.alloc B5.out.size _)
           rw [← hw6]
           generalize w5.heap.size = g6 at HR6 ⊢)
        | (obtain ⟨w6, hw6⟩ : ∃ w6, w6 = (((w5.setCell ⟨w1.heap.size, 0, none⟩ (.string D)).setCell ⟨w1.heap.size, 1, none⟩ (.string an)).setCell ⟨w1.heap.size, 2, none⟩ (.string y)) := ⟨_, rfl⟩
           have HR6 : Hid (w6.heap[w1.heap.size]? = some (.cells #[.string D, .string an, .string y] 73 (0, 0))) := hid (by rw [hw6]; exact set3 (zrow w1 bb))
           have HB6 : Hid (Below w1.heap.size w1 w6) := hid (by rw [hw6]; exact ((B5.out.setCell (Nat.le_refl _) _).setCell (Nat.le_refl _) _).setCell (Nat.le_refl _) _)
           rw [← hw6]
           clear zz
           generalize w1.heap.size = g6 at HR6 ⊢)
      clear hw6 bb B5
      have H6 := hid (fun W (hW : Below w6.heap.size w6 W) => cells3 ((hW.block _ (Array.getElem?_eq_some_iff.1 HR6.out).1).trans HR6.out))
      obtain ⟨⟨c0, c1, c2, c3, c4, c5, c6, c7, c8⟩, k0, k1, k2, k3, k4, k5⟩ := HK.out _ HB6.out
      obtain ⟨f0, f1, f2⟩ := H6.out _ (Below.refl _ _)
      obtain ⟨w7, hw7⟩ : ∃ w7, w7 = w6.alloc (.cells #[.string y, .string bn, .string x] 73) := ⟨_, rfl⟩
      have HB7 : Hid (Below w6.heap.size w6 w7) := hid (by rw [hw7]; exact (Below.refl _ _).alloc (Nat.le_refl _) _)
      have HR7 : Hid (w7.heap[w6.heap.size]? = some (.cells #[.string y, .string bn, .string x] 73 (0, 0))) := hid (by rw [hw7]; exact heap_alloc_new w6 _)
      go_wp2_with fail
      rw [← hw7]
      clear hw7 c0 c1 c2 c3 c4 c5 c6 c7 c8 k0 k1 k2 k3 k4 k5 f0 f1 f2
      refine (HNU.out _).mono ?_
      rintro er w8 ⟨rfl, hb8⟩
      have HB8 := hid (HB7.out.trans (hb8.mono HB7.out.size))
      have HB18 := hid (HB6.out.trans (HB8.out.mono HB6.out.size))
      have HR8 := hid (cells3 ((hb8.block _ (Array.getElem?_eq_some_iff.1 HR7.out).1).trans HR7.out))
      obtain ⟨⟨c0, c1, c2, c3, c4, c5, c6, c7, c8⟩, k0, k1, k2, k3, k4, k5⟩ := HK.out _ HB18.out
      obtain ⟨f0, f1, f2⟩ := H6.out _ HB8.out
      obtain ⟨e0, e1, e2⟩ := HR8.out
      clear hb8
      by_cases hN0 : N = 0
      · subst hN0
        have HF : Hid (Z = false) := hid (Bool.eq_false_iff.2 fun e => absurd rfl (HNN.out.1 (HZI.out.1 e).1))
        clear HZI HNN
        go_wp2_with fail
        go_ret
        exact ⟨by rw [HF.out]; rfl, HQ1.out.trans (HB18.out.mono HQ1.out.size)⟩
      · have hNi : ¬ (N : Int) = 0 := by omega
        have hNb : ((N : Int) != 0) = true := bne_iff_ne.2 hNi
        have HF : Hid (Z = T) := hid (Bool.eq_iff_iff.2 (by rw [HZI.out, HTI.out]; exact ⟨fun h => h.2, fun h => ⟨HNN.out.2 hN0, h⟩⟩))
        obtain ⟨w9, hw9⟩ : ∃ w9, w9 = w8.alloc (.cells (ev encP [((D, an), y), ((y, bn), x)]).toArray 73) := ⟨_, rfl⟩
        have HB9 : Hid (Below w1.heap.size w1 w9) := hid (by rw [hw9]; exact HB18.out.alloc HB18.out.size _)
        have HPC := hid (HPV.out (some ⟨w8.heap.size, 0, none⟩) w9 HB9.out (by rw [hw9]; exact els_new w8 encP _ _))
        have hw9' : w9 = w8.alloc (.cells #[.string D, .string an, .string y, .string y, .string bn, .string x] 73) := hw9
        clear hN0 HZI HNN HTI hw9
        go_wp2_with fail
        rw [← hw9']
        refine HPC.out.mono ?_
        rintro er w10 ⟨rfl, hb10⟩
        cases T <;>
        · go_wp2_with fail
          go_ret
          exact ⟨by rw [HF.out]; rfl, HQ1.out.trans ((HB9.out.trans (hb10.mono HB9.out.size)).mono HQ1.out.size)⟩
end Go.Proofs.YtfbapbpggicfbaaDoor.Sh
