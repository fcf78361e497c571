/-
  The search's proof, by contract.
-/
import Derived.Test.YtoajckhnneagnaaDoorJd36
import Derived.Test.YtoajckhnneagnaaDoorJd37
import Derived.Test.YtoajckhnneagnaaDoorJd23
import Derived.Test.YtoajckhnneagnaaDoorJd38
import Derived.Deep.LoopGhost
set_option linter.unusedVariables false
set_option linter.unusedSimpArgs false
namespace Go.Proofs.YtoajckhnneagnaaDoor.Sh
open Go Go.RowKit
open Go.Maps (Keyed)

set_option linter.unusedVariables false
set_option linter.unusedSimpArgs false
def encA : Enc Sl := ⟨1, fun s => [.pointer (some ⟨s.1, s.2, none⟩)], by omega, fun _ => rfl, fun s u hu => by simp only [List.mem_cons, List.not_mem_nil, or_false] at hu; subst hu; rfl⟩
theorem slA : SlN Tryd.prog 88 87 1 8 := by
  obtain ⟨i0, hi0, hz0, hz1, hz2⟩ := info_parts (P := Tryd.prog) (e := 87) (z := .pointer none) (size := 1) (bytes := 8) (by kernel_rfl)
  exact ⟨Tryd.underlying88, ⟨i0, _, hi0, hz0, hz1, hz2, rfl⟩, by omega⟩
theorem slT : SlN Tryd.prog 28 30 6 88 := by
  obtain ⟨i0, hi0, hz0, hz1, hz2⟩ := info_parts (P := Tryd.prog) (e := 30) (z := .agg #[.string E0, .string E0, .string E0, .int .i64 0, .int .i64 0, .slice none 0 0]) (size := 6) (bytes := 88) (by kernel_rfl)
  exact ⟨Tryd.underlying28, ⟨i0, _, hi0, hz0, hz1, hz2, rfl⟩, by omega⟩
theorem results_cellP {P : Program} {fn : Func} {p : Tmp} {ty : TypeId} (h : fn.results = #[.cell p ty]) (tmps : Array Value) (w : World) (b o : Nat) (cs : List Value) (d : TypeDesc)
    (hp : tmps.getD p undef = .pointer (some ⟨b, o, none⟩)) (hc : w.rangeAt b o cs) (hu : P.underlying ty = some d) (hd : d.isRow = true) (hi : (P.info? ty).map (·.size) = some cs.length) :
    (results fn tmps).run P w = .ok (.agg cs.toArray) w := by
  have hp' : tmps[p]?.getD undef = .pointer (some ⟨b, o, none⟩) := by simpa using hp
  simp [results, h, hp', asAddr, run_loadVar_mid w b o ty cs d hc hu hd hi]
theorem info_proof : (Tryd.prog.info? 30).map (·.size) = some 6 := by kernel_rfl
theorem set_six {w : World} {g : Nat} {a b c d e f a' b' c' d' e' f' : Value} {t : TypeId} (h : w.heap[g]? = some (.cells #[a, b, c, d, e, f] t (0, 0))) :
    ((((((w.setCell ⟨g, 0, none⟩ a').setCell ⟨g, 1, none⟩ b').setCell ⟨g, 2, none⟩ c').setCell ⟨g, 3, none⟩ d').setCell ⟨g, 4, none⟩ e').setCell ⟨g, 5, none⟩ f').heap[g]? = some (.cells #[a', b', c', d', e', f'] t (0, 0)) := by
  rw [heap_setCell_same _ g 5 _ _ f' (heap_setCell_same _ g 4 _ _ e' (heap_setCell_same _ g 3 _ _ d' (heap_setCell_same _ g 2 _ _ c' (heap_setCell_same _ g 1 _ _ b' (heap_setCell_same w g 0 _ _ a' h)))))]; rfl
theorem MidP.base {gp : Nat} {w w0 w2 wr : World} {g o : Nat} {cur0 : Array Value} {T0 : TypeId} {D Q : Int} {vR : Value} (h : MidP gp w w2 wr g o cur0 T0 D Q vR) (hB : Below w0.heap.size w0 w2) : MidP gp w w0 wr g o cur0 T0 D Q vR :=
  ⟨h.bel, Nat.le_trans hB.size h.size, fun b hb hne => (h.oth b (Nat.lt_of_lt_of_le hb hB.size) hne).trans (hB.block b hb), h.blk⟩
theorem add_row (g n : Nat) : (⟨g, 0, none⟩ : Addr).add n = ⟨g, n, none⟩ := by
  rcases Nat.eq_zero_or_pos n with e | e
  · subst e; rw [add_zero]
  · rw [add_pos _ n e]; simp
theorem six_below {w : World} {B gr k6 : Nat} (hB : B ≤ gr) (a b c d e f : Value) : Below B w ((((((w.setCell ⟨gr, k6, none⟩ a).setCell ⟨gr, k6 + 1, none⟩ b).setCell ⟨gr, k6 + 2, none⟩ c).setCell ⟨gr, k6 + 3, none⟩ d).setCell ⟨gr, k6 + 4, none⟩ e).setCell ⟨gr, k6 + 5, none⟩ f) :=
  ((((((Below.refl B w).setCell (p := ⟨gr, k6, none⟩) hB a).setCell (p := ⟨gr, k6 + 1, none⟩) hB b).setCell (p := ⟨gr, k6 + 2, none⟩) hB c).setCell (p := ⟨gr, k6 + 3, none⟩) hB d).setCell (p := ⟨gr, k6 + 4, none⟩) hB e).setCell (p := ⟨gr, k6 + 5, none⟩) hB f
theorem own_some {w : World} {B : Nat} {T : TypeId} {A : Option Addr} {c n : Nat} {l : List PT} (h : Own (E := encT) w B T (.slice A n c) l) (hl : 0 < l.length) : ∃ gr, A = some ⟨gr, 0, none⟩ ∧ B ≤ gr ∧ gr < w.heap.size := by
  obtain ⟨-, hr⟩ := h
  rcases hr with ⟨-, h0⟩ | ⟨gr, cp, cur, e1, hB, hh, -⟩
  · omega
  · simp only [Value.slice.injEq] at e1
    exact ⟨gr, e1.1, hB, (Array.getElem?_eq_some_iff.1 hh).1⟩
theorem PSt.start {cs : List Crd} {re : WhyM} {B : Nat} {p : Pr} {g0 : Nat} {w : World} {T : TypeId} (hB : B ≤ g0) (hre : re p ≠ none) (h : w.heap[g0]? = some (.cells (leafT p).cells.toArray T (0, 0))) : PSt cs re B (rd cs p) p g0 w (fun b => b = g0) [((g0, 0), p)] := by
  refine ⟨fun b e => by subst e; exact ⟨hB, (Array.getElem?_eq_some_iff.1 h).1⟩, fun s hs => ?_, by simp, fun s hs => by rw [List.mem_singleton] at hs; subst hs; exact hre, fun k s hk => ?_, fun W f hW hag hf => ?_⟩
  · rw [List.mem_singleton] at hs
    subst hs
    exact ⟨rfl, rfl, _, T, h, by rw [leaf_cells]; simp, fun j u hu => by show (leafT p).cells.toArray[0 + j]? = _; rw [Nat.zero_add, List.getElem?_toArray]; exact hu⟩
  · cases k with
    | zero => simp at hk; subst hk; simp
    | succ k => simp at hk
  · exact ⟨_, hf ((g0, 0), p) (by simp)⟩
theorem PSt.done {cs : List Crd} {re : WhyM} {B R : Nat} {p : Pr} {g0 : Nat} {w : World} {Tr : Nat → Prop} (h : PSt cs re B R p g0 w Tr []) : ∃ T, TrA w (g0, 0) T ∧ Can cs T ∧ T.pr = p :=
  h.fin w (fun _ => leafT p) (Nat.le_refl _) (fun _ _ _ _ => rfl) (fun s hs => by simp at hs)
theorem PSt.doneW {cs : List Crd} {re : WhyM} {B R : Nat} {p : Pr} {g0 : Nat} {w W : World} {Tr : Nat → Prop} (h : PSt cs re B R p g0 w Tr []) (hW : w.heap.size ≤ W.heap.size) (hag : ∀ b off, Tr b → W.cell? ⟨b, off, none⟩ = w.cell? ⟨b, off, none⟩) : ∃ T, TrA W (g0, 0) T ∧ Can cs T ∧ T.pr = p :=
  h.fin W (fun _ => leafT p) hW (fun b off hb _ => hag b off hb) (fun s hs => by simp at hs)
set_option maxHeartbeats 32000000 in
set_option maxRecDepth 100000 in
theorem proof_any {L : Ly} {vF vL : Value} {col : Col} {s : Se} (hS : Sch L s) (p : Pr) (w : World) (re : Why) (nr : Nat) (h : Sea L w vF vL col ⟨s, re, nr, []⟩) (hr : ReI L.cs L.pe re nr) (hsh : Shut re) (hp : re p ≠ none) :
    Calls Tryd.prog 29 #[.pointer (some ⟨L.sb, 0, none⟩), .agg #[.string p.1.1, .string p.1.2, .string p.2]] w fun e w' => ∃ V : Array Value, e = .returned (.agg V) ∧ (∀ W : World, w'.heap.size ≤ W.heap.size → (∀ b, w.heap.size ≤ b → b < w'.heap.size → W.heap[b]? = w'.heap[b]?) → ∃ T : PT, V = T.cells.toArray ∧ PIn W W.heap.size T ∧ Can L.cs T ∧ T.pr = p) ∧ Below w.heap.size w w' := by
  have HKN := hid (fun q (hq : re q ≠ none) => show okP q ∧ ∃ c ps, fs L.cs q = some (c, ps) ∧ re q = some ((c.d, c.q), ps) ∧ (∀ r ∈ ps, re r ≠ none) ∧ mayC c = true by
    cases e : re q with
    | none => exact absurd e hq
    | some xr =>
      obtain ⟨i, ps⟩ := xr
      obtain ⟨c, h1, h2⟩ := hr.ok q i ps e
      refine ⟨h.sz.kn q (by rw [show (⟨s, re, nr, []⟩ : Sx).s.rn q = rd L.cs q from hS.rn q (hr.pe q hq)]; exact fs_rd h1), c, ps, h1, by rw [h2], fun r hr' => hsh q i ps e r hr', hS.may c (fs_mem h1)⟩)
  have HR0 : Hid (rd L.cs p ≤ 850) := hid (hS.le (hr.pe p hp))
  obtain ⟨⟨o0, n0⟩, who0⟩ := p
  obtain ⟨sb, hsb⟩ : ∃ sb, L.sb = sb := ⟨_, rfl⟩
  obtain ⟨b7, hb7⟩ : ∃ b, L.b7 = b := ⟨_, rfl⟩
  obtain ⟨w1, hw1⟩ : ∃ w1, w1 = (((w.alloc (.cells #[.string o0, .string n0, .string who0] 58)).alloc (.cells #[.string ⟨#[]⟩, .string ⟨#[]⟩, .string ⟨#[]⟩, .int .i64 0, .int .i64 0, .slice none 0 0] 30)).alloc (.cells #[.string o0, .string n0, .string who0, .int .i64 0, .int .i64 0, .slice none 0 0] 30)).alloc (.cells #[.pointer (some ⟨w.heap.size + 1 + 1, 0, none⟩)] 87) := ⟨_, rfl⟩
  obtain ⟨gp, hgp⟩ : ∃ g, w.heap.size = g := ⟨_, rfl⟩
  have q1 : Below w.heap.size w w1 := by rw [hw1]; exact ((((Below.refl _ _).alloc (Nat.le_refl _) _).alloc (by simp) _).alloc (by simp; omega) _).alloc (by simp; omega) _
  have HS0 := hid h
  have HQ1 := hid q1
  have hg0 : w1.heap[gp + 2]? = some (.cells (leafT ((o0, n0), who0)).cells.toArray 30 (0, 0)) := by rw [hw1]; exact keep_alloc (new_at (by simp [hgp]))
  have hgr : w1.heap[gp + 1]? = some (.cells #[.string ⟨#[]⟩, .string ⟨#[]⟩, .string ⟨#[]⟩, .int .i64 0, .int .i64 0, .slice none 0 0] 30 (0, 0)) := by rw [hw1]; exact keep_alloc (keep_alloc (new_at (by simp [hgp])))
  have hgt : w1.heap[gp + 3]? = some (.cells #[.pointer (some ⟨gp + 2, 0, none⟩)] 87 (0, 0)) := by rw [hw1, show w.heap.size + 1 + 1 = gp + 2 by omega]; exact new_at (by simp [hgp])
  have HOW : Hid (Own (E := encA) w1 gp 87 (.slice (some ⟨gp + 3, 0, none⟩) 1 1) [(gp + 2, 0)]) := hid ⟨rfl, .inr ⟨gp + 3, 1, _, rfl, by omega, hgt, Nat.le_refl _, by unfold maxLen; omega, rfl, rfl⟩⟩
  have HPS : Hid (PSt L.cs re gp (rd L.cs ((o0, n0), who0)) ((o0, n0), who0) (gp + 2) w1 (fun b => b = gp + 2) [((gp + 2, 0), ((o0, n0), who0))]) := hid (PSt.start (by omega) hp hg0)
  have HGR := hid hgr
  have HSB := hid hsb
  have HB7 := hid hb7
  have HGP := hid hgp
  simp only [hsb]
  clear h hS hr hsh hp q1 hsb hb7 hg0 hgr hgt hgp
  go_enter Tryd.func29, Tryd.ntmps29
  go_wp2_with fail
  rw [← hw1]
  clear hw1
  rw [HGP.out]
  rw [show gp + 1 + 1 + 1 = gp + 3 from rfl, show gp + 1 + 1 = gp + 2 from rfl]
  go_loopg [6] (wsm L.cs [((gp + 2, 0), ((o0, n0), who0))]) (fun gk vT wr => ∃ (pend : List (Sl × Pr)) (Tr : Nat → Prop), Hid (Own (E := encA) wr gp 87 vT (pend.map (·.1))) ∧ Hid (PSt L.cs re gp (rd L.cs ((o0, n0), who0)) ((o0, n0), who0) (gp + 2) wr Tr pend) ∧ Hid (∀ b, Tr b → vT.ownBlock ≠ some b ∧ b ≠ gp + 1) ∧ Hid (vT.ownBlock ≠ some (gp + 1)) ∧
    Hid (wr.heap[gp + 1]? = some (.cells #[.string ⟨#[]⟩, .string ⟨#[]⟩, .string ⟨#[]⟩, .int .i64 0, .int .i64 0, .slice none 0 0] 30 (0, 0))) ∧ Hid (Below gp w wr) ∧ Hid (wsm L.cs pend ≤ gk))
  case atStart => exact ⟨[((gp + 2, 0), ((o0, n0), who0))], _, HOW, HPS, hid (fun b e => by subst e; exact ⟨by simp [Value.ownBlock], by omega⟩), hid (by simp [Value.ownBlock]), HGR, hid (by rw [← HGP.out]; exact HQ1.out), hid (Nat.le_refl _)⟩
  case round =>
    obtain ⟨pend, Tr, HO, HP, HTB, HVR, HRZ, HBW, HWS⟩ := hrel
    obtain ⟨At, ct, rfl, hn1, hn2, -⟩ := HO.out.els
    obtain ⟨n, hn⟩ : ∃ n, (pend.map (·.1)).length = n := ⟨_, rfl⟩
    rw [hn] at HO HTB HVR hn1 ⊢
    by_cases h0 : n = 0
    · have hpn : pend = [] := List.eq_nil_of_length_eq_zero (by rw [List.length_map] at hn; omega)
      subst hpn
      obtain ⟨T, ⟨hT1, hT2⟩, hT3, hT4⟩ := HP.out.done
      obtain ⟨To, Tn, Tx, Td, Tq, TA, Tc, Tps⟩ := T
      have t0 := hT1 0 _ rfl
      have t1 := hT1 1 _ rfl
      have t2 := hT1 2 _ rfl
      have t3 := hT1 3 _ rfl
      have t4 := hT1 4 _ rfl
      have t5 := hT1 5 _ rfl
      simp only [Nat.zero_add] at t0 t1 t2 t3 t4 t5
      have z0 : wr.cell? ⟨gp + 1, 0, none⟩ = some (.string ⟨#[]⟩) := by rw [cell_of_row wr _ 0 _ _ (0, 0) HRZ.out]; rfl
      have z1 : wr.cell? ⟨gp + 1, 1, none⟩ = some (.string ⟨#[]⟩) := by rw [cell_of_row wr _ 1 _ _ (0, 0) HRZ.out]; rfl
      have z2 : wr.cell? ⟨gp + 1, 2, none⟩ = some (.string ⟨#[]⟩) := by rw [cell_of_row wr _ 2 _ _ (0, 0) HRZ.out]; rfl
      have z3 : wr.cell? ⟨gp + 1, 3, none⟩ = some (.int .i64 0) := by rw [cell_of_row wr _ 3 _ _ (0, 0) HRZ.out]; rfl
      have z4 : wr.cell? ⟨gp + 1, 4, none⟩ = some (.int .i64 0) := by rw [cell_of_row wr _ 4 _ _ (0, 0) HRZ.out]; rfl
      have z5 : wr.cell? ⟨gp + 1, 5, none⟩ = some (.slice none 0 0) := by rw [cell_of_row wr _ 5 _ _ (0, 0) HRZ.out]; rfl
      have y0 := frozen_of_row wr (gp + 1) 0 _ _ HRZ.out
      have y1 := frozen_of_row wr (gp + 1) 1 _ _ HRZ.out
      have y2 := frozen_of_row wr (gp + 1) 2 _ _ HRZ.out
      have y3 := frozen_of_row wr (gp + 1) 3 _ _ HRZ.out
      have y4 := frozen_of_row wr (gp + 1) 4 _ _ HRZ.out
      have y5 := frozen_of_row wr (gp + 1) 5 _ _ HRZ.out
      subst h0
      obtain ⟨w9, hw9⟩ : ∃ w9, w9 = (((((wr.setCell ⟨gp + 1, 0, none⟩ (.string To)).setCell ⟨gp + 1, 1, none⟩ (.string Tn)).setCell ⟨gp + 1, 2, none⟩ (.string Tx)).setCell ⟨gp + 1, 3, none⟩ (.int .i64 Td)).setCell ⟨gp + 1, 4, none⟩ (.int .i64 Tq)).setCell ⟨gp + 1, 5, none⟩ (.slice TA Tps.length Tc) := ⟨_, rfl⟩
      have HR9 : Hid (w9.heap[gp + 1]? = some (.cells #[.string To, .string Tn, .string Tx, .int .i64 Td, .int .i64 Tq, .slice TA Tps.length Tc] 30 (0, 0))) := hid (by rw [hw9]; exact set_six HRZ.out)
      have hfar : ∀ b, b ≠ gp + 1 → w9.heap[b]? = wr.heap[b]? := fun b hb => by
        rw [hw9]
        rw [Below.heap_setCell _ _ _ _ hb, Below.heap_setCell _ _ _ _ hb, Below.heap_setCell _ _ _ _ hb, Below.heap_setCell _ _ _ _ hb, Below.heap_setCell _ _ _ _ hb, Below.heap_setCell _ _ _ _ hb]
      have hsz9 : w9.heap.size = wr.heap.size := by rw [hw9]; simp
      have HB9 : Hid (Below gp w w9) := hid (by rw [hw9]; exact (((((HBW.out.setCell (by simp) _).setCell (by simp) _).setCell (by simp) _).setCell (by simp) _).setCell (by simp) _).setCell (by simp) _)
      have HFIN : Hid (∀ W : World, w9.heap.size ≤ W.heap.size → (∀ b, gp ≤ b → b < w9.heap.size → W.heap[b]? = w9.heap[b]?) → ∃ T : PT, (#[.string To, .string Tn, .string Tx, .int .i64 Td, .int .i64 Tq, .slice TA Tps.length Tc] : Array Value) = T.cells.toArray ∧ PIn W W.heap.size T ∧ Can L.cs T ∧ T.pr = ((o0, n0), who0)) := hid (by
        intro W hW hag
        have htr : ∀ b, Tr b → W.heap[b]? = wr.heap[b]? := fun b hb => by
          have h1 := HP.out.tr b hb
          rw [hag b h1.1 (by rw [hsz9]; exact h1.2), hfar b (HTB.out b hb).2]
        have hg2 : W.heap[gp + 2]? = wr.heap[gp + 2]? := by
          have h1 : gp + 2 < wr.heap.size := by
            rcases Nat.lt_or_ge (gp + 2) wr.heap.size with h | h
            · exact h
            · have h2 : wr.heap[gp + 2]? = none := Array.getElem?_eq_none_iff.2 h
              have h3 := hT1 0 _ rfl
              unfold World.cell? at h3
              simp only [h2] at h3
              cases h3
          rw [hag (gp + 2) (by omega) (by rw [hsz9]; exact h1), hfar (gp + 2) (by omega)]
        obtain ⟨T', ⟨g1, g2⟩, g3, g4⟩ := HP.out.doneW (W := W) (by rw [← hsz9]; exact hW) fun b off hb => by
          unfold World.cell?
          rw [htr b hb]
        refine ⟨T', ?_, g2, g3, g4⟩
        obtain ⟨Ro, Rn, Rx, Rd, Rq, RA, Rc, Rps⟩ := T'
        have e : ∀ j u v, (PT.mk To Tn Tx Td Tq TA Tc Tps).cells[j]? = some u → (PT.mk Ro Rn Rx Rd Rq RA Rc Rps).cells[j]? = some v → u = v := fun j u v h1 h2 => by
          have k1 := hT1 j u h1
          have k2 := g1 j v h2
          have k3 : W.cell? ⟨gp + 2, 0 + j, none⟩ = wr.cell? ⟨gp + 2, 0 + j, none⟩ := by unfold World.cell?; rw [hg2]
          rw [k3, k1] at k2
          cases k2; rfl
        have e0 := e 0 _ _ rfl rfl
        have e1 := e 1 _ _ rfl rfl
        have e2 := e 2 _ _ rfl rfl
        have e3 := e 3 _ _ rfl rfl
        have e4 := e 4 _ _ rfl rfl
        have e5 := e 5 _ _ rfl rfl
        show (#[_, _, _, _, _, _] : Array Value) = [_, _, _, _, _, _].toArray
        rw [e0, e1, e2, e3, e4, e5])
      clear hT1 hT2 hT3 hT4 hfar hsz9
      go_wp2_with fail
      rw [← hw9]
      refine bodyPost_ret (results_cellP (h := Tryd.results29) _ _ (gp + 1) 0 [.string To, .string Tn, .string Tx, .int .i64 Td, .int .i64 Tq, .slice TA Tps.length Tc] _ rfl (range_row HR9.out) Tryd.underlying30 rfl info_proof) rfl ?_
      exact ⟨_, rfl, by rw [HGP.out]; exact HFIN.out, by rw [HGP.out]; exact HB9.out⟩
    · obtain ⟨rest, ⟨⟨g, o⟩, q⟩, hpd⟩ : ∃ rest s, pend = rest ++ [s] := by
        rcases List.eq_nil_or_concat pend with h1 | ⟨r, x, h1⟩
        · rw [h1] at hn; simp at hn; omega
        · exact ⟨r, x, by rw [h1, List.concat_eq_append]⟩
      subst hpd
      have hmem : (((g, o), q) : Sl × Pr) ∈ rest ++ [((g, o), q)] := by simp
      have hrl : rest.length + 1 = n := by rw [← hn]; simp
      obtain ⟨hTg, ho6, cur0, T0, hc0, hsz0, hlf⟩ := HP.out.at' _ hmem
      simp only at hTg ho6 hc0 hsz0 hlf
      have hreq := HP.out.re _ hmem
      obtain ⟨hokq, c, ps, hfs, hre, hrps, hmay⟩ := HKN.out q hreq
      have hn850 : n ≤ 850 := by
        have h1 := HP.out.rk rest.length ((g, o), q) (by rw [List.getElem?_append_right (Nat.le_refl _)]; simp)
        have h2 := fs_rd hfs
        have h3 := HR0.out
        simp only at h1
        omega
      have hsbw : sb < wr.heap.size ∧ sb < gp ∧ b7 < gp := by
        have h1 := HS0.out.lt
        have h2 := HS0.out.dom _ _ HS0.out.c7
        have h3 := HBW.out.size
        rw [HSB.out] at h1
        rw [HB7.out] at h2
        rw [HGP.out] at h1 h2
        have h4 := HQ1.out.size
        have h5 := (Array.getElem?_eq_some_iff.1 HRZ.out).1
        omega
      obtain ⟨Ar, cr, hEr, -, hcr1, hcr2, -, hlk⟩ := HS0.out.re.holds hokq hre
      obtain ⟨np, hnp⟩ : ∃ k, ps.length = k := ⟨_, rfl⟩
      obtain ⟨⟨oq, nq⟩, wq⟩ := q
      unfold reaV pV at hlk
      simp only at hlk
      rw [hnp, HB7.out] at hlk
      have HEl := hid (HO.out.els)
      obtain ⟨A1', c1', e1, -, -, hEl⟩ := HO.out.els
      simp only [Value.slice.injEq] at e1
      obtain ⟨rfl, -, rfl⟩ := e1
      have hq : ((rest ++ [(((g, o), ((oq, nq), wq)) : Sl × Pr)]).map (·.1))[n - 1]? = some (g, o) := by
        rw [List.map_append, List.getElem?_append_right (by rw [List.length_map]; omega), List.length_map, show n - 1 - rest.length = 0 by omega]; rfl
      obtain ⟨ad, aj, rfl, hab, ea, hbj, a0, ai⟩ := hEl.get hq
      have a0 := a0 _ rfl
      have ea : ad.add ((n - 1) * 1) = aj := ea
      rw [Nat.mul_one] at ea
      have x0 := hlf 0 _ rfl
      have x1 := hlf 1 _ rfl
      have x2 := hlf 2 _ rfl
      have x3 := hlf 3 _ rfl
      have x4 := hlf 4 _ rfl
      have x5 := hlf 5 _ rfl
      rw [Nat.add_zero] at x0
      have hgpw : gp ≤ wr.heap.size := by have := HBW.out.size; rw [HGP.out] at this; exact this
      have HKF := hid (fun W (hW : Below wr.heap.size wr W) => (⟨by have h1 := HS0.out.cell.2.2.2.2.2.2.1; rw [HSB.out, HB7.out] at h1; rw [← h1]; exact (HBW.out.trans (hW.mono hgpw)).cell hsbw.2.1, by rw [cell_of_row W g o _ _ (0, 0) ((hW.block _ (Array.getElem?_eq_some_iff.1 hc0).1).trans hc0)]; exact x0, by rw [cell_of_row W g (o + 1) _ _ (0, 0) ((hW.block _ (Array.getElem?_eq_some_iff.1 hc0).1).trans hc0)]; exact x1, by rw [cell_of_row W g (o + 2) _ _ (0, 0) ((hW.block _ (Array.getElem?_eq_some_iff.1 hc0).1).trans hc0)]; exact x2, hlk W ((hW.block _ (by have := hsbw.2.2; have := (HP.out.tr g hTg); omega)).trans (HBW.out.block _ hsbw.2.2))⟩ :
        W.cell? ⟨sb, 23, none⟩ = some (.map (some b7)) ∧ W.cell? ⟨g, o, none⟩ = some (.string oq) ∧ W.cell? ⟨g, o + 1, none⟩ = some (.string nq) ∧ W.cell? ⟨g, o + 2, none⟩ = some (.string wq) ∧ (Instr.lookup 67 (.map (some b7)) (.agg #[.string oq, .string nq, .string wq]) false).run Tryd.prog W = .ok (.agg #[.int .i64 c.d, .int .i64 c.q, .slice Ar np cr]) W))
      have i0 : (0 : Int) < (n : Int) := by omega
      have i1 : (0 : Int) ≤ (n : Int) - 1 := by omega
      have i2 : (n : Int) - 1 < (n : Int) := by omega
      have i3 : ((n : Int) - 1).toNat = n - 1 := by omega
      have i4 : (n : Int) ≤ 9223372036854775807 := by omega
      have i5 : (n : Int) - 1 ≤ (ct : Int) := by omega
      have HNN := hid hn
      have HRL := hid hrl
      have HSL : Hid (Tr g ∧ o % 6 = 0 ∧ wr.heap[g]? = some (.cells cur0 T0 (0, 0)) ∧ o + 6 ≤ cur0.size ∧ ∀ j u, (leafT ((oq, nq), wq)).cells[j]? = some u → cur0[o + j]? = some u) := hid ⟨hTg, ho6, hc0, hsz0, hlf⟩
      have HFS := hid hfs
      have HRP := hid hrps
      have HMY := hid hmay
      have HSW := hid hsbw
      have HER : Hid (Els encP w w.heap.size Ar ps ∧ ps.length ≤ cr ∧ cr ≤ 9223372036854775807) := hid ⟨hEr, hcr1, hcr2⟩
      have HNP := hid hnp
      have HEL2 := hid hEl
      have HX : Hid (cur0[o + 3]? = some (.int .i64 0) ∧ cur0[o + 4]? = some (.int .i64 0) ∧ cur0[o + 5]? = some (.slice none 0 0)) := hid ⟨x3, x4, x5⟩
      have hn3 : n ≤ ct := hn1
      clear hn hrl hTg ho6 hc0 hsz0 hlf hreq hokq hfs hre hrps hmay hsbw hEr hcr1 hcr2 hlk hnp hEl hq hab hbj ai x0 x1 x2 x3 x4 x5 hmem hn1 hn2 HEl
      obtain ⟨D, hD⟩ : ∃ D, c.d = D := ⟨_, rfl⟩
      obtain ⟨Q, hQ⟩ : ∃ Q, c.q = Q := ⟨_, rfl⟩
      have HDQ := hid (And.intro hD hQ)
      rw [hD, hQ] at HKF
      clear hD hQ
      go_upto_region 7 with fail
      go_cut [9] (fun a9 wx => ∃ gb : Nat, a9 = .pointer (some ⟨gb, 0, none⟩) ∧ Hid (wx.heap[gb]? = some (.cells #[.int .i64 D, .int .i64 Q, .slice Ar np cr] 90 (0, 0))) ∧ Hid (wr.heap.size = gb) ∧ Hid (Below wr.heap.size wr wx))
      case first =>
        go_region_held3 (fun w' => w'.cell? ⟨sb, 23, none⟩ = some (.map (some b7)) ∧ w'.cell? ⟨g, o, none⟩ = some (.string oq) ∧ w'.cell? ⟨g, o + 1, none⟩ = some (.string nq) ∧ w'.cell? ⟨g, o + 2, none⟩ = some (.string wq) ∧ (Instr.lookup 67 (.map (some b7)) (.agg #[.string oq, .string nq, .string wq]) false).run Tryd.prog w' = .ok (.agg #[.int .i64 D, .int .i64 Q, .slice Ar np cr]) w')
          (first | exact HKF.out _ (Below.refl _ _).drew | exact HKF.out _ ((Below.refl _ _).alloc (Nat.le_refl _) _).drew | exact HKF.out _ ((Below.refl _ _).alloc (Nat.le_refl _) _)) (fail)
        all_goals
          go_wp2_with fail
          go_meet
          case rel => exact ⟨_, rfl, hid (keep_drew (heap_alloc_new wr _)), hid rfl, hid (((Below.refl _ _).alloc (Nat.le_refl _) _).drew)⟩
      case rest =>
        clear a0
        obtain ⟨gb, rfl, HG2, HGB, HB2⟩ := hcut
        obtain ⟨w2, hw2⟩ : ∃ x, x = wc := ⟨_, rfl⟩
        subst hw2
        have HGS : Hid (w2.heap[g]? = some (.cells cur0 T0 (0, 0)) ∧ g < gb) := hid ⟨(HB2.out.block _ (Array.getElem?_eq_some_iff.1 HSL.out.2.2.1).1).trans HSL.out.2.2.1, by rw [← HGB.out]; exact (Array.getElem?_eq_some_iff.1 HSL.out.2.2.1).1⟩
        have c0 : w2.cell? ⟨gb, 0, none⟩ = some (.int .i64 D) := by rw [cell_of_row w2 _ 0 _ _ (0, 0) HG2.out]; rfl
        have c1 : w2.cell? ⟨gb, 1, none⟩ = some (.int .i64 Q) := by rw [cell_of_row w2 _ 1 _ _ (0, 0) HG2.out]; rfl
        have y3 : w2.cell? ⟨g, o + 3, none⟩ = some (.int .i64 0) := by rw [cell_of_row w2 _ (o + 3) _ _ (0, 0) HGS.out.1]; exact HX.out.1
        have y4 : w2.cell? ⟨g, o + 4, none⟩ = some (.int .i64 0) := by rw [cell_of_row w2 _ (o + 4) _ _ (0, 0) HGS.out.1]; exact HX.out.2.1
        have f3 : w2.frozen? ⟨g, o + 3, none⟩ = false := frozen_of_row w2 _ (o + 3) _ _ HGS.out.1
        have f4 : w2.frozen? ⟨g, o + 4, none⟩ = false := frozen_of_row w2 _ (o + 4) _ _ HGS.out.1
        go_upto_region 9 with fail
        obtain ⟨wo, hwo⟩ : ∃ x, x = wr := ⟨_, rfl⟩
        obtain ⟨gK, hgK⟩ : ∃ x, x = gk := ⟨_, rfl⟩
        subst hwo hgK
        obtain ⟨w3, hw3⟩ : ∃ w3, w3 = (w2.setCell ⟨g, o + 3, none⟩ (.int .i64 D)).setCell ⟨g, o + 4, none⟩ (.int .i64 Q) := ⟨_, rfl⟩
        rw [show o + 3 + 1 = o + 4 from rfl, ← hw3]
        have HGO : Hid (gp ≤ wo.heap.size ∧ g < wo.heap.size) := hid ⟨hgpw, by have := HGS.out.2; have := HGB.out; omega⟩
        have HM3 : Hid (MidP gp w wo w3 g o cur0 T0 D Q (.slice none 0 0)) := hid (by
          rw [hw3]
          exact (MidP.start ((HBW.out).trans (HB2.out.mono hgpw)) (HP.out.tr g HSL.out.1).1 HGS.out.1 HSL.out.2.2.2.1 HX.out.2.2).base HB2.out)
        have HG3 : Hid (w3.heap[gb]? = some (.cells #[.int .i64 D, .int .i64 Q, .slice Ar np cr] 90 (0, 0))) := hid (by
          rw [hw3]
          exact keep_set (keep_set HG2.out (by have := HGS.out.2; simp only; omega)) (by have := HGS.out.2; simp only; omega))
        clear hw3 c0 c1 y3 y4 f3 f4 ea
        have c2 : w3.cell? ⟨gb, 2, none⟩ = some (.slice Ar np cr) := by rw [cell_of_row w3 _ 2 _ _ (0, 0) HG3.out]; rfl
        have hnp2 : np ≤ 2 := by rw [← HNP.out]; exact fs_len HFS.out
        go_wp2_with fail
        clear c2
        go_loopg [54] np (fun gk iv wr => ∃ (k : Nat) (A1 : Option Addr) (c1 : Nat), iv = .int .i64 (k : Int) ∧ k + gk = np ∧ Hid (MidP gp w wo wr g o cur0 T0 D Q (.slice A1 k c1)) ∧ Hid (Own (E := encT) wr wo.heap.size 30 (.slice A1 k c1) ((ps.take k).map leafT)))
        case atStart => exact ⟨0, none, 0, rfl, by omega, HM3, hid (Own.nil _ _ _)⟩
        case round =>
          obtain ⟨k, A1, c1, rfl, hk, HMD, HO1⟩ := hrel
          by_cases hlt : k < np
          · obtain ⟨⟨⟨po, pn⟩, px⟩, hx⟩ : ∃ x, ps[k]? = some x := ⟨_, List.getElem?_eq_getElem (by rw [HNP.out]; exact hlt)⟩
            have hel : Els encP wr gp Ar ps := by have h1 := HER.out.1; rw [HGP.out] at h1; exact h1.below HMD.out.bel
            obtain ⟨ad2, aj2, rfl, hab, ea, hbj, a0, ai⟩ := hel.get hx
            have a0 := a0 _ rfl
            have a1 := ai 1 _ (by decide) rfl
            have a2 := ai 2 _ (by decide) rfl
            have ea : ad2.add (k * 3) = aj2 := ea
            have hk0 : (0 : Int) ≤ (k : Int) := Int.natCast_nonneg _
            have hk1 : (k : Int) < (np : Int) := by omega
            have HXX := hid hx
            clear hx hel hab hbj ai
            go_upto_region 12 with fail
            obtain ⟨w4, hw4⟩ : ∃ w4, w4 = wr.alloc (.cells #[.string po, .string pn, .string px] 58) := ⟨_, rfl⟩
            obtain ⟨gq, hgq⟩ : ∃ x, wr.heap.size = x := ⟨_, rfl⟩
            rw [← hw4]
            try rw [hgq]
            have hsz : wo.heap.size ≤ wr.heap.size := HMD.out.size
            have HB4 : Hid (Below wo.heap.size wr w4) := hid (by rw [hw4]; exact (Below.refl _ _).alloc hsz _)
            have HP4 : Hid (PrA w4 gq po pn px) := hid (by rw [hw4, ← hgq]; exact PrA.new wr _ _ _)
            have HM4 := hid (HMD.out.keep HGO.out.1 HGO.out.2 HB4.out)
            have HO4 : Hid (Own (E := encT) w4 wo.heap.size 30 (.slice A1 k c1) ((ps.take k).map leafT)) := hid (by rw [hw4]; exact HO1.out.alloc _)
            have HLK : Hid (((ps.take k).map leafT).length = k) := hid (by rw [List.length_map, List.length_take, HNP.out]; omega)
            have hs4 : wo.heap.size ≤ w4.heap.size := Nat.le_trans hsz HB4.out.size
            have HB45 : Hid (∀ w5, (w4.alloc (.cells #[.string ⟨#[]⟩, .string ⟨#[]⟩, .string ⟨#[]⟩, .int .i64 0, .int .i64 0, .slice none 0 0] 30)).drew.grownBy w5 (Value.slice A1 k c1).ownBlock → Below wo.heap.size w4 w5) := hid (fun w5 hg => Below.grown (((Below.refl _ _).alloc hs4 _).drew) hg (by simp; omega) (fun b e => (HO4.out.lt b e).1))
            have HBX : Hid (∀ w5, (w4.alloc (.cells #[.string ⟨#[]⟩, .string ⟨#[]⟩, .string ⟨#[]⟩, .int .i64 0, .int .i64 0, .slice none 0 0] 30)).drew.grownBy w5 (Value.slice A1 k c1).ownBlock → PrA w5 gq po pn px) := hid (fun w5 hg => by
              refine (hg.block gq (by have := HP4.out.lt; simp; omega) (fun e => ?_)).trans (keep_drew (keep_alloc HP4.out))
              have := (HO1.out.lt gq e.symm).2
              omega)
            have hbs : wo.heap.size ≤ (w4.alloc (.cells #[.string ⟨#[]⟩, .string ⟨#[]⟩, .string ⟨#[]⟩, .int .i64 0, .int .i64 0, .slice none 0 0] 30)).drew.heap.size := (((Below.refl wo.heap.size w4).alloc hs4 _).drew).size |> Nat.le_trans hs4
            have hk6b : (0 : Int) ≤ (k : Int) + 1 := by omega
            have hfl : ((ps.take k).map leafT).length ≤ 1000000000000 := by rw [HLK.out]; omega
            have HQZ := hid hgq
            clear hw4 hgq a0 a1 a2
            have c5 := HM4.out.cell.1
            have f5 := HM4.out.cell.2
            have k0 := HP4.out.all.1
            have k1 := HP4.out.all.2.1
            have k2 := HP4.out.all.2.2
            have c5a : (w4.alloc (.cells #[.string ⟨#[]⟩, .string ⟨#[]⟩, .string ⟨#[]⟩, .int .i64 0, .int .i64 0, .slice none 0 0] 30)).cell? ⟨g, o + 5, none⟩ = some (.slice A1 k c1) := (HM4.out.keep HGO.out.1 HGO.out.2 ((Below.refl _ _).alloc hs4 _)).cell.1
            have k0a : (w4.alloc (.cells #[.string ⟨#[]⟩, .string ⟨#[]⟩, .string ⟨#[]⟩, .int .i64 0, .int .i64 0, .slice none 0 0] 30)).cell? ⟨gq, 0, none⟩ = some (.string po) := (PrA.all (show PrA (w4.alloc (.cells #[.string ⟨#[]⟩, .string ⟨#[]⟩, .string ⟨#[]⟩, .int .i64 0, .int .i64 0, .slice none 0 0] 30)) gq po pn px from keep_alloc HP4.out)).1
            have k1a : (w4.alloc (.cells #[.string ⟨#[]⟩, .string ⟨#[]⟩, .string ⟨#[]⟩, .int .i64 0, .int .i64 0, .slice none 0 0] 30)).cell? ⟨gq, 1, none⟩ = some (.string pn) := (PrA.all (show PrA (w4.alloc (.cells #[.string ⟨#[]⟩, .string ⟨#[]⟩, .string ⟨#[]⟩, .int .i64 0, .int .i64 0, .slice none 0 0] 30)) gq po pn px from keep_alloc HP4.out)).2.1
            have k2a : (w4.alloc (.cells #[.string ⟨#[]⟩, .string ⟨#[]⟩, .string ⟨#[]⟩, .int .i64 0, .int .i64 0, .slice none 0 0] 30)).cell? ⟨gq, 2, none⟩ = some (.string px) := (PrA.all (show PrA (w4.alloc (.cells #[.string ⟨#[]⟩, .string ⟨#[]⟩, .string ⟨#[]⟩, .int .i64 0, .int .i64 0, .slice none 0 0] 30)) gq po pn px from keep_alloc HP4.out)).2.2
            have hkp : (k : Int) < (k : Int) + 1 := by omega
            have HKQ : Hid (∀ W : World, W.heap[gq]? = some (.cells #[.string po, .string pn, .string px] 58 (0, 0)) → (fun w' => w'.cell? ⟨gq, 0, none⟩ = some (.string po) ∧ w'.cell? ⟨gq, 1, none⟩ = some (.string pn) ∧ w'.cell? ⟨gq, 2, none⟩ = some (.string px)) W) := hid (fun W hW => PrA.all (show PrA W gq po pn px from hW))
            have HPH : Hid (w4.heap[gq]? = some (.cells #[.string po, .string pn, .string px] 58 (0, 0))) := hid HP4.out
            have HGQ : Hid (gq < w4.heap.size ∧ g < gq ∧ (∀ b, (Value.slice A1 k c1).ownBlock = some b → b < gq)) := hid ⟨HP4.out.lt, by have := HGO.out.2; have := HQZ.out; omega, fun b e => by have := (HO1.out.lt b e).2; have := HQZ.out; omega⟩
            go_region_law
              ((first | (refine step_appW (E := encT) (by rfl) slT (.tmp 61) (.tmp 68) (by rfl) (B := wo.heap.size) (v := .slice A1 k c1) (l := (ps.take k).map leafT) ((HO4.out.alloc _).drew) (by rfl) (ad := ⟨w4.heap.size, 0, none⟩) (c := 1) zeroT (by rfl) (reads_newd w4 #[.string ⟨#[]⟩, .string ⟨#[]⟩, .string ⟨#[]⟩, .int .i64 0, .int .i64 0, .slice none 0 0] 30 (0, 0)) hfl (by decide) hbs ?_; intro A' c' w5 ho5 hg5 hl5; rw [HLK.out] at ho5 hl5 ⊢; obtain ⟨gr, k6, rfl, rfl, hgr1, hgr2, y0, y1, y2, y3, y4, y5, fz, hnx⟩ := own_six ho5 HLK.out ((po, pn), px); have HOZ := hid ho5; have HB5 := hid (HB45.out _ hg5); have HNX := hid hnx; have HG5 : Hid (wo.heap.size ≤ gr ∧ gr < w5.heap.size) := hid ⟨hgr1, hgr2⟩; have hmd5 := hid (HM4.out.keep HGO.out.1 HGO.out.2 HB5.out); have c55 := hmd5.out.cell.1; have f55 := hmd5.out.cell.2; have HK5 := hid (HBX.out _ hg5); have HK5H : Hid (w5.heap[gq]? = some (.cells #[.string po, .string pn, .string px] 58 (0, 0))) := hid HK5.out; have HNEQ : Hid (gq ≠ gr ∧ gq ≠ g) := hid ⟨(by rcases hl5 with e | e; exact Nat.ne_of_gt (HGQ.out.2.2 gr e.symm); have e2 := Option.some.inj e; have := HGQ.out.1; simp at e2; omega), (by have := HGQ.out.2.1; omega)⟩; have ea5 : (⟨gr, 0, none⟩ : Addr).add (k * 6) = ⟨gr, k * 6, none⟩ := (add_row gr (k * 6)); have hgne : g ≠ gr := (by have := HGO.out.2; omega); have hm6 := hid (hmd5.out.keep HGO.out.1 HGO.out.2 (six_below (w := w5) hgr1 (.string po) (.string pn) (.string px) (.int .i64 0) (.int .i64 0) (.slice none 0 0) (k6 := k * 6))); have c56 := hm6.out.cell.1; have f56 := hm6.out.cell.2; have fz0 := fz (k * 6); have fz1 := fz (k * 6 + 1); have fz2 := fz (k * 6 + 2); have fz3 := fz (k * 6 + 3); have fz4 := fz (k * 6 + 4); have fz5 := fz (k * 6 + 5); obtain ⟨q0, q1, q2⟩ := HKQ.out w5 HK5H.out; obtain ⟨q10, q11, q12⟩ := HKQ.out (w5.setCell ⟨gr, k * 6, none⟩ (.string po)) (by repeat (first | with_reducible exact HK5H.out | with_reducible refine keep_set ?_ (by have := HNEQ.out; simp only; omega))); obtain ⟨q20, q21, q22⟩ := HKQ.out ((w5.setCell ⟨gr, k * 6, none⟩ (.string po)).setCell ⟨gr, k * 6 + 1, none⟩ (.string pn)) (by repeat (first | with_reducible exact HK5H.out | with_reducible refine keep_set ?_ (by have := HNEQ.out; simp only; omega))); obtain ⟨q30, q31, q32⟩ := HKQ.out (((w5.setCell ⟨gr, k * 6, none⟩ (.string po)).setCell ⟨gr, k * 6 + 1, none⟩ (.string pn)).setCell ⟨gr, k * 6 + 2, none⟩ (.string px)) (by repeat (first | with_reducible exact HK5H.out | with_reducible refine keep_set ?_ (by have := HNEQ.out; simp only; omega))); obtain ⟨q40, q41, q42⟩ := HKQ.out ((((w5.setCell ⟨gr, k * 6, none⟩ (.string po)).setCell ⟨gr, k * 6 + 1, none⟩ (.string pn)).setCell ⟨gr, k * 6 + 2, none⟩ (.string px)).setCell ⟨gr, k * 6 + 3, none⟩ (.int .i64 0)) (by repeat (first | with_reducible exact HK5H.out | with_reducible refine keep_set ?_ (by have := HNEQ.out; simp only; omega))); obtain ⟨q50, q51, q52⟩ := HKQ.out (((((w5.setCell ⟨gr, k * 6, none⟩ (.string po)).setCell ⟨gr, k * 6 + 1, none⟩ (.string pn)).setCell ⟨gr, k * 6 + 2, none⟩ (.string px)).setCell ⟨gr, k * 6 + 3, none⟩ (.int .i64 0)).setCell ⟨gr, k * 6 + 4, none⟩ (.int .i64 0)) (by repeat (first | with_reducible exact HK5H.out | with_reducible refine keep_set ?_ (by have := HNEQ.out; simp only; omega))); obtain ⟨q60, q61, q62⟩ := HKQ.out ((((((w5.setCell ⟨gr, k * 6, none⟩ (.string po)).setCell ⟨gr, k * 6 + 1, none⟩ (.string pn)).setCell ⟨gr, k * 6 + 2, none⟩ (.string px)).setCell ⟨gr, k * 6 + 3, none⟩ (.int .i64 0)).setCell ⟨gr, k * 6 + 4, none⟩ (.int .i64 0)).setCell ⟨gr, k * 6 + 5, none⟩ (.slice none 0 0)) (by repeat (first | with_reducible exact HK5H.out | with_reducible refine keep_set ?_ (by have := HNEQ.out; simp only; omega))); clear hnx hgr1 hgr2 ho5 hg5 hl5)))
            all_goals
              have hgpg := (HP.out.tr g HSL.out.1).1
              have HMNA := hid (hm6.out.setR (v' := .slice (some ⟨gr, 0, none⟩) (k + 1) c') hgpg HSL.out.2.2.2.1)
              have HONA := hid (HNX.out.kept (w' := ((((((w5.setCell ⟨gr, k * 6, none⟩ (.string po)).setCell ⟨gr, k * 6 + 1, none⟩ (.string pn)).setCell ⟨gr, k * 6 + 2, none⟩ (.string px)).setCell ⟨gr, k * 6 + 3, none⟩ (.int .i64 0)).setCell ⟨gr, k * 6 + 4, none⟩ (.int .i64 0)).setCell ⟨gr, k * 6 + 5, none⟩ (.slice none 0 0)).setCell ⟨g, o + 5, none⟩ (.slice (some ⟨gr, 0, none⟩) (k + 1) c')) fun b e => Below.heap_setCell _ ⟨g, o + 5, none⟩ _ b (by cases e; exact fun e2 => hgne e2.symm))
              have HMNB := hid ((hmd5.out.setR (v' := .slice (some ⟨gr, 0, none⟩) (k + 1) c') hgpg HSL.out.2.2.2.1).keep HGO.out.1 HGO.out.2 (six_below (w := w5.setCell ⟨g, o + 5, none⟩ (.slice (some ⟨gr, 0, none⟩) (k + 1) c')) HG5.out.1 (.string po) (.string pn) (.string px) (.int .i64 0) (.int .i64 0) (.slice none 0 0) (k6 := k * 6)))
              have HONB : Hid (Own (E := encT) (((((((w5.setCell ⟨g, o + 5, none⟩ (.slice (some ⟨gr, 0, none⟩) (k + 1) c')).setCell ⟨gr, k * 6, none⟩ (.string po)).setCell ⟨gr, k * 6 + 1, none⟩ (.string pn)).setCell ⟨gr, k * 6 + 2, none⟩ (.string px)).setCell ⟨gr, k * 6 + 3, none⟩ (.int .i64 0)).setCell ⟨gr, k * 6 + 4, none⟩ (.int .i64 0)).setCell ⟨gr, k * 6 + 5, none⟩ (.slice none 0 0)) wo.heap.size 30 (.slice (some ⟨gr, 0, none⟩) (k + 1) c') ((ps.take k).map leafT ++ [leafT ((po, pn), px)])) := hid (by
                obtain ⟨gr2, k62, e1, rfl, -, -, -, -, -, -, -, -, -, h1⟩ := own_six (HOZ.out.kept (w' := w5.setCell ⟨g, o + 5, none⟩ (.slice (some ⟨gr, 0, none⟩) (k + 1) c')) fun b e => Below.heap_setCell _ ⟨g, o + 5, none⟩ _ b (by cases e; exact fun e2 => hgne e2.symm)) HLK.out ((po, pn), px)
                cases e1
                exact h1)
              clear y0 y1 y2 y3 y4 y5 fz fz0 fz1 fz2 fz3 fz4 fz5 c55 f55 c56 f56 ea5 c5 f5 c5a hmd5 hgpg
              first
              | (obtain ⟨w9, hw9⟩ : ∃ w9, w9 = ((((((w5.setCell ⟨gr, k * 6, none⟩ (.string po)).setCell ⟨gr, k * 6 + 1, none⟩ (.string pn)).setCell ⟨gr, k * 6 + 2, none⟩ (.string px)).setCell ⟨gr, k * 6 + 3, none⟩ (.int .i64 0)).setCell ⟨gr, k * 6 + 4, none⟩ (.int .i64 0)).setCell ⟨gr, k * 6 + 5, none⟩ (.slice none 0 0)).setCell ⟨g, o + 5, none⟩ (.slice (some ⟨gr, 0, none⟩) (k + 1) c') := ⟨_, rfl⟩
                 rw [← hw9]
                 have HMN := HMNA
                 have HON := HONA
                 rw [← hw9] at HMN HON
                 clear hw9 HMNA HMNB HONA HONB
                 go_wp2_with fail
                 go_roundg (gk - 1)
                 case measure => omega
                 case rel => exact ⟨k + 1, some ⟨gr, 0, none⟩, c', by go_num, by omega, HMN, hid (by rw [take_snoc_of HXX.out, List.map_append]; exact HON.out)⟩)
              | (obtain ⟨w9, hw9⟩ : ∃ w9, w9 = (((((((w5.setCell ⟨g, o + 5, none⟩ (.slice (some ⟨gr, 0, none⟩) (k + 1) c')).setCell ⟨gr, k * 6, none⟩ (.string po)).setCell ⟨gr, k * 6 + 1, none⟩ (.string pn)).setCell ⟨gr, k * 6 + 2, none⟩ (.string px)).setCell ⟨gr, k * 6 + 3, none⟩ (.int .i64 0)).setCell ⟨gr, k * 6 + 4, none⟩ (.int .i64 0)).setCell ⟨gr, k * 6 + 5, none⟩ (.slice none 0 0)) := ⟨_, rfl⟩
                 rw [← hw9]
                 have HMN := HMNB
                 have HON := HONB
                 rw [← hw9] at HMN HON
                 clear hw9 HMNA HMNB HONA HONB
                 go_wp2_with fail
                 go_roundg (gk - 1)
                 case measure => omega
                 case rel => exact ⟨k + 1, some ⟨gr, 0, none⟩, c', by go_num, by omega, HMN, hid (by rw [take_snoc_of HXX.out, List.map_append]; exact HON.out)⟩)
          · obtain rfl : k = np := by omega
            have hpt : ps.take k = ps := List.take_of_length_le (by rw [HNP.out]; exact Nat.le_refl _)
            rw [hpt] at HO1
            have c5 := HMD.out.cell.1
            obtain ⟨w8, hw8⟩ : ∃ x, x = wr := ⟨_, rfl⟩
            subst hw8
            have HSLT : Hid ((Value.slice (some ad) (n - 1) ct).ownBlock = some ad.block ∧ gp ≤ ad.block ∧ ad.block < wo.heap.size ∧ ad.block ≠ g ∧ ad.block ≠ gp + 1) := hid (by
              have h1 := HO.out.lt ad.block rfl
              exact ⟨rfl, h1.1, h1.2, fun e => (HTB.out g HSL.out.1).1 (by rw [← e]; rfl), fun e => HVR.out (by rw [← e]; rfl)⟩)
            have HOT : Hid (Own (E := encA) w8 gp 87 (.slice (some ad) (n - 1) ct) (rest.map (·.1))) := hid (by
              have h1 := HO.out
              rw [← HNN.out] at h1
              have h2 := h1.short (n := n - 1) (by rw [HNN.out]; omega)
              have h3 : ((rest ++ [(((g, o), ((oq, nq), wq)) : Sl × Pr)]).map (·.1)).take (n - 1) = rest.map (·.1) := by
                rw [List.map_append, List.take_append_of_le_length (by rw [List.length_map]; have := HRL.out; omega), List.take_of_length_le (by rw [List.length_map]; have := HRL.out; omega)]
              rw [h3] at h2
              exact h2.kept fun b e => by
                cases e
                exact HMD.out.oth _ HSLT.out.2.2.1 HSLT.out.2.2.2.1)
            clear hpt
            have hkk : (k : Int) ≤ 2 := by omega
            go_wp2_with fail
            clear c5
            go_loopg [79, 6] k (fun gk iv vT wr => ∃ j : Nat, iv = .int .i64 (j : Int) ∧ j + gk = k ∧ Hid (Own (E := encA) wr gp 87 vT (rest.map (·.1) ++ ((kids A1 ps).map (·.1)).take j)) ∧ Hid (But (fun b => b = ad.block) w8 wr) ∧ Hid (vT.ownBlock = some ad.block ∨ ∃ b, vT.ownBlock = some b ∧ w8.heap.size ≤ b))
            case atStart => exact ⟨0, rfl, by omega, hid (by simpa using HOT.out), hid (But.refl _ _), hid (.inl rfl)⟩
            case round =>
              obtain ⟨j, rfl, hj, HOJ, HBJ, HVJ⟩ := hrel
              obtain ⟨Av, cv, rfl, hv1, hv2, -⟩ := HOJ.out.els
              by_cases hjl : j < k
              · obtain ⟨gr, rfl, hgr1, hgr2⟩ := own_some HO1.out (by rw [List.length_map, HNP.out]; omega)
                obtain ⟨q2, hq2⟩ : ∃ x, ps[j]? = some x := ⟨_, List.getElem?_eq_getElem (by rw [HNP.out]; exact hjl)⟩
                have hkg := kids_get (a := ⟨gr, 0, none⟩) hq2
                have HTK : Hid (((kids (some ⟨gr, 0, none⟩) ps).map (·.1)).take (j + 1) = ((kids (some ⟨gr, 0, none⟩) ps).map (·.1)).take j ++ [(gr, j * 6)]) := hid (take_snoc_of (by rw [List.getElem?_map, hkg]; rfl))
                obtain ⟨lv, hlv⟩ : ∃ l, rest.map (·.1) ++ ((kids (some ⟨gr, 0, none⟩) ps).map (·.1)).take j = l := ⟨_, rfl⟩
                rw [hlv] at HOJ HVJ hv1 ⊢
                have HLV := hid hlv
                have hlb : lv.length ≤ 1000000 := by
                  rw [← hlv, List.length_append, List.length_map, List.length_take]
                  have := HRL.out
                  omega
                obtain ⟨nv, hnv⟩ : ∃ x, lv.length = x := ⟨_, rfl⟩
                have HNV := hid hnv
                have hj0 : (0 : Int) ≤ (j : Int) := Int.natCast_nonneg _
                have hj1 : (j : Int) < (k : Int) := by omega
                have hs8 : w8.heap.size ≤ wr.heap.size := HBJ.out.size
                have hgw : gp ≤ wr.heap.size := Nat.le_trans HGO.out.1 (Nat.le_trans HMD.out.size hs8)
                have c5 : wr.cell? ⟨g, o + 5, none⟩ = some (.slice (some ⟨gr, 0, none⟩) k c1) := by
                  have h1 := HMD.out.cell.1
                  rw [← h1]
                  unfold World.cell?
                  rw [HBJ.out.block g (Nat.lt_of_lt_of_le HGO.out.2 HMD.out.size) (fun e => HSLT.out.2.2.2.1 e.symm)]
                have HOJA := hid (HOJ.out.alloc (.cells #[.pointer (some ⟨gr, j * 6, none⟩)] 87))
                have HBA := hid ((HBJ.out.alloc (.cells #[.pointer (some ⟨gr, j * 6, none⟩)] 87)))
                have hsA : gp ≤ (wr.alloc (.cells #[.pointer (some ⟨gr, j * 6, none⟩)] 87)).heap.size := by simp; omega
                clear hkg hq2 hlv hnv hv1 hv2 hgr1 hgr2
                go_wp2_with (at_builtin; refine wpList_app1 (E := encA) (by rfl) slA (.tmp 82) (.tmp 89) (by rfl) (B := gp) (v := .slice Av lv.length cv) (l := lv) HOJA.out (by rfl) (ad := ⟨wr.heap.size, 0, none⟩) (c := 1) ((gr, j * 6) : Sl) (by rfl) (reads_new wr #[.pointer (some ⟨gr, j * 6, none⟩)] 87 (0, 0)) (by omega) (by omega) hsA ?_; intro A' c' w5 ho5 hg5 hl5; have HO5 := hid ho5; have HB5 := hid (HBA.out.then_grown hg5); have HL5 := hid hl5; clear ho5 hg5 hl5)
                rw [HNV.out] at HO5 HL5 HVJ ⊢
                go_roundg (gk - 1)
                case measure => omega
                case rel => exact ⟨j + 1, by go_num, by omega, hid (by rw [HTK.out, ← List.append_assoc, HLV.out]; exact HO5.out), hid (HB5.out fun b e => by
                  have e : (Value.slice Av nv cv).ownBlock = some b := by cases Av <;> exact e
                  rcases HVJ.out with h1 | ⟨b2, h1, h2⟩
                  · rw [h1] at e; cases e; exact .inr rfl
                  · rw [h1] at e; cases e; exact .inl h2), hid (by
                  rcases HL5.out with h1 | h1
                  · rcases HVJ.out with h2 | ⟨b2, h2, h3⟩
                    · exact .inl (h1.trans h2)
                    · exact .inr ⟨b2, h1.trans h2, h3⟩
                  · exact .inr ⟨_, h1, by rw [World.size_alloc]; omega⟩)⟩
              · obtain rfl : j = k := by omega
                obtain ⟨vT, hvT⟩ : ∃ v, v = Value.slice Av (rest.map (·.1) ++ ((kids A1 ps).map (·.1)).take j).length cv := ⟨_, rfl⟩
                rw [← hvT] at HOJ HVJ ⊢
                clear hvT
                have hkt : ((kids A1 ps).map (·.1)).take j = (kids A1 ps).map (·.1) := List.take_of_length_le (by rw [List.length_map]; exact Nat.le_trans kids_len (by rw [HNP.out]; exact Nat.le_refl _))
                have HNW : Hid (wsm L.cs (rest ++ kids A1 ps) < wsm L.cs (rest ++ [((g, o), ((oq, nq), wq))])) := hid (wsm_step HFS.out)
                have HFINI : Hid (∃ (pend : List (Sl × Pr)) (Tr' : Nat → Prop), wsm L.cs pend < wsm L.cs (rest ++ [((g, o), ((oq, nq), wq))]) ∧ Own (E := encA) wr gp 87 vT (pend.map (·.1)) ∧ PSt L.cs re gp (rd L.cs ((o0, n0), who0)) ((o0, n0), who0) (gp + 2) wr Tr' pend ∧ (∀ b, Tr' b → vT.ownBlock ≠ some b ∧ b ≠ gp + 1) ∧ vT.ownBlock ≠ some (gp + 1) ∧
                    wr.heap[gp + 1]? = some (.cells #[.string ⟨#[]⟩, .string ⟨#[]⟩, .string ⟨#[]⟩, .int .i64 0, .int .i64 0, .slice none 0 0] 30 (0, 0)) ∧ Below gp w wr) := hid (by
                  obtain ⟨s1, s2, s3, s4, s5⟩ := HSLT.out
                  obtain ⟨cur, m1, m2, m3, m4, m5, m6⟩ := HMD.out.blk
                  have z8 : wo.heap.size ≤ w8.heap.size := HMD.out.size
                  have zr : w8.heap.size ≤ wr.heap.size := HBJ.out.size
                  have kb : ∀ b, b < w8.heap.size → b ≠ ad.block → wr.heap[b]? = w8.heap[b]? := fun b h1 h2 => HBJ.out.block b h1 h2
                  have kt : ∀ b, Tr b → b < wo.heap.size ∧ b ≠ ad.block := fun b hb => ⟨(HP.out.tr b hb).2, fun e => (HTB.out b hb).1 (by rw [e]; rfl)⟩
                  have g1 : gp + 1 < wo.heap.size := (Array.getElem?_eq_some_iff.1 HRZ.out).1
                  have gg : g ≠ gp + 1 := (HTB.out g HSL.out.1).2
                  have hrow : ∀ a, A1 = some a → 0 < ps.length → wo.heap.size ≤ a.block ∧ a.block < w8.heap.size := fun a ea hp => by
                    obtain ⟨gr, e1, h1, h2⟩ := own_some HO1.out (by rw [List.length_map]; exact hp)
                    rw [ea] at e1; cases e1; exact ⟨h1, h2⟩
                  have hst := HP.out.step (w' := wr) (A := A1) (cap := c1) (T0 := 30) HFS.out HRP.out (may_okI HMY.out) (Nat.le_trans z8 zr) (fun b hb hne => (kb b (Nat.lt_of_lt_of_le (kt b hb).1 z8) (kt b hb).2).trans (HMD.out.oth b (kt b hb).1 hne)) (by
                      obtain ⟨_, _, e1, h1, h2, -⟩ := HO1.out.els
                      simp only [Value.slice.injEq] at e1
                      obtain ⟨-, -, rfl⟩ := e1
                      rw [List.length_map] at h1; exact h1) (by
                      obtain ⟨_, _, e1, h1, h2, -⟩ := HO1.out.els
                      simp only [Value.slice.injEq] at e1
                      obtain ⟨-, -, rfl⟩ := e1
                      exact h2) HSL.out.2.2.1 ((kb g (Nat.lt_of_lt_of_le HGO.out.2 z8) (fun e => s4 e.symm)).trans m1) m2 (by rw [HDQ.out.1]; exact m3) (by rw [HDQ.out.2]; exact m4) (by rw [HNP.out]; exact m5) m6 (by
                      rw [HNP.out]
                      exact HO1.out.kept fun b e => kb b (HO1.out.lt b e).2 (by have := (HO1.out.lt b e).1; omega))
                  refine ⟨rest ++ kids A1 ps, _, HNW.out, by have h1 := HOJ.out; rw [hkt] at h1; rw [List.map_append]; exact h1, hst, fun b hb => ?_, ?_, ?_, ?_⟩
                  · rcases hb with hb | ⟨a, ea, hp, rfl⟩
                    · refine ⟨fun e => ?_, (HTB.out b hb).2⟩
                      rcases HVJ.out with h1 | ⟨b2, h1, h2⟩
                      · rw [h1] at e; cases e; exact (kt _ hb).2 rfl
                      · rw [h1] at e; cases e; have := (kt _ hb).1; omega
                    · have hr := hrow a ea hp
                      refine ⟨fun e => ?_, by omega⟩
                      rcases HVJ.out with h1 | ⟨b2, h1, h2⟩
                      · rw [h1] at e; have := Option.some.inj e; omega
                      · rw [h1] at e; have := Option.some.inj e; omega
                  · intro e
                    rcases HVJ.out with h1 | ⟨b2, h1, h2⟩
                    · rw [h1] at e; exact s5 (Option.some.inj e)
                    · rw [h1] at e; have := Option.some.inj e; omega
                  · rw [kb (gp + 1) (by omega) (fun e => s5 e.symm), HMD.out.oth (gp + 1) g1 (fun e => gg e.symm)]
                    exact HRZ.out
                  · have hb8 := HMD.out.bel
                    exact ⟨HBJ.out.os.trans hb8.os, HBJ.out.tape.trans hb8.tape, HBJ.out.output.trans hb8.output, Nat.le_trans hb8.size zr, fun b hb => (kb b (by omega) (by omega)).trans (hb8.block b hb)⟩)
                clear hkt
                obtain ⟨p9, t9, w9, o9, s9, b9, v9, z9, l9⟩ := HFINI.out
                have HA9 := hid o9
                have HB9 := hid s9
                have HC9 := hid b9
                have HD9 := hid v9
                have HE9 := hid z9
                have HF9 := hid l9
                have HW9 : Hid (wsm L.cs p9 < gK) := hid (Nat.lt_of_lt_of_le w9 HWS.out)
                obtain ⟨k9, hk9⟩ : ∃ k, wsm L.cs p9 = k := ⟨_, rfl⟩
                have HK9 : Hid (wsm L.cs p9 ≤ k9) := hid (Nat.le_of_eq hk9)
                have hk9l : k9 < gK := by rw [← hk9]; exact HW9.out
                clear w9 o9 s9 b9 v9 z9 l9 hk9
                go_wp2_with fail
                go_roundg k9
                case measure => exact hk9l
                case rel => exact ⟨p9, t9, HA9, HB9, HC9, HD9, HE9, HF9, HK9⟩
end Go.Proofs.YtoajckhnneagnaaDoor.Sh
