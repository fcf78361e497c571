/-
  lives of stage 8.
-/
import Derived.Test.YtoajckhnneagnaaDoorJc43
set_option linter.unusedVariables false
set_option linter.unusedSimpArgs false
namespace Go.Proofs.YtoajckhnneagnaaDoor.Sh
open Go Go.RowKit

set_option linter.unusedSimpArgs false
set_option linter.unusedVariables false
theorem okB8 (l : List UInt8) (h : l.length ≤ 100) : okB ⟨l.toArray⟩ := by
  unfold okB
  rw [← size_list]
  show l.length ≤ _
  unfold maxLen
  omega
set_option maxHeartbeats 8000000 in
set_option maxRecDepth 100000 in
theorem lives8_any (w : World) : Calls Tryd.prog 14 #[] w fun e w' => e = .returned (.bool true) ∧ Below w.heap.size w w' := by
  obtain ⟨g0, hg0⟩ : ∃ g, w.heap.size = g := ⟨_, rfl⟩
  obtain ⟨wA, hwA⟩ : ∃ x, x = w.alloc (.cells #[.string ⟨#[100, 49]⟩, .string ⟨#[97]⟩] 24) := ⟨_, rfl⟩
  have sA : wA.heap.size = g0 + 1 := by rw [hwA, World.size_alloc, hg0]
  obtain ⟨w1, hw1⟩ : ∃ x, x = wA.alloc (.cells (cv ex8).toArray 55) := ⟨_, rfl⟩
  have s1 : w1.heap.size = g0 + 1 + 1 := by rw [hw1, World.size_alloc, sA]
  have HQ1 : Hid (Below w.heap.size w w1) := hid (by rw [hw1, hwA]; exact ((Below.refl _ w).alloc (Nat.le_refl _) _).alloc (by rw [World.size_alloc]; omega) _)
  have HCR : Hid (Crs w1 w1.heap.size (some ⟨g0 + 1, 0, none⟩) ex8) := hid (fun _ => by
    obtain ⟨ad, e, hc⟩ := reads_new wA (cv ex8).toArray 55 (0, 0) (by simp [cv_length, ex8])
    injection e with e
    subst e
    rw [sA] at hc
    refine ⟨_, rfl, by rw [s1]; show g0 + 1 < g0 + 1 + 1; omega, fun j x hx => ?_⟩
    have h := hc j x hx
    rw [← hw1] at h
    exact h)
  have HRO : Hid (RoleAt w1 g0 ⟨#[100, 49]⟩ ⟨#[97]⟩) := hid (by
    rw [hw1]
    refine RoleAt.kept ?_ ((Below.refl _ _).alloc (Nat.le_refl _) _)
    rw [hwA, ← hg0]
    exact RoleAt.new w _ _)
  have HCS := hid (fun W (hW : Below w1.heap.size w1 W) => (HCR.out.below hW).more hW.size)
  have HKR := hid (fun W (hW : Below w1.heap.size w1 W) => (⟨(HRO.out.kept hW).c0, (HRO.out.kept hW).c1⟩ : W.cell? ⟨g0, 0, none⟩ = some (.string ⟨#[100, 49]⟩) ∧ W.cell? ⟨g0, 1, none⟩ = some (.string ⟨#[97]⟩)))
  have HF1 : Hid (∀ W, Below w1.heap.size w1 W → Calls Tryd.prog 9 #[.slice (some ⟨g0 + 1, 0, none⟩) 3 3, .string ⟨#[97, 110, 110]⟩, .agg #[.string ⟨#[100, 49]⟩, .string ⟨#[97]⟩]] W fun e w' => ∃ (To Tn Tx : ByteArray) (TA : Option Addr) (Tl Tc : Nat), e = .returned (.tuple #[.agg #[.string To, .string Tn, .string Tx, .int .i64 1, .int .i64 2, .slice TA Tl Tc], .int .i64 0]) ∧ Below W.heap.size W w') := hid (fun W hW =>
    (cFind_any _ ex8 3 3 rfl (Nat.le_refl _) (by omega) (by omega) ⟨#[97, 110, 110]⟩ ⟨#[100, 49]⟩ ⟨#[97]⟩ (okB8 _ (by decide)) (okB8 _ (by decide)) (okB8 _ (by decide)) W (HCS.out W hW)).mono fun e w' ⟨cs, h1, h2, h3⟩ => by
      rcases h2 with ⟨h4, -⟩ | ⟨-, T, h5, -, h6, h7⟩
      · exact absurd ((rd8A h1).symm.trans h4) (by omega)
      · obtain ⟨e1, e2⟩ := can8 h1 h6 h7
        obtain ⟨To, Tn, Tx, Td, Tq, TA, Tc, Tps⟩ := T
        simp only [PT.d, PT.q] at e1 e2
        subst e1 e2
        exact ⟨To, Tn, Tx, TA, Tps.length, Tc, h5, h3⟩)
  have HF2 : Hid (∀ W, Below w1.heap.size w1 W → Calls Tryd.prog 9 #[.slice (some ⟨g0 + 1, 0, none⟩) 3 3, .string ⟨#[98, 111, 98]⟩, .agg #[.string ⟨#[100, 49]⟩, .string ⟨#[97]⟩]] W fun e w' => e = .returned (.tuple #[.agg #[.string ⟨#[]⟩, .string ⟨#[]⟩, .string ⟨#[]⟩, .int .i64 0, .int .i64 0, .slice none 0 0], .int .i64 16]) ∧ Below W.heap.size W w') := hid (fun W hW =>
    (cFind_any _ ex8 3 3 rfl (Nat.le_refl _) (by omega) (by omega) ⟨#[98, 111, 98]⟩ ⟨#[100, 49]⟩ ⟨#[97]⟩ (okB8 _ (by decide)) (okB8 _ (by decide)) (okB8 _ (by decide)) W (HCS.out W hW)).mono fun e w' ⟨cs, h1, h2, h3⟩ => by
      rcases h2 with ⟨-, h4⟩ | ⟨h5, -⟩
      · exact ⟨h4, h3⟩
      · exact absurd (rd8N h1) h5)
  have HRD : Hid (∀ W, Below w1.heap.size w1 W → Calls Tryd.prog 12 #[.slice (some ⟨g0 + 1, 0, none⟩) 3 3, .string ⟨#[97, 110, 110]⟩, .agg #[.string ⟨#[100, 49]⟩, .string ⟨#[97]⟩]] W fun e w' => e = .returned (.int .i64 1) ∧ Below W.heap.size W w') := hid (fun W hW =>
    (cRound_any _ ex8 3 3 rfl (Nat.le_refl _) (by omega) (by omega) ⟨#[97, 110, 110]⟩ ⟨#[100, 49]⟩ ⟨#[97]⟩ (okB8 _ (by decide)) (okB8 _ (by decide)) (okB8 _ (by decide)) W (HCS.out W hW)).mono fun e w' ⟨cs, h1, h2, h3⟩ => ⟨by rw [h2, show rd cs ((⟨#[100, 49]⟩, ⟨#[97]⟩), ⟨#[97, 110, 110]⟩) = 1 from rd8A h1]; rfl, h3⟩)
  have HSP : Hid (∀ W, Below w1.heap.size w1 W → ∀ g, Els encR W W.heap.size (some ⟨g, 0, none⟩) [rA8, rB8] → Calls Tryd.prog 15 #[.slice (some ⟨g0 + 1, 0, none⟩) 3 3, .string ⟨#[97, 110, 110]⟩, .slice (some ⟨g, 0, none⟩) 2 2] W fun e w' => ∃ (A' : Option Addr) (c' : Nat), e = .returned (.tuple #[.slice A' 2 c', .int .i64 0]) ∧ Below W.heap.size W w') := hid (fun W hW g hg =>
    (cSupport_any _ ex8 3 3 rfl (Nat.le_refl _) (by omega) (by omega) ⟨#[97, 110, 110]⟩ (okB8 _ (by decide)) (some ⟨g, 0, none⟩) [rA8, rB8] 2 2 rfl (by omega) (fun r hr => by
      simp only [List.mem_cons, List.not_mem_nil, or_false] at hr
      rcases hr with rfl | rfl <;> exact ⟨okB8 _ (by decide), okB8 _ (by decide)⟩) W (HCS.out W hW) hg).mono fun e w' ⟨cs, h1, h2, h3⟩ => by
      rcases h2 with ⟨⟨r, hr, h4⟩, -⟩ | ⟨-, A', c', ss, h5, h6, h7, -⟩
      · simp only [List.mem_cons, List.not_mem_nil, or_false] at hr
        rcases hr with rfl | rfl
        · exact absurd ((rd8A h1).symm.trans h4) (by omega)
        · exact absurd ((rd8B h1).symm.trans h4) (by omega)
      · rw [len8 h1 h6 h7] at h5
        exact ⟨A', c', h5, h3⟩)
  have hwX : w1 = (w.alloc (.cells #[.string ⟨#[100, 49]⟩, .string ⟨#[97]⟩] 24)).alloc (.cells #[.int .i64 1, .int .i64 1, .string ⟨#[97]⟩, .int .i64 2, .string ⟨#[]⟩, .string ⟨#[100, 50]⟩, .string ⟨#[98]⟩, .string ⟨#[]⟩, .string ⟨#[]⟩, .int .i64 1, .int .i64 2, .string ⟨#[97]⟩, .int .i64 1, .string ⟨#[97, 110, 110]⟩, .string ⟨#[]⟩, .string ⟨#[]⟩, .string ⟨#[]⟩, .string ⟨#[]⟩, .int .i64 2, .int .i64 1, .string ⟨#[98]⟩, .int .i64 1, .string ⟨#[97, 110, 110]⟩, .string ⟨#[]⟩, .string ⟨#[]⟩, .string ⟨#[]⟩, .string ⟨#[]⟩] 55) := by
    rw [hw1, hwA]; rfl
  have HG0 := hid hg0
  have HS1 := hid s1
  clear hwA sA hw1 s1
  go_enter Tryd.func14, Tryd.ntmps14
  go_upto_region 3 with fail
  try rw [← hwX]
  try rw [HG0.out]
  clear hwX hg0
  obtain ⟨r0, r1⟩ := HKR.out _ (Below.refl _ _)
  go_upto_region 4 with (go_at_call 9; (refine (HF1.out _ (Below.refl _ _)).mono ?_); rintro er w2 ⟨To, Tn, Tx, TA, Tl, Tc, rfl, bb⟩; have HB2 := hid bb; clear bb)
  obtain ⟨w3, hw3⟩ : ∃ x, x = w2.alloc (.cells #[.string To, .string Tn, .string Tx, .int .i64 1, .int .i64 2, .slice TA Tl Tc] 30) := ⟨_, rfl⟩
  obtain ⟨g3, hg3⟩ : ∃ x, w2.heap.size = x := ⟨_, rfl⟩
  rw [← hw3]
  try rw [hg3]
  have HB3 : Hid (Below w1.heap.size w1 w3) := hid (by rw [hw3]; exact HB2.out.alloc HB2.out.size _)
  have HP3 : Hid (w3.heap[g3]? = some (.cells #[.string To, .string Tn, .string Tx, .int .i64 1, .int .i64 2, .slice TA Tl Tc] 30 (0, 0))) := hid (by rw [hw3]; exact new_at hg3)
  clear hw3 hg3 r0 r1
  obtain ⟨r0, r1⟩ := HKR.out _ HB3.out
  go_upto_region 5 with (go_at_call 9; (refine (HF2.out _ HB3.out).mono ?_); rintro er w4 ⟨rfl, bb⟩; have HB4 := hid bb; clear bb)
  obtain ⟨w5, hw5⟩ : ∃ x, x = w4.alloc (.cells #[.string ⟨#[]⟩, .string ⟨#[]⟩, .string ⟨#[]⟩, .int .i64 0, .int .i64 0, .slice none 0 0] 30) := ⟨_, rfl⟩
  rw [← hw5]
  have HB35 : Hid (Below w3.heap.size w3 w5) := hid (by rw [hw5]; exact HB4.out.alloc HB4.out.size _)
  have HB5 : Hid (Below w1.heap.size w1 w5) := hid (HB3.out.trans (HB35.out.mono HB3.out.size))
  clear hw5 r0 r1
  obtain ⟨r0, r1⟩ := HKR.out _ HB5.out
  obtain ⟨w6, hw6⟩ : ∃ x, x = w5.alloc (.cells #[.string ⟨#[100, 49]⟩, .string ⟨#[97]⟩, .string ⟨#[100, 50]⟩, .string ⟨#[98]⟩] 24) := ⟨_, rfl⟩
  obtain ⟨g5, hg5⟩ : ∃ x, w5.heap.size = x := ⟨_, rfl⟩
  have HB56 : Hid (Below w5.heap.size w5 w6) := hid (by rw [hw6]; exact (Below.refl _ _).alloc (Nat.le_refl _) _)
  have HB6 : Hid (Below w1.heap.size w1 w6) := hid (HB5.out.trans (HB56.out.mono HB5.out.size))
  have HE6 : Hid (Els encR w6 w6.heap.size (some ⟨g5, 0, none⟩) [rA8, rB8]) := hid (fun _ => by
    obtain ⟨ad, e, hc⟩ := reads_new w5 #[.string ⟨#[100, 49]⟩, .string ⟨#[97]⟩, .string ⟨#[100, 50]⟩, .string ⟨#[98]⟩] 24 (0, 0) (by simp)
    injection e with e
    subst e
    rw [hg5] at hc
    refine ⟨_, rfl, by rw [hw6, World.size_alloc, hg5]; exact Nat.lt_succ_self _, fun j x hx => ?_⟩
    have h := hc j x (by simpa [ev, encR, rA8, rB8] using hx)
    rw [← hw6] at h
    exact h)
  have HSU := hid (HSP.out w6 HB6.out g5 HE6.out)
  go_upto_region 6 with (go_at_call 15; (try rw [← hw6]); (try rw [hg5]); (refine HSU.out.mono ?_); rintro er w7 ⟨A7, c7, rfl, bb⟩; have HB7 := hid bb; clear bb)
  have HB17 : Hid (Below w1.heap.size w1 w7) := hid (HB6.out.trans (HB7.out.mono HB6.out.size))
  have HB37 : Hid (Below w3.heap.size w3 w7) := hid (HB35.out.trans ((HB56.out.mono HB35.out.size).trans (HB7.out.mono (Nat.le_trans HB35.out.size HB56.out.size))))
  have HP7 : Hid (w7.heap[g3]? = some (.cells #[.string To, .string Tn, .string Tx, .int .i64 1, .int .i64 2, .slice TA Tl Tc] 30 (0, 0))) := hid ((HB37.out.block _ (Array.getElem?_eq_some_iff.1 HP3.out).1).trans HP3.out)
  have k3 : w7.cell? ⟨g3, 3, none⟩ = some (.int .i64 1) := by rw [cell_of_row w7 _ 3 _ _ (0, 0) HP7.out]; rfl
  have k4 : w7.cell? ⟨g3, 4, none⟩ = some (.int .i64 2) := by rw [cell_of_row w7 _ 4 _ _ (0, 0) HP7.out]; rfl
  clear hw6 hg5 r0 r1
  obtain ⟨r0, r1⟩ := HKR.out _ HB17.out
  go_wp2_with (go_at_call 12; (refine (HRD.out _ HB17.out).mono ?_); rintro er w8 ⟨rfl, bb⟩; have HB8 := hid bb; clear bb)
  go_ret
  exact ⟨rfl, HQ1.out.trans ((HB17.out.trans (HB8.out.mono HB17.out.size)).mono HQ1.out.size)⟩
end Go.Proofs.YtoajckhnneagnaaDoor.Sh
namespace Go.Proofs.YtoajckhnneagnaaDoor.Sh
open Go Go.RowKit

set_option linter.unusedSimpArgs false
set_option linter.unusedVariables false
def addP (l : List Pr) (p : Pr) : List Pr := if p ∈ l then l else l ++ [p]
theorem addP_old {l : List Pr} {p : Pr} (h : p ∈ l) : addP l p = l := if_pos h
theorem addP_new {l : List Pr} {p : Pr} (h : p ∉ l) : addP l p = l ++ [p] := if_neg h
theorem addP_mem {l : List Pr} {p q : Pr} : q ∈ addP l p ↔ q ∈ l ∨ q = p := by
  by_cases h : p ∈ l
  · rw [addP_old h]
    constructor
    · exact .inl
    · rintro (h1 | rfl)
      · exact h1
      · exact h
  · rw [addP_new h, List.mem_append, List.mem_singleton]
theorem addP_nd {l : List Pr} {p : Pr} (h : l.Nodup) : (addP l p).Nodup := by
  by_cases e : p ∈ l
  · rw [addP_old e]; exact h
  · rw [addP_new e]
    exact List.nodup_append.2 ⟨h, by simp, fun a ha b hb => by simp at hb; subst hb; exact fun e2 => e (e2 ▸ ha)⟩
theorem addP_get {l : List Pr} {p : Pr} {j : Nat} {q : Pr} (h : l[j]? = some q) : (addP l p)[j]? = some q := by
  by_cases e : p ∈ l
  · rw [addP_old e]; exact h
  · rw [addP_new e, List.getElem?_append_left (List.getElem?_eq_some_iff.1 h).1]; exact h
theorem addP_take {l : List Pr} {p : Pr} {j : Nat} (h : j ≤ l.length) : (addP l p).take j = l.take j := by
  by_cases e : p ∈ l
  · rw [addP_old e]
  · rw [addP_new e, List.take_append_of_le_length h]
noncomputable def idAt (cs : List Crd) (q : Pr) : Int × Int := match fs cs q with | some (c, _) => (c.d, c.q) | none => (0, 0)
theorem idAt_fs {cs : List Crd} {q : Pr} {c : Crd} {ps : List Pr} (h : fs cs q = some (c, ps)) : idAt cs q = (c.d, c.q) := by unfold idAt; rw [h]
structure SpI (cs : List Crd) (who : ByteArray) (rs : List Rl) (pl : List Pr) (i : Nat) : Prop where
  nd : pl.Nodup
  src : ∀ q ∈ pl, Rch cs (Tgt rs who) q ∧ rd cs q ≠ 0 ∧ (q.2 = who ∨ isD q.2)
  tgt : ∀ p, Tgt rs who p → p ∈ pl
  cl : ∀ j q c ps, j < i → pl[j]? = some q → fs cs q = some (c, ps) → ∀ r ∈ ps, r ∈ pl
section
variable {cs : List Crd} {who : ByteArray} {rs : List Rl} {pl : List Pr} {i : Nat}
theorem SpI.len (h : SpI cs who rs pl i) : pl.length ≤ cs.length * 17 := by
  have h1 : (Hds cs (who :: (List.range 16).map domN)).length = cs.length * 17 := by rw [hds_len]; simp
  rw [← h1]
  refine nodup_lenA h.nd fun q hq => ?_
  obtain ⟨-, h2, h3⟩ := h.src q hq
  refine in_hds h2 ?_
  rcases h3 with h3 | h3
  · rw [h3]; simp
  · exact pe_isD (fun i hi => List.mem_cons_of_mem _ (List.mem_map.2 ⟨i, List.mem_range.2 hi, rfl⟩)) h3
theorem SpI.add {q r : Pr} {c : Crd} {ps : List Pr} (h : SpI cs who rs pl i) (hq : q ∈ pl) (hf : fs cs q = some (c, ps)) (hr : r ∈ ps) (hi : i ≤ pl.length) : SpI cs who rs (addP pl r) i := by
  refine ⟨addP_nd h.nd, fun p hp => ?_, fun p hp => addP_mem.2 (.inl (h.tgt p hp)), fun j p d qs hj hp hfp u hu => ?_⟩
  · rcases addP_mem.1 hp with h1 | rfl
    · exact h.src p h1
    · obtain ⟨h2, h3, h4⟩ := h.src q hq
      obtain ⟨g1, g2, g3⟩ := fs_lt hf p hr
      refine ⟨.step h2 hf hr, g1, ?_⟩
      rcases g3 with g3 | g3
      · rw [g3]; exact h4
      · exact .inr g3
  · have : pl[j]? = some p := by
      have hj2 : j < pl.length := by omega
      have := addP_get (p := r) (List.getElem?_eq_getElem hj2)
      rw [this] at hp
      rw [List.getElem?_eq_getElem hj2, hp]
    exact addP_mem.2 (.inl (h.cl j p d qs hj this hfp u hu))
theorem SpI.next {q : Pr} {c : Crd} {ps : List Pr} (h : SpI cs who rs pl i) (hq : pl[i]? = some q) (hf : fs cs q = some (c, ps)) (hall : ∀ r ∈ ps, r ∈ pl) : SpI cs who rs pl (i + 1) := by
  refine ⟨h.nd, h.src, h.tgt, fun j p d qs hj hp hfp u hu => ?_⟩
  by_cases e : j = i
  · subst e
    rw [hq] at hp
    cases hp
    rw [hf] at hfp
    cases hfp
    exact hall u hu
  · exact h.cl j p d qs (by omega) hp hfp u hu
theorem SpI.rch (h : SpI cs who rs pl pl.length) {q : Pr} (hq : Rch cs (Tgt rs who) q) : q ∈ pl := by
  induction hq with
  | base hp => exact h.tgt _ hp
  | step h1 h2 h3 ih =>
    obtain ⟨j, hj, e⟩ := List.mem_iff_getElem.1 ih
    exact h.cl j _ _ _ hj (by rw [List.getElem?_eq_getElem hj, e]) h2 _ h3
theorem SpI.needs (h : SpI cs who rs pl pl.length) (x : Int × Int) : x ∈ pl.map (idAt cs) ↔ Needs cs (Tgt rs who) x := by
  rw [List.mem_map]
  constructor
  · rintro ⟨q, hq, rfl⟩
    obtain ⟨h1, h2, -⟩ := h.src q hq
    obtain ⟨c, ps, hf⟩ := fs_ex h2
    exact ⟨q, c, ps, h1, hf, idAt_fs hf⟩
  · rintro ⟨q, c, ps, hq, hf, rfl⟩
    exact ⟨q, h.rch hq, idAt_fs hf⟩
theorem SpI.start (hnd : pl.Nodup) (hm : ∀ p, p ∈ pl ↔ Tgt rs who p) (hr : ∀ r ∈ rs, rd cs (r, who) ≠ 0) : SpI cs who rs pl 0 :=
  ⟨hnd, fun q hq => by
    have ht := (hm q).1 hq
    refine ⟨.base ht, ?_⟩
    obtain ⟨r, h1, rfl⟩ := ht
    exact ⟨hr r h1, .inl rfl⟩, fun p hp => (hm p).2 hp, fun j q c ps hj => by omega⟩
end
end Go.Proofs.YtoajckhnneagnaaDoor.Sh
