/-
  The search's try, by contract.
-/
import Derived.Test.YtoajckhnneagnaaDoorJd31
set_option linter.unusedVariables false
set_option linter.unusedSimpArgs false
namespace Go.Proofs.YtoajckhnneagnaaDoor.Sh
open Go Go.RowKit
open Go.Maps (Keyed)

set_option linter.unusedVariables false
set_option linter.unusedSimpArgs false
theorem TryP.nil {w w' : World} {e : Ending} (h : TryP w w' none e) : e = .returned (.tuple #[.slice none 0 0, .bool false]) := by
  rcases h with h | ⟨ps, n, A, c, h1, _⟩
  · exact h.2
  · cases h1
theorem TryP.one {w w' : World} {ps : List Pr} {e : Ending} (h : TryP w w' (some ps) e) : ∃ n A c, e = .returned (.tuple #[.slice A n c, .bool true]) := by
  rcases h with h | ⟨ps, n, A, c, h1, h2, h3, _⟩
  · cases h.1
  · exact ⟨n, A, c, h3⟩
set_option maxHeartbeats 8000000 in
set_option maxRecDepth 100000 in
theorem ctry1_any {L : Ly} {vF vL : Value} {col : Col} {x : Sx} {w : World} (h : Sea L w vF vL col x) (hP : ∀ i, i < 16 → L.P (i + 1) = domN i) (c : Crd) (hk : c.kd = 1) (hc : mayC c = true) (p : Pr) (hp : okP p) (hr : p.1 = roleOf c) (m : Nat) (hm : m ≤ 1000000000) :
    Calls Tryd.prog 69 #[.pointer (some ⟨L.sb, 0, none⟩), .agg c.cells.toArray, .agg #[.string p.1.1, .string p.1.2, .string p.2], .int .i64 (m : Int)] w fun e w' => TryP w w' (why c (x.s.lt m) p) e ∧ Below w.heap.size w w' := by
  have HT := hid (fun W (hW : Below w.heap.size w W) => cmember_any (.pointer (some ⟨L.sb, 0, none⟩)) c p m W hk hr (x.s.lt m))
  obtain ⟨⟨o, n⟩, who⟩ := p
  obtain ⟨ow, how⟩ : ∃ ow, why c (x.s.lt m) ((o, n), who) = ow := ⟨_, rfl⟩
  rw [how] at HT ⊢
  obtain ⟨d, q, nm, kd, wh, ao, an, bo, bn⟩ := c
  simp only at hk
  subst hk
  obtain ⟨sb, hsb⟩ : ∃ sb, L.sb = sb := ⟨_, rfl⟩
  have HSB := hid hsb
  obtain ⟨w1, hw1⟩ : ∃ w1, w1 = w.alloc (.cells (Crd.cells ⟨d, q, nm, 1, wh, ao, an, bo, bn⟩).toArray 55) := ⟨_, rfl⟩
  obtain ⟨w3, hw3⟩ : ∃ w3, w3 = w1.alloc (.cells #[.string o, .string n, .string who] 58) := ⟨_, rfl⟩
  obtain ⟨gr, hgr⟩ : ∃ g, w.heap.size = g := ⟨_, rfl⟩
  obtain ⟨gc, hgc⟩ : ∃ g, gr + 1 = g := ⟨_, rfl⟩
  have hz1 : w1.heap.size = gc := by rw [hw1, World.size_alloc, hgr, hgc]
  have q1 : Below w.heap.size w w1 := by rw [hw1]; exact (Below.refl _ _).alloc (Nat.le_refl _) _
  have q3 : Below w1.heap.size w1 w3 := by rw [hw3]; exact (Below.refl _ _).alloc (Nat.le_refl _) _
  have r1 : CrAt w1 gr ⟨d, q, nm, 1, wh, ao, an, bo, bn⟩ := by rw [hw1, ← hgr]; exact CrAt.new w _
  have HC3 := hid (r1.kept q3)
  have HP3 : Hid (PrA w3 gc o n who) := hid (by rw [hw3, ← hz1]; exact PrA.new w1 _ _ _)
  have HQ3 : Hid (Below w.heap.size w w3) := hid (q1.trans (q3.mono q1.size))
  rw [hsb] at HT ⊢
  clear q1 q3 r1 hr how hz1 h hc hp hm hsb
  unfold Crd.cells at hw1 HT ⊢
  simp only at hw1 HT ⊢
  go_enter Tryd.func69, Tryd.ntmps69
  go_upto_region 1 with fail
  rw [← hw1]
  try rw [hgr]
  rw [← hw3]
  try rw [hgc]
  clear hw1 hw3 hgr hgc
  have sN : ∀ (W : World) (a : Addr) (mo : Mode), (store a .nilFunc mo).run Tryd.prog W = stored Tryd.prog W a .nilFunc mo := fun W a mo => run_store _ W a _ mo rfl
  have sF : ∀ (W : World) (a : Addr) (mo : Mode) f b c, (store a (.func f b c) mo).run Tryd.prog W = stored Tryd.prog W a (.func f b c) mo := fun W a mo f b c => run_store _ W a _ mo rfl
  go_upto_region 2 with fail
  clear sN sF
  obtain ⟨w6, hw6⟩ : ∃ w6, w6 = w3.alloc (.cells #[.nilFunc, .func (.func 84) #[] #[], .func (.func 85) #[] #[], .func (.func 86) #[] #[], .func (.func 87) #[] #[]] 124) := ⟨_, rfl⟩
  obtain ⟨ga, hga⟩ : ∃ g, w3.heap.size = g := ⟨_, rfl⟩
  rw [← hw6]
  try rw [hga]
  have q6 : Below w3.heap.size w3 w6 := by rw [hw6]; exact (Below.refl _ _).alloc (Nat.le_refl _) _
  have f6 : w6.heap[ga]? = some (.cells #[.nilFunc, .func (.func 84) #[] #[], .func (.func 85) #[] #[], .func (.func 86) #[] #[], .func (.func 87) #[] #[]] 124 (0, 0)) := by rw [hw6, ← hga]; exact heap_alloc_new w3 _
  have hga6 : ga < w6.heap.size := (Array.getElem?_eq_some_iff.1 f6).1
  have HB6 := hid (HQ3.out.trans (q6.mono HQ3.out.size))
  have HK := hid (fun W (hW : Below w6.heap.size w6 W) => by
    have k1 := ((HC3.out.kept q6).kept hW).all
    have k2 := ((HP3.out.kept q6).kept hW).all
    exact (⟨k1.1, k1.2.1, k1.2.2.1, k1.2.2.2.1, k1.2.2.2.2.1, k1.2.2.2.2.2.1, k1.2.2.2.2.2.2.1, k1.2.2.2.2.2.2.2.1, k1.2.2.2.2.2.2.2.2, k2.1, k2.2.1, k2.2.2, by rw [cell_of_row W ga 1 _ _ (0, 0) ((hW.block _ hga6).trans f6)]; rfl⟩ : W.cell? ⟨gr, 0, none⟩ = some (.int .i64 d) ∧ W.cell? ⟨gr, 1, none⟩ = some (.int .i64 q) ∧ W.cell? ⟨gr, 2, none⟩ = some (.string nm) ∧ W.cell? ⟨gr, 3, none⟩ = some (.int .i64 1) ∧ W.cell? ⟨gr, 4, none⟩ = some (.string wh) ∧ W.cell? ⟨gr, 5, none⟩ = some (.string ao) ∧ W.cell? ⟨gr, 6, none⟩ = some (.string an) ∧ W.cell? ⟨gr, 7, none⟩ = some (.string bo) ∧ W.cell? ⟨gr, 8, none⟩ = some (.string bn) ∧ W.cell? ⟨gc, 0, none⟩ = some (.string o) ∧ W.cell? ⟨gc, 1, none⟩ = some (.string n) ∧ W.cell? ⟨gc, 2, none⟩ = some (.string who) ∧ W.cell? ⟨ga, 1, none⟩ = some (.func (.func 84) #[] #[])))
  clear hw6 hga q6 f6 hga6
  cases ow with
  | none =>
    go_region_held3 (fun w' => w'.cell? ⟨gr, 0, none⟩ = some (.int .i64 d) ∧ w'.cell? ⟨gr, 1, none⟩ = some (.int .i64 q) ∧ w'.cell? ⟨gr, 2, none⟩ = some (.string nm) ∧ w'.cell? ⟨gr, 3, none⟩ = some (.int .i64 1) ∧ w'.cell? ⟨gr, 4, none⟩ = some (.string wh) ∧ w'.cell? ⟨gr, 5, none⟩ = some (.string ao) ∧ w'.cell? ⟨gr, 6, none⟩ = some (.string an) ∧ w'.cell? ⟨gr, 7, none⟩ = some (.string bo) ∧ w'.cell? ⟨gr, 8, none⟩ = some (.string bn) ∧ w'.cell? ⟨gc, 0, none⟩ = some (.string o) ∧ w'.cell? ⟨gc, 1, none⟩ = some (.string n) ∧ w'.cell? ⟨gc, 2, none⟩ = some (.string who) ∧ w'.cell? ⟨ga, 1, none⟩ = some (.func (.func 84) #[] #[]))
      (first | exact HK.out _ (Below.refl _ _).drew | exact HK.out _ BW.out)
      (first | (go_at_call 84; (refine (HT.out _ HB6.out.drew).mono ?_); rintro er w8 ⟨ht, bb⟩; have BW := hid ((Below.refl w6.heap.size w6).drew.trans bb); have HTP := hid ht; obtain rfl := ht.nil))
    all_goals
      go_wp2_with fail
      go_ret2
      exact ⟨HTP.out.more HB6.out.size, HB6.out.trans (BW.out.mono HB6.out.size)⟩
  | some ps =>
    go_region_held3 (fun w' => w'.cell? ⟨gr, 0, none⟩ = some (.int .i64 d) ∧ w'.cell? ⟨gr, 1, none⟩ = some (.int .i64 q) ∧ w'.cell? ⟨gr, 2, none⟩ = some (.string nm) ∧ w'.cell? ⟨gr, 3, none⟩ = some (.int .i64 1) ∧ w'.cell? ⟨gr, 4, none⟩ = some (.string wh) ∧ w'.cell? ⟨gr, 5, none⟩ = some (.string ao) ∧ w'.cell? ⟨gr, 6, none⟩ = some (.string an) ∧ w'.cell? ⟨gr, 7, none⟩ = some (.string bo) ∧ w'.cell? ⟨gr, 8, none⟩ = some (.string bn) ∧ w'.cell? ⟨gc, 0, none⟩ = some (.string o) ∧ w'.cell? ⟨gc, 1, none⟩ = some (.string n) ∧ w'.cell? ⟨gc, 2, none⟩ = some (.string who) ∧ w'.cell? ⟨ga, 1, none⟩ = some (.func (.func 84) #[] #[]))
      (first | exact HK.out _ (Below.refl _ _).drew | exact HK.out _ BW.out)
      (first | (go_at_call 84; (refine (HT.out _ HB6.out.drew).mono ?_); rintro er w8 ⟨ht, bb⟩; have BW := hid ((Below.refl w6.heap.size w6).drew.trans bb); have HTP := hid ht; obtain ⟨np, A, cA, rfl⟩ := ht.one))
    all_goals
      go_wp2_with fail
      go_ret2
      exact ⟨HTP.out.more HB6.out.size, HB6.out.trans (BW.out.mono HB6.out.size)⟩
set_option maxHeartbeats 8000000 in
set_option maxRecDepth 100000 in
theorem ctry2_any {L : Ly} {vF vL : Value} {col : Col} {x : Sx} {w : World} (h : Sea L w vF vL col x) (hP : ∀ i, i < 16 → L.P (i + 1) = domN i) (c : Crd) (hk : c.kd = 2) (hc : mayC c = true) (p : Pr) (hp : okP p) (hr : p.1 = roleOf c) (m : Nat) (hm : m ≤ 1000000000) :
    Calls Tryd.prog 69 #[.pointer (some ⟨L.sb, 0, none⟩), .agg c.cells.toArray, .agg #[.string p.1.1, .string p.1.2, .string p.2], .int .i64 (m : Int)] w fun e w' => TryP w w' (why c (x.s.lt m) p) e ∧ Below w.heap.size w w' := by
  have HT := hid (fun W (hW : Below w.heap.size w W) => cinclude_any (h.below hW) c hk hc p hp hr m hm)
  obtain ⟨⟨o, n⟩, who⟩ := p
  obtain ⟨ow, how⟩ : ∃ ow, why c (x.s.lt m) ((o, n), who) = ow := ⟨_, rfl⟩
  rw [how] at HT ⊢
  obtain ⟨d, q, nm, kd, wh, ao, an, bo, bn⟩ := c
  simp only at hk
  subst hk
  obtain ⟨sb, hsb⟩ : ∃ sb, L.sb = sb := ⟨_, rfl⟩
  have HSB := hid hsb
  obtain ⟨w1, hw1⟩ : ∃ w1, w1 = w.alloc (.cells (Crd.cells ⟨d, q, nm, 2, wh, ao, an, bo, bn⟩).toArray 55) := ⟨_, rfl⟩
  obtain ⟨w3, hw3⟩ : ∃ w3, w3 = w1.alloc (.cells #[.string o, .string n, .string who] 58) := ⟨_, rfl⟩
  obtain ⟨gr, hgr⟩ : ∃ g, w.heap.size = g := ⟨_, rfl⟩
  obtain ⟨gc, hgc⟩ : ∃ g, gr + 1 = g := ⟨_, rfl⟩
  have hz1 : w1.heap.size = gc := by rw [hw1, World.size_alloc, hgr, hgc]
  have q1 : Below w.heap.size w w1 := by rw [hw1]; exact (Below.refl _ _).alloc (Nat.le_refl _) _
  have q3 : Below w1.heap.size w1 w3 := by rw [hw3]; exact (Below.refl _ _).alloc (Nat.le_refl _) _
  have r1 : CrAt w1 gr ⟨d, q, nm, 2, wh, ao, an, bo, bn⟩ := by rw [hw1, ← hgr]; exact CrAt.new w _
  have HC3 := hid (r1.kept q3)
  have HP3 : Hid (PrA w3 gc o n who) := hid (by rw [hw3, ← hz1]; exact PrA.new w1 _ _ _)
  have HQ3 : Hid (Below w.heap.size w w3) := hid (q1.trans (q3.mono q1.size))
  rw [hsb] at HT ⊢
  clear q1 q3 r1 hr how hz1 h hc hp hm hsb
  unfold Crd.cells at hw1 HT ⊢
  simp only at hw1 HT ⊢
  go_enter Tryd.func69, Tryd.ntmps69
  go_upto_region 1 with fail
  rw [← hw1]
  try rw [hgr]
  rw [← hw3]
  try rw [hgc]
  clear hw1 hw3 hgr hgc
  have sN : ∀ (W : World) (a : Addr) (mo : Mode), (store a .nilFunc mo).run Tryd.prog W = stored Tryd.prog W a .nilFunc mo := fun W a mo => run_store _ W a _ mo rfl
  have sF : ∀ (W : World) (a : Addr) (mo : Mode) f b c, (store a (.func f b c) mo).run Tryd.prog W = stored Tryd.prog W a (.func f b c) mo := fun W a mo f b c => run_store _ W a _ mo rfl
  go_upto_region 2 with fail
  clear sN sF
  obtain ⟨w6, hw6⟩ : ∃ w6, w6 = w3.alloc (.cells #[.nilFunc, .func (.func 84) #[] #[], .func (.func 85) #[] #[], .func (.func 86) #[] #[], .func (.func 87) #[] #[]] 124) := ⟨_, rfl⟩
  obtain ⟨ga, hga⟩ : ∃ g, w3.heap.size = g := ⟨_, rfl⟩
  rw [← hw6]
  try rw [hga]
  have q6 : Below w3.heap.size w3 w6 := by rw [hw6]; exact (Below.refl _ _).alloc (Nat.le_refl _) _
  have f6 : w6.heap[ga]? = some (.cells #[.nilFunc, .func (.func 84) #[] #[], .func (.func 85) #[] #[], .func (.func 86) #[] #[], .func (.func 87) #[] #[]] 124 (0, 0)) := by rw [hw6, ← hga]; exact heap_alloc_new w3 _
  have hga6 : ga < w6.heap.size := (Array.getElem?_eq_some_iff.1 f6).1
  have HB6 := hid (HQ3.out.trans (q6.mono HQ3.out.size))
  have HK := hid (fun W (hW : Below w6.heap.size w6 W) => by
    have k1 := ((HC3.out.kept q6).kept hW).all
    have k2 := ((HP3.out.kept q6).kept hW).all
    exact (⟨k1.1, k1.2.1, k1.2.2.1, k1.2.2.2.1, k1.2.2.2.2.1, k1.2.2.2.2.2.1, k1.2.2.2.2.2.2.1, k1.2.2.2.2.2.2.2.1, k1.2.2.2.2.2.2.2.2, k2.1, k2.2.1, k2.2.2, by rw [cell_of_row W ga 2 _ _ (0, 0) ((hW.block _ hga6).trans f6)]; rfl⟩ : W.cell? ⟨gr, 0, none⟩ = some (.int .i64 d) ∧ W.cell? ⟨gr, 1, none⟩ = some (.int .i64 q) ∧ W.cell? ⟨gr, 2, none⟩ = some (.string nm) ∧ W.cell? ⟨gr, 3, none⟩ = some (.int .i64 2) ∧ W.cell? ⟨gr, 4, none⟩ = some (.string wh) ∧ W.cell? ⟨gr, 5, none⟩ = some (.string ao) ∧ W.cell? ⟨gr, 6, none⟩ = some (.string an) ∧ W.cell? ⟨gr, 7, none⟩ = some (.string bo) ∧ W.cell? ⟨gr, 8, none⟩ = some (.string bn) ∧ W.cell? ⟨gc, 0, none⟩ = some (.string o) ∧ W.cell? ⟨gc, 1, none⟩ = some (.string n) ∧ W.cell? ⟨gc, 2, none⟩ = some (.string who) ∧ W.cell? ⟨ga, 2, none⟩ = some (.func (.func 85) #[] #[])))
  clear hw6 hga q6 f6 hga6
  cases ow with
  | none =>
    go_region_held3 (fun w' => w'.cell? ⟨gr, 0, none⟩ = some (.int .i64 d) ∧ w'.cell? ⟨gr, 1, none⟩ = some (.int .i64 q) ∧ w'.cell? ⟨gr, 2, none⟩ = some (.string nm) ∧ w'.cell? ⟨gr, 3, none⟩ = some (.int .i64 2) ∧ w'.cell? ⟨gr, 4, none⟩ = some (.string wh) ∧ w'.cell? ⟨gr, 5, none⟩ = some (.string ao) ∧ w'.cell? ⟨gr, 6, none⟩ = some (.string an) ∧ w'.cell? ⟨gr, 7, none⟩ = some (.string bo) ∧ w'.cell? ⟨gr, 8, none⟩ = some (.string bn) ∧ w'.cell? ⟨gc, 0, none⟩ = some (.string o) ∧ w'.cell? ⟨gc, 1, none⟩ = some (.string n) ∧ w'.cell? ⟨gc, 2, none⟩ = some (.string who) ∧ w'.cell? ⟨ga, 2, none⟩ = some (.func (.func 85) #[] #[]))
      (first | exact HK.out _ (Below.refl _ _).drew | exact HK.out _ BW.out)
      (first | (go_at_call 85; (refine (HT.out _ HB6.out.drew).mono ?_); rintro er w8 ⟨ht, bb⟩; have BW := hid ((Below.refl w6.heap.size w6).drew.trans bb); have HTP := hid ht; obtain rfl := ht.nil))
    all_goals
      go_wp2_with fail
      go_ret2
      exact ⟨HTP.out.more HB6.out.size, HB6.out.trans (BW.out.mono HB6.out.size)⟩
  | some ps =>
    go_region_held3 (fun w' => w'.cell? ⟨gr, 0, none⟩ = some (.int .i64 d) ∧ w'.cell? ⟨gr, 1, none⟩ = some (.int .i64 q) ∧ w'.cell? ⟨gr, 2, none⟩ = some (.string nm) ∧ w'.cell? ⟨gr, 3, none⟩ = some (.int .i64 2) ∧ w'.cell? ⟨gr, 4, none⟩ = some (.string wh) ∧ w'.cell? ⟨gr, 5, none⟩ = some (.string ao) ∧ w'.cell? ⟨gr, 6, none⟩ = some (.string an) ∧ w'.cell? ⟨gr, 7, none⟩ = some (.string bo) ∧ w'.cell? ⟨gr, 8, none⟩ = some (.string bn) ∧ w'.cell? ⟨gc, 0, none⟩ = some (.string o) ∧ w'.cell? ⟨gc, 1, none⟩ = some (.string n) ∧ w'.cell? ⟨gc, 2, none⟩ = some (.string who) ∧ w'.cell? ⟨ga, 2, none⟩ = some (.func (.func 85) #[] #[]))
      (first | exact HK.out _ (Below.refl _ _).drew | exact HK.out _ BW.out)
      (first | (go_at_call 85; (refine (HT.out _ HB6.out.drew).mono ?_); rintro er w8 ⟨ht, bb⟩; have BW := hid ((Below.refl w6.heap.size w6).drew.trans bb); have HTP := hid ht; obtain ⟨np, A, cA, rfl⟩ := ht.one))
    all_goals
      go_wp2_with fail
      go_ret2
      exact ⟨HTP.out.more HB6.out.size, HB6.out.trans (BW.out.mono HB6.out.size)⟩
set_option maxHeartbeats 8000000 in
set_option maxRecDepth 100000 in
theorem ctry3_any {L : Ly} {vF vL : Value} {col : Col} {x : Sx} {w : World} (h : Sea L w vF vL col x) (hP : ∀ i, i < 16 → L.P (i + 1) = domN i) (c : Crd) (hk : c.kd = 3) (hc : mayC c = true) (p : Pr) (hp : okP p) (hr : p.1 = roleOf c) (m : Nat) (hm : m ≤ 1000000000) :
    Calls Tryd.prog 69 #[.pointer (some ⟨L.sb, 0, none⟩), .agg c.cells.toArray, .agg #[.string p.1.1, .string p.1.2, .string p.2], .int .i64 (m : Int)] w fun e w' => TryP w w' (why c (x.s.lt m) p) e ∧ Below w.heap.size w w' := by
  have HT := hid (fun W (hW : Below w.heap.size w W) => clink_any (h.below hW) hP c hk hc p hp hr m hm)
  obtain ⟨⟨o, n⟩, who⟩ := p
  obtain ⟨ow, how⟩ : ∃ ow, why c (x.s.lt m) ((o, n), who) = ow := ⟨_, rfl⟩
  rw [how] at HT ⊢
  obtain ⟨d, q, nm, kd, wh, ao, an, bo, bn⟩ := c
  simp only at hk
  subst hk
  obtain ⟨sb, hsb⟩ : ∃ sb, L.sb = sb := ⟨_, rfl⟩
  have HSB := hid hsb
  obtain ⟨w1, hw1⟩ : ∃ w1, w1 = w.alloc (.cells (Crd.cells ⟨d, q, nm, 3, wh, ao, an, bo, bn⟩).toArray 55) := ⟨_, rfl⟩
  obtain ⟨w3, hw3⟩ : ∃ w3, w3 = w1.alloc (.cells #[.string o, .string n, .string who] 58) := ⟨_, rfl⟩
  obtain ⟨gr, hgr⟩ : ∃ g, w.heap.size = g := ⟨_, rfl⟩
  obtain ⟨gc, hgc⟩ : ∃ g, gr + 1 = g := ⟨_, rfl⟩
  have hz1 : w1.heap.size = gc := by rw [hw1, World.size_alloc, hgr, hgc]
  have q1 : Below w.heap.size w w1 := by rw [hw1]; exact (Below.refl _ _).alloc (Nat.le_refl _) _
  have q3 : Below w1.heap.size w1 w3 := by rw [hw3]; exact (Below.refl _ _).alloc (Nat.le_refl _) _
  have r1 : CrAt w1 gr ⟨d, q, nm, 3, wh, ao, an, bo, bn⟩ := by rw [hw1, ← hgr]; exact CrAt.new w _
  have HC3 := hid (r1.kept q3)
  have HP3 : Hid (PrA w3 gc o n who) := hid (by rw [hw3, ← hz1]; exact PrA.new w1 _ _ _)
  have HQ3 : Hid (Below w.heap.size w w3) := hid (q1.trans (q3.mono q1.size))
  rw [hsb] at HT ⊢
  clear q1 q3 r1 hr how hz1 h hc hp hm hsb
  unfold Crd.cells at hw1 HT ⊢
  simp only at hw1 HT ⊢
  go_enter Tryd.func69, Tryd.ntmps69
  go_upto_region 1 with fail
  rw [← hw1]
  try rw [hgr]
  rw [← hw3]
  try rw [hgc]
  clear hw1 hw3 hgr hgc
  have sN : ∀ (W : World) (a : Addr) (mo : Mode), (store a .nilFunc mo).run Tryd.prog W = stored Tryd.prog W a .nilFunc mo := fun W a mo => run_store _ W a _ mo rfl
  have sF : ∀ (W : World) (a : Addr) (mo : Mode) f b c, (store a (.func f b c) mo).run Tryd.prog W = stored Tryd.prog W a (.func f b c) mo := fun W a mo f b c => run_store _ W a _ mo rfl
  go_upto_region 2 with fail
  clear sN sF
  obtain ⟨w6, hw6⟩ : ∃ w6, w6 = w3.alloc (.cells #[.nilFunc, .func (.func 84) #[] #[], .func (.func 85) #[] #[], .func (.func 86) #[] #[], .func (.func 87) #[] #[]] 124) := ⟨_, rfl⟩
  obtain ⟨ga, hga⟩ : ∃ g, w3.heap.size = g := ⟨_, rfl⟩
  rw [← hw6]
  try rw [hga]
  have q6 : Below w3.heap.size w3 w6 := by rw [hw6]; exact (Below.refl _ _).alloc (Nat.le_refl _) _
  have f6 : w6.heap[ga]? = some (.cells #[.nilFunc, .func (.func 84) #[] #[], .func (.func 85) #[] #[], .func (.func 86) #[] #[], .func (.func 87) #[] #[]] 124 (0, 0)) := by rw [hw6, ← hga]; exact heap_alloc_new w3 _
  have hga6 : ga < w6.heap.size := (Array.getElem?_eq_some_iff.1 f6).1
  have HB6 := hid (HQ3.out.trans (q6.mono HQ3.out.size))
  have HK := hid (fun W (hW : Below w6.heap.size w6 W) => by
    have k1 := ((HC3.out.kept q6).kept hW).all
    have k2 := ((HP3.out.kept q6).kept hW).all
    exact (⟨k1.1, k1.2.1, k1.2.2.1, k1.2.2.2.1, k1.2.2.2.2.1, k1.2.2.2.2.2.1, k1.2.2.2.2.2.2.1, k1.2.2.2.2.2.2.2.1, k1.2.2.2.2.2.2.2.2, k2.1, k2.2.1, k2.2.2, by rw [cell_of_row W ga 3 _ _ (0, 0) ((hW.block _ hga6).trans f6)]; rfl⟩ : W.cell? ⟨gr, 0, none⟩ = some (.int .i64 d) ∧ W.cell? ⟨gr, 1, none⟩ = some (.int .i64 q) ∧ W.cell? ⟨gr, 2, none⟩ = some (.string nm) ∧ W.cell? ⟨gr, 3, none⟩ = some (.int .i64 3) ∧ W.cell? ⟨gr, 4, none⟩ = some (.string wh) ∧ W.cell? ⟨gr, 5, none⟩ = some (.string ao) ∧ W.cell? ⟨gr, 6, none⟩ = some (.string an) ∧ W.cell? ⟨gr, 7, none⟩ = some (.string bo) ∧ W.cell? ⟨gr, 8, none⟩ = some (.string bn) ∧ W.cell? ⟨gc, 0, none⟩ = some (.string o) ∧ W.cell? ⟨gc, 1, none⟩ = some (.string n) ∧ W.cell? ⟨gc, 2, none⟩ = some (.string who) ∧ W.cell? ⟨ga, 3, none⟩ = some (.func (.func 86) #[] #[])))
  clear hw6 hga q6 f6 hga6
  cases ow with
  | none =>
    go_region_held3 (fun w' => w'.cell? ⟨gr, 0, none⟩ = some (.int .i64 d) ∧ w'.cell? ⟨gr, 1, none⟩ = some (.int .i64 q) ∧ w'.cell? ⟨gr, 2, none⟩ = some (.string nm) ∧ w'.cell? ⟨gr, 3, none⟩ = some (.int .i64 3) ∧ w'.cell? ⟨gr, 4, none⟩ = some (.string wh) ∧ w'.cell? ⟨gr, 5, none⟩ = some (.string ao) ∧ w'.cell? ⟨gr, 6, none⟩ = some (.string an) ∧ w'.cell? ⟨gr, 7, none⟩ = some (.string bo) ∧ w'.cell? ⟨gr, 8, none⟩ = some (.string bn) ∧ w'.cell? ⟨gc, 0, none⟩ = some (.string o) ∧ w'.cell? ⟨gc, 1, none⟩ = some (.string n) ∧ w'.cell? ⟨gc, 2, none⟩ = some (.string who) ∧ w'.cell? ⟨ga, 3, none⟩ = some (.func (.func 86) #[] #[]))
      (first | exact HK.out _ (Below.refl _ _).drew | exact HK.out _ BW.out)
      (first | (go_at_call 86; (refine (HT.out _ HB6.out.drew).mono ?_); rintro er w8 ⟨ht, bb⟩; have BW := hid ((Below.refl w6.heap.size w6).drew.trans bb); have HTP := hid ht; obtain rfl := ht.nil))
    all_goals
      go_wp2_with fail
      go_ret2
      exact ⟨HTP.out.more HB6.out.size, HB6.out.trans (BW.out.mono HB6.out.size)⟩
  | some ps =>
    go_region_held3 (fun w' => w'.cell? ⟨gr, 0, none⟩ = some (.int .i64 d) ∧ w'.cell? ⟨gr, 1, none⟩ = some (.int .i64 q) ∧ w'.cell? ⟨gr, 2, none⟩ = some (.string nm) ∧ w'.cell? ⟨gr, 3, none⟩ = some (.int .i64 3) ∧ w'.cell? ⟨gr, 4, none⟩ = some (.string wh) ∧ w'.cell? ⟨gr, 5, none⟩ = some (.string ao) ∧ w'.cell? ⟨gr, 6, none⟩ = some (.string an) ∧ w'.cell? ⟨gr, 7, none⟩ = some (.string bo) ∧ w'.cell? ⟨gr, 8, none⟩ = some (.string bn) ∧ w'.cell? ⟨gc, 0, none⟩ = some (.string o) ∧ w'.cell? ⟨gc, 1, none⟩ = some (.string n) ∧ w'.cell? ⟨gc, 2, none⟩ = some (.string who) ∧ w'.cell? ⟨ga, 3, none⟩ = some (.func (.func 86) #[] #[]))
      (first | exact HK.out _ (Below.refl _ _).drew | exact HK.out _ BW.out)
      (first | (go_at_call 86; (refine (HT.out _ HB6.out.drew).mono ?_); rintro er w8 ⟨ht, bb⟩; have BW := hid ((Below.refl w6.heap.size w6).drew.trans bb); have HTP := hid ht; obtain ⟨np, A, cA, rfl⟩ := ht.one))
    all_goals
      go_wp2_with fail
      go_ret2
      exact ⟨HTP.out.more HB6.out.size, HB6.out.trans (BW.out.mono HB6.out.size)⟩
set_option maxHeartbeats 8000000 in
set_option maxRecDepth 100000 in
theorem ctry4_any {L : Ly} {vF vL : Value} {col : Col} {x : Sx} {w : World} (h : Sea L w vF vL col x) (hP : ∀ i, i < 16 → L.P (i + 1) = domN i) (c : Crd) (hk : c.kd = 4) (hc : mayC c = true) (p : Pr) (hp : okP p) (hr : p.1 = roleOf c) (m : Nat) (hm : m ≤ 1000000000) :
    Calls Tryd.prog 69 #[.pointer (some ⟨L.sb, 0, none⟩), .agg c.cells.toArray, .agg #[.string p.1.1, .string p.1.2, .string p.2], .int .i64 (m : Int)] w fun e w' => TryP w w' (why c (x.s.lt m) p) e ∧ Below w.heap.size w w' := by
  have HT := hid (fun W (hW : Below w.heap.size w W) => cboth_any (h.below hW) c hk hc p hp hr m hm)
  obtain ⟨⟨o, n⟩, who⟩ := p
  obtain ⟨ow, how⟩ : ∃ ow, why c (x.s.lt m) ((o, n), who) = ow := ⟨_, rfl⟩
  rw [how] at HT ⊢
  obtain ⟨d, q, nm, kd, wh, ao, an, bo, bn⟩ := c
  simp only at hk
  subst hk
  obtain ⟨sb, hsb⟩ : ∃ sb, L.sb = sb := ⟨_, rfl⟩
  have HSB := hid hsb
  obtain ⟨w1, hw1⟩ : ∃ w1, w1 = w.alloc (.cells (Crd.cells ⟨d, q, nm, 4, wh, ao, an, bo, bn⟩).toArray 55) := ⟨_, rfl⟩
  obtain ⟨w3, hw3⟩ : ∃ w3, w3 = w1.alloc (.cells #[.string o, .string n, .string who] 58) := ⟨_, rfl⟩
  obtain ⟨gr, hgr⟩ : ∃ g, w.heap.size = g := ⟨_, rfl⟩
  obtain ⟨gc, hgc⟩ : ∃ g, gr + 1 = g := ⟨_, rfl⟩
  have hz1 : w1.heap.size = gc := by rw [hw1, World.size_alloc, hgr, hgc]
  have q1 : Below w.heap.size w w1 := by rw [hw1]; exact (Below.refl _ _).alloc (Nat.le_refl _) _
  have q3 : Below w1.heap.size w1 w3 := by rw [hw3]; exact (Below.refl _ _).alloc (Nat.le_refl _) _
  have r1 : CrAt w1 gr ⟨d, q, nm, 4, wh, ao, an, bo, bn⟩ := by rw [hw1, ← hgr]; exact CrAt.new w _
  have HC3 := hid (r1.kept q3)
  have HP3 : Hid (PrA w3 gc o n who) := hid (by rw [hw3, ← hz1]; exact PrA.new w1 _ _ _)
  have HQ3 : Hid (Below w.heap.size w w3) := hid (q1.trans (q3.mono q1.size))
  rw [hsb] at HT ⊢
  clear q1 q3 r1 hr how hz1 h hc hp hm hsb
  unfold Crd.cells at hw1 HT ⊢
  simp only at hw1 HT ⊢
  go_enter Tryd.func69, Tryd.ntmps69
  go_upto_region 1 with fail
  rw [← hw1]
  try rw [hgr]
  rw [← hw3]
  try rw [hgc]
  clear hw1 hw3 hgr hgc
  have sN : ∀ (W : World) (a : Addr) (mo : Mode), (store a .nilFunc mo).run Tryd.prog W = stored Tryd.prog W a .nilFunc mo := fun W a mo => run_store _ W a _ mo rfl
  have sF : ∀ (W : World) (a : Addr) (mo : Mode) f b c, (store a (.func f b c) mo).run Tryd.prog W = stored Tryd.prog W a (.func f b c) mo := fun W a mo f b c => run_store _ W a _ mo rfl
  go_upto_region 2 with fail
  clear sN sF
  obtain ⟨w6, hw6⟩ : ∃ w6, w6 = w3.alloc (.cells #[.nilFunc, .func (.func 84) #[] #[], .func (.func 85) #[] #[], .func (.func 86) #[] #[], .func (.func 87) #[] #[]] 124) := ⟨_, rfl⟩
  obtain ⟨ga, hga⟩ : ∃ g, w3.heap.size = g := ⟨_, rfl⟩
  rw [← hw6]
  try rw [hga]
  have q6 : Below w3.heap.size w3 w6 := by rw [hw6]; exact (Below.refl _ _).alloc (Nat.le_refl _) _
  have f6 : w6.heap[ga]? = some (.cells #[.nilFunc, .func (.func 84) #[] #[], .func (.func 85) #[] #[], .func (.func 86) #[] #[], .func (.func 87) #[] #[]] 124 (0, 0)) := by rw [hw6, ← hga]; exact heap_alloc_new w3 _
  have hga6 : ga < w6.heap.size := (Array.getElem?_eq_some_iff.1 f6).1
  have HB6 := hid (HQ3.out.trans (q6.mono HQ3.out.size))
  have HK := hid (fun W (hW : Below w6.heap.size w6 W) => by
    have k1 := ((HC3.out.kept q6).kept hW).all
    have k2 := ((HP3.out.kept q6).kept hW).all
    exact (⟨k1.1, k1.2.1, k1.2.2.1, k1.2.2.2.1, k1.2.2.2.2.1, k1.2.2.2.2.2.1, k1.2.2.2.2.2.2.1, k1.2.2.2.2.2.2.2.1, k1.2.2.2.2.2.2.2.2, k2.1, k2.2.1, k2.2.2, by rw [cell_of_row W ga 4 _ _ (0, 0) ((hW.block _ hga6).trans f6)]; rfl⟩ : W.cell? ⟨gr, 0, none⟩ = some (.int .i64 d) ∧ W.cell? ⟨gr, 1, none⟩ = some (.int .i64 q) ∧ W.cell? ⟨gr, 2, none⟩ = some (.string nm) ∧ W.cell? ⟨gr, 3, none⟩ = some (.int .i64 4) ∧ W.cell? ⟨gr, 4, none⟩ = some (.string wh) ∧ W.cell? ⟨gr, 5, none⟩ = some (.string ao) ∧ W.cell? ⟨gr, 6, none⟩ = some (.string an) ∧ W.cell? ⟨gr, 7, none⟩ = some (.string bo) ∧ W.cell? ⟨gr, 8, none⟩ = some (.string bn) ∧ W.cell? ⟨gc, 0, none⟩ = some (.string o) ∧ W.cell? ⟨gc, 1, none⟩ = some (.string n) ∧ W.cell? ⟨gc, 2, none⟩ = some (.string who) ∧ W.cell? ⟨ga, 4, none⟩ = some (.func (.func 87) #[] #[])))
  clear hw6 hga q6 f6 hga6
  cases ow with
  | none =>
    go_region_held3 (fun w' => w'.cell? ⟨gr, 0, none⟩ = some (.int .i64 d) ∧ w'.cell? ⟨gr, 1, none⟩ = some (.int .i64 q) ∧ w'.cell? ⟨gr, 2, none⟩ = some (.string nm) ∧ w'.cell? ⟨gr, 3, none⟩ = some (.int .i64 4) ∧ w'.cell? ⟨gr, 4, none⟩ = some (.string wh) ∧ w'.cell? ⟨gr, 5, none⟩ = some (.string ao) ∧ w'.cell? ⟨gr, 6, none⟩ = some (.string an) ∧ w'.cell? ⟨gr, 7, none⟩ = some (.string bo) ∧ w'.cell? ⟨gr, 8, none⟩ = some (.string bn) ∧ w'.cell? ⟨gc, 0, none⟩ = some (.string o) ∧ w'.cell? ⟨gc, 1, none⟩ = some (.string n) ∧ w'.cell? ⟨gc, 2, none⟩ = some (.string who) ∧ w'.cell? ⟨ga, 4, none⟩ = some (.func (.func 87) #[] #[]))
      (first | exact HK.out _ (Below.refl _ _).drew | exact HK.out _ BW.out)
      (first | (go_at_call 87; (refine (HT.out _ HB6.out.drew).mono ?_); rintro er w8 ⟨ht, bb⟩; have BW := hid ((Below.refl w6.heap.size w6).drew.trans bb); have HTP := hid ht; obtain rfl := ht.nil))
    all_goals
      go_wp2_with fail
      go_ret2
      exact ⟨HTP.out.more HB6.out.size, HB6.out.trans (BW.out.mono HB6.out.size)⟩
  | some ps =>
    go_region_held3 (fun w' => w'.cell? ⟨gr, 0, none⟩ = some (.int .i64 d) ∧ w'.cell? ⟨gr, 1, none⟩ = some (.int .i64 q) ∧ w'.cell? ⟨gr, 2, none⟩ = some (.string nm) ∧ w'.cell? ⟨gr, 3, none⟩ = some (.int .i64 4) ∧ w'.cell? ⟨gr, 4, none⟩ = some (.string wh) ∧ w'.cell? ⟨gr, 5, none⟩ = some (.string ao) ∧ w'.cell? ⟨gr, 6, none⟩ = some (.string an) ∧ w'.cell? ⟨gr, 7, none⟩ = some (.string bo) ∧ w'.cell? ⟨gr, 8, none⟩ = some (.string bn) ∧ w'.cell? ⟨gc, 0, none⟩ = some (.string o) ∧ w'.cell? ⟨gc, 1, none⟩ = some (.string n) ∧ w'.cell? ⟨gc, 2, none⟩ = some (.string who) ∧ w'.cell? ⟨ga, 4, none⟩ = some (.func (.func 87) #[] #[]))
      (first | exact HK.out _ (Below.refl _ _).drew | exact HK.out _ BW.out)
      (first | (go_at_call 87; (refine (HT.out _ HB6.out.drew).mono ?_); rintro er w8 ⟨ht, bb⟩; have BW := hid ((Below.refl w6.heap.size w6).drew.trans bb); have HTP := hid ht; obtain ⟨np, A, cA, rfl⟩ := ht.one))
    all_goals
      go_wp2_with fail
      go_ret2
      exact ⟨HTP.out.more HB6.out.size, HB6.out.trans (BW.out.mono HB6.out.size)⟩
theorem ctry_any {L : Ly} {vF vL : Value} {col : Col} {x : Sx} {w : World} (h : Sea L w vF vL col x) (hP : ∀ i, i < 16 → L.P (i + 1) = domN i) (c : Crd) (hc : mayC c = true) (p : Pr) (hp : okP p) (hr : p.1 = roleOf c) (m : Nat) (hm : m ≤ 1000000000) :
    Calls Tryd.prog 69 #[.pointer (some ⟨L.sb, 0, none⟩), .agg c.cells.toArray, .agg #[.string p.1.1, .string p.1.2, .string p.2], .int .i64 (m : Int)] w fun e w' => TryP w w' (why c (x.s.lt m) p) e ∧ Below w.heap.size w w' := by
  rcases (may_kd hc).1 with hk | hk | hk | hk
  · exact ctry1_any h hP c hk hc p hp hr m hm
  · exact ctry2_any h hP c hk hc p hp hr m hm
  · exact ctry3_any h hP c hk hc p hp hr m hm
  · exact ctry4_any h hP c hk hc p hp hr m hm
end Go.Proofs.YtoajckhnneagnaaDoor.Sh
