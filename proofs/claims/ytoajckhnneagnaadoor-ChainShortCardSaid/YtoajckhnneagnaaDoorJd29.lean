/-
  The search's include and both, by contract.
-/
import Derived.Test.YtoajckhnneagnaaDoorJd28
import Derived.Deep.Cut
set_option linter.unusedVariables false
set_option linter.unusedSimpArgs false
namespace Go.Proofs.YtoajckhnneagnaaDoor.Sh
open Go Go.RowKit
open Go.Maps (Keyed)

set_option linter.unusedVariables false
set_option linter.unusedSimpArgs false
theorem ahead_yes {L : Ly} {vF vL : Value} {col : Col} {x : Sx} {w : World} (h : Sea L w vF vL col x) (m : Nat) (hm : m ≤ 1000000000) (A : Option Addr) (ps : List Pr) (np c : Nat) (hn : ps.length = np) (hnp : np ≤ 10) (he : Els encP w w.heap.size A ps) (hok : ∀ q ∈ ps, okP q) (hT : ∀ q ∈ ps, x.s.lt m q) :
    Calls Tryd.prog 83 #[.pointer (some ⟨L.sb, 0, none⟩), .int .i64 (m : Int), .slice A np c] w fun e w' => e = .returned (.tuple #[.slice A np c, .bool true]) ∧ Below w.heap.size w w' :=
  ahead_any h m hm A ps np c hn hnp he hok true ⟨fun _ => hT, fun _ => rfl⟩
theorem ahead_no {L : Ly} {vF vL : Value} {col : Col} {x : Sx} {w : World} (h : Sea L w vF vL col x) (m : Nat) (hm : m ≤ 1000000000) (A : Option Addr) (ps : List Pr) (np c : Nat) (hn : ps.length = np) (hnp : np ≤ 10) (he : Els encP w w.heap.size A ps) (hok : ∀ q ∈ ps, okP q) (hT : ¬ ∀ q ∈ ps, x.s.lt m q) :
    Calls Tryd.prog 83 #[.pointer (some ⟨L.sb, 0, none⟩), .int .i64 (m : Int), .slice A np c] w fun e w' => e = .returned (.tuple #[.slice none 0 0, .bool false]) ∧ Below w.heap.size w w' :=
  ahead_any h m hm A ps np c hn hnp he hok false ⟨fun e => Bool.noConfusion e, fun e => absurd e hT⟩
set_option maxHeartbeats 8000000 in
set_option maxRecDepth 100000 in
theorem cinclude_any {L : Ly} {vF vL : Value} {col : Col} {x : Sx} {w : World} (h : Sea L w vF vL col x) (c : Crd) (hk : c.kd = 2) (hc : mayC c = true) (p : Pr) (hp : okP p) (hr : p.1 = roleOf c) (m : Nat) (hm : m ≤ 1000000000) :
    Calls Tryd.prog 85 #[.pointer (some ⟨L.sb, 0, none⟩), .agg c.cells.toArray, .agg #[.string p.1.1, .string p.1.2, .string p.2], .int .i64 (m : Int)] w fun e w' => TryP w w' (why c (x.s.lt m) p) e ∧ Below w.heap.size w w' := by
  obtain ⟨⟨o, n⟩, who⟩ := p
  have HY := hid (fun (e : x.s.lt m ((c.ao, c.an), who)) => show why c (x.s.lt m) ((o, n), who) = some [((c.ao, c.an), who)] from why_iff.2 ⟨hr, .inr (.inl ⟨hk, e, rfl⟩)⟩)
  have HN := hid (fun (e : ¬ (x.s.lt m ((c.ao, c.an), who))) => show why c (x.s.lt m) ((o, n), who) = none from why_none.2 (fun hd => by
    rcases hd.2 with h1 | h1 | h1 | h1
    · omega
    · exact e h1.2
    · omega
    · omega))
  obtain ⟨ow, how⟩ : ∃ ow, why c (x.s.lt m) ((o, n), who) = ow := ⟨_, rfl⟩
  rw [how] at HY HN ⊢
  have HOC := hid (okC_of hc)
  have HOW : Hid (okB who) := hid hp.2
  have HS := hid (fun W (hW : Below w.heap.size w W) => h.below hW)
  have HM : Hid (m ≤ 1000000000) := hid hm
  obtain ⟨d, q, nm, kd, wh, ao, an, bo, bn⟩ := c
  simp only at hk
  subst hk
  obtain ⟨sb, hsb⟩ : ∃ sb, L.sb = sb := ⟨_, rfl⟩
  have HSB := hid hsb
  obtain ⟨w1, hw1⟩ : ∃ w1, w1 = w.alloc (.cells (Crd.cells ⟨d, q, nm, 2, wh, ao, an, bo, bn⟩).toArray 55) := ⟨_, rfl⟩
  obtain ⟨w3, hw3⟩ : ∃ w3, w3 = w1.alloc (.cells #[.string o, .string n, .string who] 58) := ⟨_, rfl⟩
  obtain ⟨gr, hgr⟩ : ∃ g, w.heap.size = g := ⟨_, rfl⟩
  obtain ⟨gc, hgc⟩ : ∃ g, gr + 1 = g := ⟨_, rfl⟩
  have hz1 : w1.heap.size = gc := by rw [hw1, World.size_alloc, hgr, hgc]
  have q1 : Below w.heap.size w w1 := by rw [hw1]; exact (Below.refl _ _).alloc (Nat.le_refl _) _
  have q3 : Below w1.heap.size w1 w3 := by rw [hw3]; exact (Below.refl _ _).alloc (Nat.le_refl _) _
  have r1 : CrAt w1 gr ⟨d, q, nm, 2, wh, ao, an, bo, bn⟩ := by rw [hw1, ← hgr]; exact CrAt.new w _
  have HC3 := hid (r1.kept q3)
  have HP3 : Hid (PrA w3 gc o n who) := hid (by rw [hw3, ← hz1]; exact PrA.new w1 _ _ _)
  have HQ3 : Hid (Below w.heap.size w w3) := hid (q1.trans (q3.mono q1.size))
  rw [hsb]
  clear q1 q3 r1 hr how hz1 h hc hp hm hsb
  unfold Crd.cells at hw1 ⊢
  simp only at hw1 ⊢
  have HB4 := hid (HQ3.out.alloc HQ3.out.size (.cells #[.string ao, .string an, .string who] 58))
  have HE4 := hid (els_one w3 ao an who 58)
  by_cases hx : x.s.lt m ((ao, an), who)
  · have HA := hid (ahead_yes (HS.out _ HB4.out) m HM.out (some ⟨w3.heap.size, 0, none⟩) [((ao, an), who)] 1 1 rfl (by omega) HE4.out (fun q hq => by rw [List.mem_singleton] at hq; subst hq; exact ⟨⟨HOC.out.2.2.1, HOC.out.2.2.2.1⟩, HOW.out⟩) (fun q hq => by rw [List.mem_singleton] at hq; subst hq; exact hx))
    rw [HSB.out] at HA
    have HX := hid hx
    clear hx
    go_enter Tryd.func85, Tryd.ntmps85
    go_upto_region 1 with fail
    rw [← hw1]
    try rw [hgr]
    rw [← hw3]
    try rw [hgc]
    clear hw1 hw3 hgr hgc
    obtain ⟨a0, a1, a2, a3, a4, a5, a6, a7, a8⟩ := HC3.out.all
    obtain ⟨p0, p1, p2⟩ := HP3.out.all
    go_wp2_with (go_at_call 83; (refine HA.out.mono ?_); rintro er w5 ⟨rfl, bb⟩)
    go_ret2
    exact ⟨.inr ⟨_, 1, _, 1, HY.out HX.out, rfl, rfl, by omega, by omega, by omega, (HE4.out.below bb).more bb.size, fun ad e _ => by cases e; exact HQ3.out.size⟩, HB4.out.trans (bb.mono HB4.out.size)⟩
  · have HA := hid (ahead_no (HS.out _ HB4.out) m HM.out (some ⟨w3.heap.size, 0, none⟩) [((ao, an), who)] 1 1 rfl (by omega) HE4.out (fun q hq => by rw [List.mem_singleton] at hq; subst hq; exact ⟨⟨HOC.out.2.2.1, HOC.out.2.2.2.1⟩, HOW.out⟩) (fun e => hx (e _ (by simp))))
    rw [HSB.out] at HA
    have HX := hid hx
    clear hx
    go_enter Tryd.func85, Tryd.ntmps85
    go_upto_region 1 with fail
    rw [← hw1]
    try rw [hgr]
    rw [← hw3]
    try rw [hgc]
    clear hw1 hw3 hgr hgc
    obtain ⟨a0, a1, a2, a3, a4, a5, a6, a7, a8⟩ := HC3.out.all
    obtain ⟨p0, p1, p2⟩ := HP3.out.all
    go_wp2_with (go_at_call 83; (refine HA.out.mono ?_); rintro er w5 ⟨rfl, bb⟩)
    go_ret2
    exact ⟨.inl ⟨HN.out HX.out, rfl⟩, HB4.out.trans (bb.mono HB4.out.size)⟩
set_option maxHeartbeats 8000000 in
set_option maxRecDepth 100000 in
theorem cboth_any {L : Ly} {vF vL : Value} {col : Col} {x : Sx} {w : World} (h : Sea L w vF vL col x) (c : Crd) (hk : c.kd = 4) (hc : mayC c = true) (p : Pr) (hp : okP p) (hr : p.1 = roleOf c) (m : Nat) (hm : m ≤ 1000000000) :
    Calls Tryd.prog 87 #[.pointer (some ⟨L.sb, 0, none⟩), .agg c.cells.toArray, .agg #[.string p.1.1, .string p.1.2, .string p.2], .int .i64 (m : Int)] w fun e w' => TryP w w' (why c (x.s.lt m) p) e ∧ Below w.heap.size w w' := by
  obtain ⟨⟨o, n⟩, who⟩ := p
  have HY := hid (fun (e : x.s.lt m ((c.ao, c.an), who) ∧ x.s.lt m ((c.bo, c.bn), who)) => show why c (x.s.lt m) ((o, n), who) = some [((c.ao, c.an), who), ((c.bo, c.bn), who)] from why_iff.2 ⟨hr, .inr (.inr (.inr ⟨hk, e.1, e.2, rfl⟩))⟩)
  have HN := hid (fun (e : ¬ (x.s.lt m ((c.ao, c.an), who) ∧ x.s.lt m ((c.bo, c.bn), who))) => show why c (x.s.lt m) ((o, n), who) = none from why_none.2 (fun hd => by
    rcases hd.2 with h1 | h1 | h1 | h1
    · omega
    · omega
    · omega
    · exact e h1.2))
  obtain ⟨ow, how⟩ : ∃ ow, why c (x.s.lt m) ((o, n), who) = ow := ⟨_, rfl⟩
  rw [how] at HY HN ⊢
  have HOC := hid (okC_of hc)
  have HOW : Hid (okB who) := hid hp.2
  have HS := hid (fun W (hW : Below w.heap.size w W) => h.below hW)
  have HM : Hid (m ≤ 1000000000) := hid hm
  obtain ⟨d, q, nm, kd, wh, ao, an, bo, bn⟩ := c
  simp only at hk
  subst hk
  obtain ⟨sb, hsb⟩ : ∃ sb, L.sb = sb := ⟨_, rfl⟩
  have HSB := hid hsb
  obtain ⟨w1, hw1⟩ : ∃ w1, w1 = w.alloc (.cells (Crd.cells ⟨d, q, nm, 4, wh, ao, an, bo, bn⟩).toArray 55) := ⟨_, rfl⟩
  obtain ⟨w3, hw3⟩ : ∃ w3, w3 = w1.alloc (.cells #[.string o, .string n, .string who] 58) := ⟨_, rfl⟩
  obtain ⟨gr, hgr⟩ : ∃ g, w.heap.size = g := ⟨_, rfl⟩
  obtain ⟨gc, hgc⟩ : ∃ g, gr + 1 = g := ⟨_, rfl⟩
  have hz1 : w1.heap.size = gc := by rw [hw1, World.size_alloc, hgr, hgc]
  have q1 : Below w.heap.size w w1 := by rw [hw1]; exact (Below.refl _ _).alloc (Nat.le_refl _) _
  have q3 : Below w1.heap.size w1 w3 := by rw [hw3]; exact (Below.refl _ _).alloc (Nat.le_refl _) _
  have r1 : CrAt w1 gr ⟨d, q, nm, 4, wh, ao, an, bo, bn⟩ := by rw [hw1, ← hgr]; exact CrAt.new w _
  have HC3 := hid (r1.kept q3)
  have HP3 : Hid (PrA w3 gc o n who) := hid (by rw [hw3, ← hz1]; exact PrA.new w1 _ _ _)
  have HQ3 : Hid (Below w.heap.size w w3) := hid (q1.trans (q3.mono q1.size))
  rw [hsb]
  clear q1 q3 r1 hr how hz1 h hc hp hm hsb
  unfold Crd.cells at hw1 ⊢
  simp only at hw1 ⊢
  have HB4 := hid (HQ3.out.alloc HQ3.out.size (.cells #[.string ao, .string an, .string who, .string bo, .string bn, .string who] 58))
  have HE4 := hid (els_two w3 ao an who bo bn who 58)
  by_cases hx : x.s.lt m ((ao, an), who) ∧ x.s.lt m ((bo, bn), who)
  · have HA := hid (ahead_yes (HS.out _ HB4.out) m HM.out (some ⟨w3.heap.size, 0, none⟩) [((ao, an), who), ((bo, bn), who)] 2 2 rfl (by omega) HE4.out (fun q hq => by simp only [List.mem_cons, List.not_mem_nil, or_false] at hq; rcases hq with rfl | rfl; exact ⟨⟨HOC.out.2.2.1, HOC.out.2.2.2.1⟩, HOW.out⟩; exact ⟨⟨HOC.out.2.2.2.2.1, HOC.out.2.2.2.2.2⟩, HOW.out⟩) (fun q hq => by simp only [List.mem_cons, List.not_mem_nil, or_false] at hq; rcases hq with rfl | rfl; exact hx.1; exact hx.2))
    rw [HSB.out] at HA
    have HX := hid hx
    clear hx
    go_enter Tryd.func87, Tryd.ntmps87
    go_upto_region 1 with fail
    rw [← hw1]
    try rw [hgr]
    rw [← hw3]
    try rw [hgc]
    clear hw1 hw3 hgr hgc
    obtain ⟨a0, a1, a2, a3, a4, a5, a6, a7, a8⟩ := HC3.out.all
    obtain ⟨p0, p1, p2⟩ := HP3.out.all
    go_wp2_with (go_at_call 83; (refine HA.out.mono ?_); rintro er w5 ⟨rfl, bb⟩)
    go_ret2
    exact ⟨.inr ⟨_, 2, _, 2, HY.out HX.out, rfl, rfl, by omega, by omega, by omega, (HE4.out.below bb).more bb.size, fun ad e _ => by cases e; exact HQ3.out.size⟩, HB4.out.trans (bb.mono HB4.out.size)⟩
  · have HA := hid (ahead_no (HS.out _ HB4.out) m HM.out (some ⟨w3.heap.size, 0, none⟩) [((ao, an), who), ((bo, bn), who)] 2 2 rfl (by omega) HE4.out (fun q hq => by simp only [List.mem_cons, List.not_mem_nil, or_false] at hq; rcases hq with rfl | rfl; exact ⟨⟨HOC.out.2.2.1, HOC.out.2.2.2.1⟩, HOW.out⟩; exact ⟨⟨HOC.out.2.2.2.2.1, HOC.out.2.2.2.2.2⟩, HOW.out⟩) (fun e => hx ⟨e _ (by simp), e _ (by simp)⟩))
    rw [HSB.out] at HA
    have HX := hid hx
    clear hx
    go_enter Tryd.func87, Tryd.ntmps87
    go_upto_region 1 with fail
    rw [← hw1]
    try rw [hgr]
    rw [← hw3]
    try rw [hgc]
    clear hw1 hw3 hgr hgc
    obtain ⟨a0, a1, a2, a3, a4, a5, a6, a7, a8⟩ := HC3.out.all
    obtain ⟨p0, p1, p2⟩ := HP3.out.all
    go_wp2_with (go_at_call 83; (refine HA.out.mono ?_); rintro er w5 ⟨rfl, bb⟩)
    go_ret2
    exact ⟨.inl ⟨HN.out HX.out, rfl⟩, HB4.out.trans (bb.mono HB4.out.size)⟩
end Go.Proofs.YtoajckhnneagnaaDoor.Sh
