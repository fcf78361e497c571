/-
  The program's only, by contract.
-/
import Derived.Test.YtcligogmmjdobaaGreatDoorJp21
import Derived.Test.YtcligogmmjdobaaGreatDoorJp15
import Derived.Test.YtcligogmmjdobaaGreatDoorJp16
import Derived.Test.YtcligogmmjdobaaGreatDoorJp17
set_option linter.unusedVariables false
set_option linter.unusedSimpArgs false
namespace Go.Proofs.YtcligogmmjdobaaGreatDoor.Sh
open Go Go.RowKit
open Go.Maps (Keyed)

set_option linter.unusedSimpArgs false
set_option linter.unusedVariables false
/-- The rules stand as they do behind the first spreading. -/
structure Ready (l : List Crd) (s : St) : Prop where
  laid : Laid l s
  links : ∀ c ∈ l, c.kd = 3 → ∀ y, isD y → Imp (· ∈ l) (firstOf c, y) → roleOf c ∈ s.inc (y, c.bn)
  fr : s.fr = []
  ic : s.ic ≤ 1000002000
  len : l.length ≤ 1000
def St.clear (s : St) : St := { s with kn := [] }
section
variable {w : World} {B sb b0 b1 b2 b3 b4 : Nat} {vF : Value} {col : Col} {s : St}
/-- A new map in the place of what was known. -/
theorem Sol.cleared (h : Sol w B sb b0 b1 b2 b3 b4 vF col s) (hf : s.fr = []) : ∃ col', Sol ((w.alloc (.map #[] 0)).setCell ⟨sb, 4, none⟩ (.map (some w.heap.size))) B sb b0 b1 b2 b3 w.heap.size vF col' s.clear ∧
    Ext Ma w ((w.alloc (.map #[] 0)).setCell ⟨sb, 4, none⟩ (.map (some w.heap.size))) col col' := by
  have hsb := h.dom _ _ h.csb
  have hs : ((w.alloc (.map #[] 0)).setCell ⟨sb, 4, none⟩ (.map (some w.heap.size))).heap.size = w.heap.size + 1 := by simp
  have hfar : ∀ g, g < w.heap.size → g ≠ sb → ((w.alloc (.map #[] 0)).setCell ⟨sb, 4, none⟩ (.map (some w.heap.size))).heap[g]? = w.heap[g]? := fun g hg hne =>
    (Below.heap_setCell _ ⟨sb, 4, none⟩ _ g hne).trans ((MapKept.heap_alloc w _).2 g hg)
  have hF : ∀ (j : Nat), j = 1 ∨ j = 2 ∨ j = 3 ∨ j = 4 → ∀ g (k : Nat × Lit), col g = some k → k.1 = j ∨ k.1 = j + 10 → ((w.alloc (.map #[] 0)).setCell ⟨sb, 4, none⟩ (.map (some w.heap.size))).heap[g]? = w.heap[g]? := fun j hj g k e hk =>
    hfar g (h.dom g k e) (fun e' => by rw [e', h.csb] at e; cases e; simp at hk; omega)
  have hc : ∀ g, g < w.heap.size → (fun g => if g = w.heap.size then some (5, Lit.nil) else col g) g = col g := fun g hg => if_neg (by omega)
  have hm := World.ownsMap_made w Tryz.prog 51 (unitElem (H := Unit))
  have hb4 : ((w.alloc (.map #[] 0)).setCell ⟨sb, 4, none⟩ (.map (some w.heap.size))).heap[w.heap.size]? = (w.alloc (.map #[] 0)).heap[w.heap.size]? := Below.heap_setCell _ ⟨sb, 4, none⟩ _ _ (by simp only [ne_eq]; omega)
  refine ⟨fun g => if g = w.heap.size then some (5, Lit.nil) else col g, ⟨row5 (((MapKept.heap_alloc w _).2 sb hsb).trans h.row), (hc sb hsb).trans h.csb, h.giv.frame (hF 1 (by omega)) hc (Nat.le_refl _), h.inc.frame (hF 2 (by omega)) hc (Nat.le_refl _), h.bth.frame (hF 3 (by omega)) hc (Nat.le_refl _), h.lnk.frame (hF 4 (by omega)) hc (Nat.le_refl _),
    ?_, h.fr.kept (fun g e => hfar g (h.dom g _ (h.cfr g e)) (fun e' => by have := h.cfr g e; rw [e', h.csb] at this; cases this)), fun g e => (hc g (h.dom g _ (h.cfr g e))).trans (h.cfr g e), fun g hg => (hc g (Nat.lt_of_lt_of_le hg h.base)).trans (h.low g hg), by rw [hs]; have := h.base; omega, ?_,
    ⟨h.sz.giv, h.sz.inc, h.sz.bth, h.sz.lnk, fun p hp => (List.not_mem_nil hp).elim, h.sz.fr⟩⟩, ⟨rfl, rfl, rfl, by rw [hs]; omega, fun g hg hcg => hfar g hg (fun e => hcg (0, .nil) (e ▸ h.csb) (.inl rfl)), hc⟩⟩
  · obtain ⟨es, clock, g1, F, g2, g3⟩ := hm
    refine ⟨_, ⟨es, clock, hb4.trans g1, F, g2, g3⟩, fun p _ => ?_, fun z hz => ?_, if_pos rfl⟩
    · show Maps.has (DataW.map []) (kp p) = decide (p ∈ ([] : List Pr))
      simp [Maps.has]
    · simp [Maps.has] at hz
  · intro g c e
    rw [hs]
    by_cases hg : g = w.heap.size
    · omega
    · have := h.dom g c (by rw [← e]; exact (if_neg hg).symm)
      omega
end
set_option maxHeartbeats 8000000 in
theorem only_any {B sb b0 b1 b2 b3 b4 : Nat} {vF : Value} {col : Col} {s : St} {w : World} (h : Sol w B sb b0 b1 b2 b3 b4 vF col s) (l : List Crd) (hR : Ready l s) (who : ByteArray) (hw : okB who) :
    Calls Tryz.prog 25 #[.pointer (some ⟨sb, 0, none⟩), .string who] w fun e w' => e = .returned (.tuple #[]) ∧ ∃ b4' vF' col' s', Sol w' B sb b0 b1 b2 b3 b4' vF' col' s' ∧ Ext Ma w w' col col' ∧ Ready l s' ∧ s'.giv = s.giv ∧ s'.keys = s.keys ∧ s'.kn.Nodup ∧ ∀ p, p ∈ s'.kn ↔ Imp (· ∈ l) p ∧ p.2 = who := by
  obtain ⟨col1, h1, x1⟩ := h.cleared hR.fr
  obtain ⟨w1, hw1⟩ : ∃ w1, w1 = (w.alloc (.map #[] 0)).setCell ⟨sb, 4, none⟩ (.map (some w.heap.size)) := ⟨_, rfl⟩
  rw [← hw1] at h1 x1
  have hsb := h.dom _ _ h.csb
  have c4 : (w.alloc (.map #[] 0)).cell? ⟨sb, 4, none⟩ = some (.map (some b4)) := by rw [cell_of_row _ sb 4 _ _ (0, 0) (((MapKept.heap_alloc w _).2 sb hsb).trans h.row)]; rfl
  have f4 : (w.alloc (.map #[] 0)).frozen? ⟨sb, 4, none⟩ = false := frozen_of_row _ sb 4 _ _ (((MapKept.heap_alloc w _).2 sb hsb).trans h.row)
  have hmm := @run_makeMap Tryz.prog
  have hk : s.clear.kn = [] := rfl
  have hl1 : Laid l s.clear := hR.laid.grew ⟨rfl, rfl, rfl, rfl⟩ (fun _ _ h => h) hR.laid.incS
  have hsp := hl1.spr (· = who) tru hk hR.fr
  have hin : ∀ r ∈ s.clear.giv who, Imp (· ∈ l) (r, who) := fun r hr => by
    obtain ⟨c, hc, h1, rfl, rfl⟩ := (hl1.giv who r).1 hr
    exact .mem hc h1
  obtain ⟨a1, a2, a3, a4, a5⟩ := adds_spr (X := (· = who)) who rfl (s.clear.giv who) hsp hin
  have eb : s.clear.begin who = (s.clear.giv who).foldl (fun s r => s.add (r, who)) s.clear := rfl
  rw [← eb] at a1 a2 a3 a4 a5
  have hic : s.clear.ic = s.ic := rfl
  have HB := hid (begin_any h1 who hw (by rw [hk, hic]; have := hR.ic; simp; omega) (by rw [show s.clear.fr = [] from hR.fr, hic]; have := hR.ic; simp; omega))
  have HS2 : Hid (Spg2 l who (s.clear.begin who) (s.clear.begin who)) := hid ⟨a1, .refl _, fun _ h => h, fun _ _ h => h, by rw [a4, hic]; exact hR.ic⟩
  have HR := hid hR
  have HX1 := hid x1
  have HA2 := hid a2
  have HA3 := hid a3
  have HA5 := hid a5
  have HL1 := hid hl1
  clear h h1 x1 hR hw hk hl1 hsp hin a1 a2 a3 a4 a5 eb hic hsb
  go_enter Tryz.func25, Tryz.ntmps25
  go_wp2_with fail
  rw [← hw1]
  clear c4 f4 hmm hw1
  go_wp2_with (go_at_call 43; (refine HB.out.mono ?_); rintro er w3 ⟨rfl, v3, c3, h3, x3⟩)
  obtain ⟨w4, hw4⟩ : ∃ w4, w4 = w3.alloc (.cells #[.func (.func 46) #[.pointer (some ⟨sb, 0, none⟩)] #[], .func (.func 47) #[.pointer (some ⟨sb, 0, none⟩)] #[]] 85) := ⟨_, rfl⟩
  have q4 : Below w3.heap.size w3 w4 := by rw [hw4]; exact (Below.refl _ _).alloc (Nat.le_refl _) _
  have HSP := hid (spread2_any (h3.below q4) l who HR.out.len HS2.out w3.heap.size 85 (by rw [hw4]; exact heap_alloc_new w3 _) (h3.free (Nat.le_refl _)))
  rw [← hw4]
  have HX4 := hid ((HX1.out.trans x3).trans (Ext.of_below Ma c3 q4))
  clear h3 x3 q4 hw4
  go_wp2_with (go_at_call 45; (refine HSP.out.mono ?_); rintro er w5 ⟨rfl, s5, v5, c5, h5, x5, g5, f5⟩)
  go_end0
  have hl5 : Laid l s5 := HL1.out.grew ((HA2.out.same).trans g5.same) (fun r g hg => g5.inc r g (by rw [HA3.out]; exact hg)) g5.spr.incS
  have hi5 : ∀ c ∈ l, c.kd = 3 → ∀ y, isD y → Imp (· ∈ l) (firstOf c, y) → roleOf c ∈ s5.inc (y, c.bn) := fun c hc h3 y hy hi => g5.inc _ _ (by rw [HA3.out]; exact HR.out.links c hc h3 y hy hi)
  have hg5 : s5.giv = s.giv := g5.same.giv.trans HA2.out.same.giv
  exact ⟨rfl, _, v5, c5, s5, h5, HX4.out.trans x5, ⟨hl5, hi5, f5, g5.icb, HR.out.len⟩, hg5, g5.same.keys.trans HA2.out.same.keys, g5.spr.nd,
    end2 hl5 hi5 g5.spr f5 (fun r hr => g5.kn _ (HA5.out r (by rw [hg5] at hr; exact hr)))⟩
end Go.Proofs.YtcligogmmjdobaaGreatDoor.Sh
/-
  A new solver in memory; taking a credential in, of whatever kind.
-/
namespace Go.Proofs.YtcligogmmjdobaaGreatDoor.Sh
open Go Go.RowKit
open Go.Maps (Keyed)

theorem grp_made {α κ : Type} (P : Program) (E : Enc α) (kT eT : TypeId) (kl : κ → Lit) (ok : κ → Prop) (i B b : Nat) (w : World) (col : Col) (hb : w.heap[b]? = some (.map #[] 0)) (hc : col b = some (i, .nil)) : Grp P E kT eT kl ok i B 0 b w col (fun _ => []) :=
  ⟨.map [], ⟨#[], 0, hb, ⟨by simp, MapKept.stamped_empty 0, by simp⟩, Nat.le_refl _, rfl⟩, hc, (fun z hz => by simp [Maps.has] at hz), fun k _ => .inl ⟨rfl, rfl⟩⟩
def newCol (n : Nat) : Col := fun g => if g < n then none else if g = n then some (1, .nil) else if g = n + 1 then some (2, .nil) else if g = n + 2 then some (3, .nil) else if g = n + 3 then some (4, .nil) else if g = n + 4 then some (5, .nil) else if g = n + 5 then some (0, .nil) else none
/-- What 'settled' lays first. -/
theorem Sol.new (w : World) : Sol ((((((w.alloc (.map #[] 0)).alloc (.map #[] 0)).alloc (.map #[] 0)).alloc (.map #[] 0)).alloc (.map #[] 0)).alloc (.cells #[.map (some w.heap.size), .map (some (w.heap.size + 1)), .map (some (w.heap.size + 2)), .map (some (w.heap.size + 3)), .map (some (w.heap.size + 4)), .slice none 0 0] 60))
    w.heap.size (w.heap.size + 5) w.heap.size (w.heap.size + 1) (w.heap.size + 2) (w.heap.size + 3) (w.heap.size + 4) (.slice none 0 0) (newCol w.heap.size) St.zero := by
  obtain ⟨n, hn⟩ : ∃ n, w.heap.size = n := ⟨_, rfl⟩
  rw [hn]
  obtain ⟨o, ho⟩ : ∃ o, o = Obj.cells #[.map (some n), .map (some (n + 1)), .map (some (n + 2)), .map (some (n + 3)), .map (some (n + 4)), .slice none 0 0] 60 := ⟨_, rfl⟩
  rw [← ho]
  obtain ⟨w1, h1⟩ : ∃ w1, w1 = w.alloc (.map #[] 0) := ⟨_, rfl⟩
  obtain ⟨w2, h2⟩ : ∃ w2, w2 = w1.alloc (.map #[] 0) := ⟨_, rfl⟩
  obtain ⟨w3, h3⟩ : ∃ w3, w3 = w2.alloc (.map #[] 0) := ⟨_, rfl⟩
  obtain ⟨w4, h4⟩ : ∃ w4, w4 = w3.alloc (.map #[] 0) := ⟨_, rfl⟩
  obtain ⟨w5, h5⟩ : ∃ w5, w5 = w4.alloc (.map #[] 0) := ⟨_, rfl⟩
  obtain ⟨w6, h6⟩ : ∃ w6, w6 = w5.alloc o := ⟨_, rfl⟩
  rw [← h1, ← h2, ← h3, ← h4, ← h5, ← h6]
  have z1 : w1.heap.size = n + 1 := by rw [h1, World.size_alloc, hn]
  have z2 : w2.heap.size = n + 2 := by rw [h2, World.size_alloc, z1]
  have z3 : w3.heap.size = n + 3 := by rw [h3, World.size_alloc, z2]
  have z4 : w4.heap.size = n + 4 := by rw [h4, World.size_alloc, z3]
  have z5 : w5.heap.size = n + 5 := by rw [h5, World.size_alloc, z4]
  have hsz : w6.heap.size = n + 6 := by rw [h6, World.size_alloc, z5]
  have a6 : ∀ g, g < n + 5 → w6.heap[g]? = w5.heap[g]? := fun g hg => by rw [h6]; exact (MapKept.heap_alloc w5 _).2 g (by omega)
  have a5 : ∀ g, g < n + 4 → w5.heap[g]? = w4.heap[g]? := fun g hg => by rw [h5]; exact (MapKept.heap_alloc w4 _).2 g (by omega)
  have a4 : ∀ g, g < n + 3 → w4.heap[g]? = w3.heap[g]? := fun g hg => by rw [h4]; exact (MapKept.heap_alloc w3 _).2 g (by omega)
  have a3 : ∀ g, g < n + 2 → w3.heap[g]? = w2.heap[g]? := fun g hg => by rw [h3]; exact (MapKept.heap_alloc w2 _).2 g (by omega)
  have a2 : ∀ g, g < n + 1 → w2.heap[g]? = w1.heap[g]? := fun g hg => by rw [h2]; exact (MapKept.heap_alloc w1 _).2 g (by omega)
  have n1 : w1.heap[n]? = some (.map #[] 0) := by rw [h1, ← hn]; exact (MapKept.heap_alloc w _).1
  have n2 : w2.heap[n + 1]? = some (.map #[] 0) := by rw [h2, ← z1]; exact (MapKept.heap_alloc w1 _).1
  have n3 : w3.heap[n + 2]? = some (.map #[] 0) := by rw [h3, ← z2]; exact (MapKept.heap_alloc w2 _).1
  have n4 : w4.heap[n + 3]? = some (.map #[] 0) := by rw [h4, ← z3]; exact (MapKept.heap_alloc w3 _).1
  have n5 : w5.heap[n + 4]? = some (.map #[] 0) := by rw [h5, ← z4]; exact (MapKept.heap_alloc w4 _).1
  have hs : w6.heap[n + 5]? = some o := by rw [h6, ← z5]; exact (MapKept.heap_alloc w5 _).1
  have m0 : w6.heap[n + 0]? = some (.map #[] 0) := by rw [Nat.add_zero, a6 _ (by omega), a5 _ (by omega), a4 _ (by omega), a3 _ (by omega), a2 _ (by omega)]; exact n1
  have m1 : w6.heap[n + 1]? = some (.map #[] 0) := by rw [a6 _ (by omega), a5 _ (by omega), a4 _ (by omega), a3 _ (by omega)]; exact n2
  have m2 : w6.heap[n + 2]? = some (.map #[] 0) := by rw [a6 _ (by omega), a5 _ (by omega), a4 _ (by omega)]; exact n3
  have m3 : w6.heap[n + 3]? = some (.map #[] 0) := by rw [a6 _ (by omega), a5 _ (by omega)]; exact n4
  have m4 : w6.heap[n + 4]? = some (.map #[] 0) := by rw [a6 _ (by omega)]; exact n5
  have c : ∀ k i, k < 6 → (k = 0 → i = 1) → (k = 1 → i = 2) → (k = 2 → i = 3) → (k = 3 → i = 4) → (k = 4 → i = 5) → (k = 5 → i = 0) → newCol n (n + k) = some (i, .nil) := fun k i hk h0 h1 h2 h3 h4 h5 => by
    have : k = 0 ∨ k = 1 ∨ k = 2 ∨ k = 3 ∨ k = 4 ∨ k = 5 := by omega
    unfold newCol
    rcases this with rfl | rfl | rfl | rfl | rfl | rfl
    · rw [if_neg (by omega), if_pos (by omega), h0 rfl]
    · rw [if_neg (by omega), if_neg (by omega), if_pos (by omega), h1 rfl]
    · rw [if_neg (by omega), if_neg (by omega), if_neg (by omega), if_pos (by omega), h2 rfl]
    · rw [if_neg (by omega), if_neg (by omega), if_neg (by omega), if_neg (by omega), if_pos (by omega), h3 rfl]
    · rw [if_neg (by omega), if_neg (by omega), if_neg (by omega), if_neg (by omega), if_neg (by omega), if_pos (by omega), h4 rfl]
    · rw [if_neg (by omega), if_neg (by omega), if_neg (by omega), if_neg (by omega), if_neg (by omega), if_neg (by omega), if_pos (by omega), h5 rfl]
  refine ⟨by rw [hs, ho], c 5 0 (by omega) (by omega) (by omega) (by omega) (by omega) (by omega) (by omega),
    grp_made _ _ _ _ _ _ _ _ _ _ _ m0 (c 0 1 (by omega) (by omega) (by omega) (by omega) (by omega) (by omega) (by omega)), grp_made _ _ _ _ _ _ _ _ _ _ _ m1 (c 1 2 (by omega) (by omega) (by omega) (by omega) (by omega) (by omega) (by omega)),
    grp_made _ _ _ _ _ _ _ _ _ _ _ m2 (c 2 3 (by omega) (by omega) (by omega) (by omega) (by omega) (by omega) (by omega)), grp_made _ _ _ _ _ _ _ _ _ _ _ m3 (c 3 4 (by omega) (by omega) (by omega) (by omega) (by omega) (by omega) (by omega)),
    ⟨.map [], ⟨#[], 0, m4, ⟨by simp, MapKept.stamped_empty 0, by simp⟩, Nat.le_refl _, rfl⟩, (fun p _ => by simp [Maps.has, St.zero]), (fun z hz => by simp [Maps.has] at hz), c 4 5 (by omega) (by omega) (by omega) (by omega) (by omega) (by omega) (by omega)⟩,
    Own.nil _ _ _, (fun g e => by cases e), (fun g hg => if_pos hg), (by rw [hsz]; omega), (fun g k e => ?_), ⟨fun _ _ h => (List.not_mem_nil h).elim, fun _ _ h => (List.not_mem_nil h).elim, fun _ _ h => (List.not_mem_nil h).elim, fun _ _ h => (List.not_mem_nil h).elim, fun _ h => (List.not_mem_nil h).elim, fun _ h => (List.not_mem_nil h).elim⟩⟩
  rw [hsz]
  unfold newCol at e
  by_cases h : g < n + 6
  · exact h
  · rw [if_neg (by omega), if_neg (by omega), if_neg (by omega), if_neg (by omega), if_neg (by omega), if_neg (by omega), if_neg (by omega)] at e
    cases e
theorem okC_of {c : Crd} (h : mayC c = true) : okC c := by
  have := may_sizes h
  unfold okC okB maxLen
  omega
theorem take_any {B sb b0 b1 b2 b3 b4 : Nat} {vF : Value} {col : Col} {s : St} {w : World} (h : Sol w B sb b0 b1 b2 b3 b4 vF col s) (c : Crd) (hc : mayC c = true) (hn : s.ic ≤ 100000000000) :
    Calls Tryz.prog 42 #[.pointer (some ⟨sb, 0, none⟩), .agg c.cells.toArray] w fun e w' => e = .returned (.tuple #[]) ∧ ∃ col', Sol w' B sb b0 b1 b2 b3 b4 vF col' (s.take c) ∧ Ext Mt w w' col col' := by
  have h0 := may_head hc
  rcases may_kind hc with h1 | h1 | h1 | h1
  · exact take1_any h c (okC_of hc) (by omega) (by omega) h1.1 hn
  · exact take2_any h c (okC_of hc) (by omega) (by omega) h1.1 hn
  · exact take3_any h c (okC_of hc) (by omega) (by omega) h1.1 hn
  · exact take4_any h c (okC_of hc) (by omega) (by omega) h1.1 hn
end Go.Proofs.YtcligogmmjdobaaGreatDoor.Sh
