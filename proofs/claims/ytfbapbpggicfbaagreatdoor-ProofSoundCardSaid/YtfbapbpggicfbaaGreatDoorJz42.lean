/-
  A new solver in memory; taking a credential in, of whatever kind.
-/
import Derived.Test.YtfbapbpggicfbaaGreatDoorJz35
import Derived.Test.YtfbapbpggicfbaaGreatDoorJz36
import Derived.Test.YtfbapbpggicfbaaGreatDoorJz37
import Derived.Test.YtfbapbpggicfbaaGreatDoorJz41
import Derived.Test.YtfbapbpggicfbaaGreatDoorJz28
import Derived.Test.YtfbapbpggicfbaaGreatDoorJz3
import Derived.Test.YtfbapbpggicfbaaGreatDoorJz14
set_option linter.unusedVariables false
set_option linter.unusedSimpArgs false
namespace Go.Proofs.YtfbapbpggicfbaaGreatDoor.Sh
open Go Go.RowKit
open Go.Maps (Keyed)

theorem grp_made {α κ : Type} (P : Program) (E : Enc α) (kT eT : TypeId) (kl : κ → Lit) (ok : κ → Prop) (i B b : Nat) (w : World) (col : Col) (hb : w.heap[b]? = some (.map #[] 0)) (hc : col b = some (i, .nil)) : Grp P E kT eT kl ok i B 0 b w col (fun _ => []) :=
  ⟨.map [], ⟨#[], 0, hb, ⟨by simp, MapKept.stamped_empty 0, by simp⟩, Nat.le_refl _, rfl⟩, hc, (fun z hz => by simp [Maps.has] at hz), fun k _ => .inl ⟨rfl, rfl⟩⟩
def newCol (n : Nat) : Col := fun g => if g < n then none else if g = n then some (1, .nil) else if g = n + 1 then some (2, .nil) else if g = n + 2 then some (3, .nil) else if g = n + 3 then some (4, .nil) else if g = n + 4 then some (5, .nil) else if g = n + 5 then some (0, .nil) else none
/-- What 'settled' lays first. -/
theorem Sol.new (w : World) : Sol ((((((w.alloc (.map #[] 0)).alloc (.map #[] 0)).alloc (.map #[] 0)).alloc (.map #[] 0)).alloc (.map #[] 0)).alloc (.cells #[.map (some w.heap.size), .map (some (w.heap.size + 1)), .map (some (w.heap.size + 2)), .map (some (w.heap.size + 3)), .map (some (w.heap.size + 4)), .slice none 0 0] 82))
    w.heap.size (w.heap.size + 5) w.heap.size (w.heap.size + 1) (w.heap.size + 2) (w.heap.size + 3) (w.heap.size + 4) (.slice none 0 0) (newCol w.heap.size) St.zero := by
  obtain ⟨n, hn⟩ : ∃ n, w.heap.size = n := ⟨_, rfl⟩
  rw [hn]
  obtain ⟨o, ho⟩ : ∃ o, o = Obj.cells #[.map (some n), .map (some (n + 1)), .map (some (n + 2)), .map (some (n + 3)), .map (some (n + 4)), .slice none 0 0] 82 := ⟨_, rfl⟩
  rw [← ho]
  obtain ⟨w1, h1⟩ : ∃ w1, w1 = w.alloc (.map #[] 0) := ⟨_, rfl⟩
  obtain ⟨w2, h2⟩ : ∃ w2, w2 = w1.alloc (.map #[] 0) := ⟨_, rfl⟩
  obtain ⟨w3, h3⟩ : ∃ w3, w3 = w2.alloc (.map #[] 0) := ⟨_, rfl⟩
  obtain ⟨w4, h4⟩ : ∃ w4, w4 = w3.alloc (.map #[] 0) := ⟨_, rfl⟩
  obtain ⟨w5, h5⟩ : ∃ w5, w5 = w4.alloc (.map #[] 0) := ⟨_, rfl⟩
  obtain ⟨w6, h6⟩ : ∃ w6, w6 = w5.alloc o := ⟨_, rfl⟩
  rw [← h1, ← h2, ← h3, ← h4, ← h5, ← h6]
  have z1 : w1.heap.size = n + 1 := by rw [h1, World.size_alloc, hn]
  have z2 : w2.heap.size = n + 2 := by rw [h2, World.size_alloc, z1]
  have z3 : w3.heap.size = n + 3 := by rw [h3, World.size_alloc, z2]
  have z4 : w4.heap.size = n + 4 := by rw [h4, World.size_alloc, z3]
  have z5 : w5.heap.size = n + 5 := by rw [h5, World.size_alloc, z4]
  have hsz : w6.heap.size = n + 6 := by rw [h6, World.size_alloc, z5]
  have a6 : ∀ g, g < n + 5 → w6.heap[g]? = w5.heap[g]? := fun g hg => by rw [h6]; exact (MapKept.heap_alloc w5 _).2 g (by omega)
  have a5 : ∀ g, g < n + 4 → w5.heap[g]? = w4.heap[g]? := fun g hg => by rw [h5]; exact (MapKept.heap_alloc w4 _).2 g (by omega)
  have a4 : ∀ g, g < n + 3 → w4.heap[g]? = w3.heap[g]? := fun g hg => by rw [h4]; exact (MapKept.heap_alloc w3 _).2 g (by omega)
  have a3 : ∀ g, g < n + 2 → w3.heap[g]? = w2.heap[g]? := fun g hg => by rw [h3]; exact (MapKept.heap_alloc w2 _).2 g (by omega)
  have a2 : ∀ g, g < n + 1 → w2.heap[g]? = w1.heap[g]? := fun g hg => by rw [h2]; exact (MapKept.heap_alloc w1 _).2 g (by omega)
  have n1 : w1.heap[n]? = some (.map #[] 0) := by rw [h1, ← hn]; exact (MapKept.heap_alloc w _).1
  have n2 : w2.heap[n + 1]? = some (.map #[] 0) := by rw [h2, ← z1]; exact (MapKept.heap_alloc w1 _).1
  have n3 : w3.heap[n + 2]? = some (.map #[] 0) := by rw [h3, ← z2]; exact (MapKept.heap_alloc w2 _).1
  have n4 : w4.heap[n + 3]? = some (.map #[] 0) := by rw [h4, ← z3]; exact (MapKept.heap_alloc w3 _).1
  have n5 : w5.heap[n + 4]? = some (.map #[] 0) := by rw [h5, ← z4]; exact (MapKept.heap_alloc w4 _).1
  have hs : w6.heap[n + 5]? = some o := by rw [h6, ← z5]; exact (MapKept.heap_alloc w5 _).1
  have m0 : w6.heap[n + 0]? = some (.map #[] 0) := by rw [Nat.add_zero, a6 _ (by omega), a5 _ (by omega), a4 _ (by omega), a3 _ (by omega), a2 _ (by omega)]; exact n1
  have m1 : w6.heap[n + 1]? = some (.map #[] 0) := by rw [a6 _ (by omega), a5 _ (by omega), a4 _ (by omega), a3 _ (by omega)]; exact n2
  have m2 : w6.heap[n + 2]? = some (.map #[] 0) := by rw [a6 _ (by omega), a5 _ (by omega), a4 _ (by omega)]; exact n3
  have m3 : w6.heap[n + 3]? = some (.map #[] 0) := by rw [a6 _ (by omega), a5 _ (by omega)]; exact n4
  have m4 : w6.heap[n + 4]? = some (.map #[] 0) := by rw [a6 _ (by omega)]; exact n5
  have c : ∀ k i, k < 6 → (k = 0 → i = 1) → (k = 1 → i = 2) → (k = 2 → i = 3) → (k = 3 → i = 4) → (k = 4 → i = 5) → (k = 5 → i = 0) → newCol n (n + k) = some (i, .nil) := fun k i hk h0 h1 h2 h3 h4 h5 => by
    have : k = 0 ∨ k = 1 ∨ k = 2 ∨ k = 3 ∨ k = 4 ∨ k = 5 := by omega
    unfold newCol
    rcases this with rfl | rfl | rfl | rfl | rfl | rfl
    · rw [if_neg (by omega), if_pos (by omega), h0 rfl]
    · rw [if_neg (by omega), if_neg (by omega), if_pos (by omega), h1 rfl]
    · rw [if_neg (by omega), if_neg (by omega), if_neg (by omega), if_pos (by omega), h2 rfl]
    · rw [if_neg (by omega), if_neg (by omega), if_neg (by omega), if_neg (by omega), if_pos (by omega), h3 rfl]
    · rw [if_neg (by omega), if_neg (by omega), if_neg (by omega), if_neg (by omega), if_neg (by omega), if_pos (by omega), h4 rfl]
    · rw [if_neg (by omega), if_neg (by omega), if_neg (by omega), if_neg (by omega), if_neg (by omega), if_neg (by omega), if_pos (by omega), h5 rfl]
  refine ⟨by rw [hs, ho], c 5 0 (by omega) (by omega) (by omega) (by omega) (by omega) (by omega) (by omega),
    grp_made _ _ _ _ _ _ _ _ _ _ _ m0 (c 0 1 (by omega) (by omega) (by omega) (by omega) (by omega) (by omega) (by omega)), grp_made _ _ _ _ _ _ _ _ _ _ _ m1 (c 1 2 (by omega) (by omega) (by omega) (by omega) (by omega) (by omega) (by omega)),
    grp_made _ _ _ _ _ _ _ _ _ _ _ m2 (c 2 3 (by omega) (by omega) (by omega) (by omega) (by omega) (by omega) (by omega)), grp_made _ _ _ _ _ _ _ _ _ _ _ m3 (c 3 4 (by omega) (by omega) (by omega) (by omega) (by omega) (by omega) (by omega)),
    ⟨.map [], ⟨#[], 0, m4, ⟨by simp, MapKept.stamped_empty 0, by simp⟩, Nat.le_refl _, rfl⟩, (fun p _ => by simp [Maps.has, St.zero]), (fun z hz => by simp [Maps.has] at hz), c 4 5 (by omega) (by omega) (by omega) (by omega) (by omega) (by omega) (by omega)⟩,
    Own.nil _ _ _, (fun g e => by cases e), (fun g hg => if_pos hg), (by rw [hsz]; omega), (fun g k e => ?_), ⟨fun _ _ h => (List.not_mem_nil h).elim, fun _ _ h => (List.not_mem_nil h).elim, fun _ _ h => (List.not_mem_nil h).elim, fun _ _ h => (List.not_mem_nil h).elim, fun _ h => (List.not_mem_nil h).elim, fun _ h => (List.not_mem_nil h).elim⟩⟩
  rw [hsz]
  unfold newCol at e
  by_cases h : g < n + 6
  · exact h
  · rw [if_neg (by omega), if_neg (by omega), if_neg (by omega), if_neg (by omega), if_neg (by omega), if_neg (by omega), if_neg (by omega)] at e
    cases e
theorem okC_of {c : Crd} (h : mayC c = true) : okC c := by
  have := may_sizes h
  unfold okC okB maxLen
  omega
theorem take_any {B sb b0 b1 b2 b3 b4 : Nat} {vF : Value} {col : Col} {s : St} {w : World} (h : Sol w B sb b0 b1 b2 b3 b4 vF col s) (c : Crd) (hc : mayC c = true) (hn : s.ic ≤ 100000000000) :
    Calls Tryz.prog 36 #[.pointer (some ⟨sb, 0, none⟩), .agg c.cells.toArray] w fun e w' => e = .returned (.tuple #[]) ∧ ∃ col', Sol w' B sb b0 b1 b2 b3 b4 vF col' (s.take c) ∧ Ext Mt w w' col col' := by
  have h0 := may_head hc
  rcases may_kind hc with h1 | h1 | h1 | h1
  · exact take1_any h c (okC_of hc) (by omega) (by omega) h1.1 hn
  · exact take2_any h c (okC_of hc) (by omega) (by omega) h1.1 hn
  · exact take3_any h c (okC_of hc) (by omega) (by omega) h1.1 hn
  · exact take4_any h c (okC_of hc) (by omega) (by omega) h1.1 hn
end Go.Proofs.YtfbapbpggicfbaaGreatDoor.Sh
/-
  The program's settled, by contract.
-/
namespace Go.Proofs.YtfbapbpggicfbaaGreatDoor.Sh
open Go Go.RowKit
open Go.Maps (Keyed)

set_option linter.unusedSimpArgs false
set_option linter.unusedVariables false
theorem Crs.ext {w w' : World} {B : Nat} {A : Option Addr} {l : List Crd} (h : Crs w B A l) (hx : ∀ ad, A = some ad → ad.block < B → w'.heap[ad.block]? = w.heap[ad.block]?) : Crs w' B A l := fun hn => by
  obtain ⟨ad, e, hb, hc⟩ := h hn
  refine ⟨ad, e, hb, fun j x hj => ?_⟩
  rw [← hc j x hj]
  unfold World.cell?
  rw [block_add, hx ad e hb]
/-- Behind some domains' beginnings. -/
structure Beg (l : List Crd) (s0 : St) (m : Nat) (s : St) : Prop where
  spr : Spr (· ∈ l) isD none' none' none' s
  same : SameR s0 s
  inc : s.inc = s0.inc
  ic : s.ic = s0.ic
  len : s.kn.length = s.fr.length
  kn : ∀ j : Nat, j < m → ∀ r ∈ s0.giv (domB ((j : Int) + 1)), (r, domB ((j : Int) + 1)) ∈ s.kn
theorem Beg.start {l : List Crd} {s0 : St} (h : Took l s0) : Beg l s0 0 s0 := ⟨h.laid.spr isD none' h.kn h.fr, .refl _, rfl, rfl, (by rw [h.kn, h.fr]), fun j hj => absurd hj (Nat.not_lt_zero _)⟩
theorem Beg.step {l : List Crd} {s0 s : St} {m : Nat} (hT : Took l s0) (h : Beg l s0 m s) (hm : m < 16) : Beg l s0 (m + 1) (s.begin (domB ((m : Int) + 1))) := by
  have hg : s.giv = s0.giv := h.same.giv
  have hin : ∀ r ∈ s.giv (domB ((m : Int) + 1)), Imp (· ∈ l) (r, domB ((m : Int) + 1)) := fun r hr => by
    rw [hg] at hr
    obtain ⟨c, hc, h1, e, rfl⟩ := (hT.giv _ r).1 hr
    rw [← e]
    exact .mem hc h1
  obtain ⟨a1, a2, a3, a4, a5⟩ := adds_spr (domB ((m : Int) + 1)) ((isD_iff _).2 ⟨m, hm, rfl⟩) (s.giv (domB ((m : Int) + 1))) h.spr hin
  have eb : s.begin (domB ((m : Int) + 1)) = (s.giv (domB ((m : Int) + 1))).foldl (fun s r => s.add (r, domB ((m : Int) + 1))) s := rfl
  rw [← eb] at a1 a2 a3 a4 a5
  refine ⟨a1, h.same.trans a2.same, a3.trans h.inc, a4.trans h.ic, by have := a2.len; have := h.len; omega, fun j hj r hr => ?_⟩
  by_cases e : j = m
  · subst e
    exact a5 r (by rw [hg]; exact hr)
  · exact a2.kn _ (h.kn j (by omega) r hr)
set_option maxHeartbeats 16000000 in
theorem settled_any (A : Option Addr) (all : List Crd) (n c : Nat) (hn : all.length = n) (hc : n ≤ c) (hc2 : c ≤ 9223372036854775807) (hm : n ≤ 1000) (w : World) (h : Crs w w.heap.size A all) :
    Calls Tryz.prog 18 #[.slice A n c] w fun e w' => ∃ sb b0 b1 b2 b3 b4 vF col s out, e = .returned (.pointer (some ⟨sb, 0, none⟩)) ∧ CountsOf out all ∧ Sol w' w.heap.size sb b0 b1 b2 b3 b4 vF col s ∧ Ready out s ∧ Below w.heap.size w w' := by
  have hmm := @run_makeMap Tryz.prog
  obtain ⟨w1, hw1⟩ : ∃ w1, w1 = (((((w.alloc (.map #[] 0)).alloc (.map #[] 0)).alloc (.map #[] 0)).alloc (.map #[] 0)).alloc (.map #[] 0)).alloc (.cells #[.map (some w.heap.size), .map (some (w.heap.size + 1)), .map (some (w.heap.size + 2)), .map (some (w.heap.size + 3)), .map (some (w.heap.size + 4)), .slice none 0 0] 82) := ⟨_, rfl⟩
  have s1 := Sol.new w
  rw [← hw1] at s1
  have q1 : Below w.heap.size w w1 := by
    rw [hw1]
    exact ((((((Below.refl _ _).alloc (by simp) _).alloc (by simp) _).alloc (by simp; omega) _).alloc (by simp; omega) _).alloc (by simp; omega) _).alloc (by simp; omega) _
  have HCN := hid (counts_any A all n c hn hc hc2 (by omega) w1 ((h.below q1).more q1.size))
  have HS1 := hid s1
  have HM : Hid (n ≤ 1000) := hid hm
  clear h s1 hn
  go_enter Tryz.func18, Tryz.ntmps18
  go_wp2_with fail
  rw [← hw1]
  clear hw1 hmm
  go_wp2_with (go_at_call 11; (refine HCN.out.mono ?_); rintro er w2 ⟨A', n', c', out, rfl, hn', how, hcnt, b2⟩)
  have hlen := how.len
  have hn2 : n' ≤ c' ∧ c' ≤ 9223372036854775807 := by
    obtain ⟨A2, c2, e, h1, h2⟩ := how.slice
    simp only [Value.slice.injEq] at e
    obtain ⟨_, _, rfl⟩ := e
    exact ⟨h1, h2⟩
  have HS2 := hid (HS1.out.below b2)
  have HC2 := hid how.crs
  have HCB : Hid (∀ ad, A' = some ad → w1.heap.size ≤ ad.block) := hid (fun ad e => (how.lt ad.block (by rw [e]; rfl)).1)
  have HCT := hid hcnt
  have HLN := hid hlen
  have HT := hid (took_all out)
  have HN2 : Hid (n' ≤ 1000) := hid (by omega)
  have HFREE : Hid (∀ g, w1.heap.size ≤ g → newCol w.heap.size g = none) := hid (fun g hg => HS1.out.free hg)
  have HB02 : Hid (Below w.heap.size w w2) := hid (q1.trans (b2.mono q1.size))
  have n63 : n' ≤ 9223372036854775807 := by omega
  clear how hcnt b2 hlen hn' hc hc2
  go_loopw [17] (fun i wr => ∃ (k : Nat) (cK : Col), i = .int .i64 (k : Int) ∧ k ≤ n' ∧ Hid (Sol wr w.heap.size (w.heap.size + 5) w.heap.size (w.heap.size + 1) (w.heap.size + 2) (w.heap.size + 3) (w.heap.size + 4) (.slice none 0 0) cK (tookOf (out.take k))) ∧ Hid (Ext Mt w2 wr (newCol w.heap.size) cK)) (fun i _ => n' - (intOf i).toNat)
  case atStart => exact ⟨0, _, rfl, Nat.zero_le _, HS2, hid (Ext.refl _ _ _)⟩
  case round =>
    obtain ⟨k, cK, rfl, hk, HS, HX⟩ := hrel
    obtain ⟨wo, hwo⟩ : ∃ x, x = wr := ⟨_, rfl⟩
    subst hwo
    by_cases hlt : k < n'
    · obtain ⟨⟨d, q, nm, kd, wh, ao, an, bo, bn⟩, hx⟩ : ∃ x, out[k]? = some x := ⟨_, List.getElem?_eq_getElem (by rw [HLN.out]; exact hlt)⟩
      have hel := HC2.out.ext (fun ad e hb => HX.out.free hb (HFREE.out _ (HCB.out ad e)))
      obtain ⟨ad, aj, rfl, hab, ea, hbj, a0, a1, a2, a3, a4, a5, a6, a7, a8⟩ := hel.get hx
      simp only at a0 a1 a2 a3 a4 a5 a6 a7 a8
      have hk0 : (0 : Int) ≤ (k : Int) := Int.natCast_nonneg _
      have hk1 : (k : Int) < (n' : Int) := by omega
      have hnx : tookOf (out.take (k + 1)) = (tookOf (out.take k)).take ⟨d, q, nm, kd, wh, ao, an, bo, bn⟩ := by rw [take_snoc_of hx, tookOf_snoc]
      have hic := (took_all (out.take k)).ic
      have htk : (out.take k).length = k := by rw [List.length_take, HLN.out]; omega
      have HA := hid (fun W (hW : Below wo.heap.size wo W) => (take_any (HS.out.below hW) ⟨d, q, nm, kd, wh, ao, an, bo, bn⟩ (counts_mem HCT.out (List.mem_of_getElem? hx)).1 (by have := HN2.out; omega)).mono
        (fun e w' hh => (⟨hh.1, by
          obtain ⟨-, c5, h5, h6⟩ := hh
          exact ⟨c5, hid (by rw [hnx]; exact h5), hid (HX.out.trans ((Ext.of_below Mt cK hW).trans h6))⟩⟩ : e = .returned (.tuple #[]) ∧ ∃ c5, Hid (Sol w' w.heap.size (w.heap.size + 5) w.heap.size (w.heap.size + 1) (w.heap.size + 2) (w.heap.size + 3) (w.heap.size + 4) (.slice none 0 0) c5 (tookOf (out.take (k + 1)))) ∧ Hid (Ext Mt w2 w' (newCol w.heap.size) c5))))
      unfold Crd.cells at HA
      simp only at HA
      clear hx hel hab hbj hnx hic htk HS HX
      go_wp2_with (go_at_call 36; (refine (HA.out _ (by first | exact (Below.refl _ _).alloc (Nat.le_refl _) _)).mono ?_); rintro er w5 ⟨rfl, c5, HS5, HX5⟩)
      go_roundw
      case rel => exact ⟨k + 1, c5, by go_num, by omega, HS5, HX5⟩
      case measure => simp [intOf]; omega
    · obtain rfl : n' = k := by omega
      have e1 : out.take n' = out := List.take_of_length_le (by rw [HLN.out]; exact Nat.le_refl _)
      rw [e1] at HS
      obtain ⟨s0, es0⟩ : ∃ s0, s0 = tookOf out := ⟨_, rfl⟩
      rw [← es0] at HS HT
      have HBL := hid (HB02.out.trans (HX.out.below HS2.out.low HB02.out.size))
      clear e1 HC2 HCB HX hlt es0
      go_wp2_with fail
      go_loopw [25] (fun i wr => ∃ (m : Nat) (vM : Value) (cM : Col) (sM : St), i = .int .i64 (m : Int) ∧ m ≤ 16 ∧ Hid (Sol wr w.heap.size (w.heap.size + 5) w.heap.size (w.heap.size + 1) (w.heap.size + 2) (w.heap.size + 3) (w.heap.size + 4) vM cM sM) ∧ Hid (Beg out s0 m sM) ∧ Hid (Below w.heap.size w wr)) (fun i _ => 16 - (intOf i).toNat)
      case atStart => exact ⟨0, _, cK, s0, rfl, by omega, HS, hid (Beg.start HT.out), HBL⟩
      case round =>
        obtain ⟨m, vM, cM, sM, rfl, hm16, HSM, HBM, HBW⟩ := hrel
        by_cases hlt2 : m < 16
        · obtain ⟨D, hD⟩ : ∃ D, domB ((m : Int) + 1) = D := ⟨_, rfl⟩
          have hOD : okB D := by rw [← hD]; exact ok_dom _
          have HDOM := hid (fun W => by have := domain_any ((m : Int) + 1) (by omega) (by omega) W; rw [show (⟨(domL ((m : Int) + 1)).toArray⟩ : ByteArray) = D from hD] at this; exact this)
          have hkn := HBM.out.spr.kn_le
          have hfr := HBM.out.spr.fr_le
          have hll : out.length * out.length ≤ 1000 * 1000 := Nat.mul_le_mul (by rw [HLN.out]; exact HN2.out) (by rw [HLN.out]; exact HN2.out)
          have hic : sM.ic ≤ 2000 := by rw [HBM.out.ic]; have := HT.out.ic; rw [HLN.out] at this; have := HN2.out; omega
          have HBE := hid (fun W (hW : Below wr.heap.size wr W) => begin_any (HSM.out.below hW) D hOD (by omega) (by omega))
          have HNB := hid (HBM.out.step HT.out hlt2)
          have HDD := hid hD
          clear hD hOD hkn hfr hll hic
          go_wp2_with (first | (go_at_call 38; (refine (HDOM.out _).mono ?_); rintro er w8 ⟨rfl, b8⟩; have B8 := hid b8; clear b8) | (go_at_call 37; (refine (HBE.out _ B8.out).mono ?_); rintro er w9 ⟨rfl, v9, c9, h9, x9⟩))
          go_roundw
          case rel => exact ⟨m + 1, v9, c9, _, by go_num, by omega, hid h9, hid (by have := HNB.out; rw [HDD.out] at this; exact this), hid ((HBW.out.trans (B8.out.mono HBW.out.size)).trans (x9.below HSM.out.low (Nat.le_trans HBW.out.size B8.out.size)))⟩
          case measure => simp [intOf]; omega
        · obtain rfl : m = 16 := by omega
          have hbe := HBM.out
          have hic : sM.ic ≤ 2000 := by rw [hbe.ic]; have := HT.out.ic; rw [HLN.out] at this; have := HN2.out; omega
          have HSG : Hid (Spg3 out sM sM) := hid ⟨hbe.spr, .refl _, fun _ h => h, fun _ _ h => h, by have := hbe.len; omega⟩
          have HLK : Hid (∀ r, (sM.lnk r).length ≤ 1000) := hid (fun r => by rw [hbe.same.lnk]; have := HT.out.llen r; have := HLN.out; have := HN2.out; omega)
          clear hbe hic hlt2
          go_wp2_with fail
          obtain ⟨w4, hw4⟩ : ∃ w4, w4 = wr.alloc (.cells #[.func (.func 40) #[.pointer (some ⟨w.heap.size + 5, 0, none⟩)] #[], .func (.func 41) #[.pointer (some ⟨w.heap.size + 5, 0, none⟩)] #[], .func (.func 42) #[.pointer (some ⟨w.heap.size + 5, 0, none⟩)] #[]] 86) := ⟨_, rfl⟩
          have q4 : Below wr.heap.size wr w4 := by rw [hw4]; exact (Below.refl _ _).alloc (Nat.le_refl _) _
          have HSP := hid (spread3_any (HSM.out.below q4) out (by rw [HLN.out]; exact HN2.out) HSG.out HLK.out wr.heap.size 86 (by rw [hw4]; exact heap_alloc_new wr _) (HSM.out.free (Nat.le_refl _)))
          rw [← hw4]
          have HQ4 := hid (HBW.out.trans (q4.mono HBW.out.size))
          clear q4 hw4
          go_wp2_with (go_at_call 39; (refine HSP.out.mono ?_); rintro er w5 ⟨rfl, s5, v5, c5, h5, x5, g5, f5⟩)
          go_ret
          have hbe := HBM.out
          have hl5 : Laid out s5 := HT.out.laid.grew (hbe.same.trans g5.same) (fun r g hg => g5.inc r g (by rw [hbe.inc]; exact hg)) g5.spr.incS
          have hlo : out.length ≤ 1000 := by rw [HLN.out]; exact HN2.out
          refine ⟨_, _, _, _, _, _, v5, c5, s5, out, rfl, HCT.out, h5, ⟨hl5, end3 hl5 g5.spr f5 (fun x hx r hr => ?_), f5, (g5.kn_le hlo).2.2, hlo⟩, HQ4.out.trans (x5.below HSM.out.low HQ4.out.size)⟩
          obtain ⟨j, hj, rfl⟩ := (isD_iff x).1 hx
          exact g5.kn _ (hbe.kn j hj r (by rw [(hbe.same.trans g5.same).giv] at hr; exact hr))
end Go.Proofs.YtfbapbpggicfbaaGreatDoor.Sh
/-
  The document's own Less.
-/
namespace Go.Proofs.YtfbapbpggicfbaaGreatDoor.Sh
open Go Go.RowKit

def lessL (o n o' n' : ByteArray) : Bool := if o.data.toList = o'.data.toList then Go.Op.bytesLess n.data.toList n'.data.toList else Go.Op.bytesLess o.data.toList o'.data.toList
theorem refLess_any (o n o' n' : ByteArray) (w : World) :
    Calls Tryz.prog 63 #[.agg #[.string o, .string n], .agg #[.string o', .string n']] w fun e w' => e = .returned (.bool (lessL o n o' n')) ∧ Below w.heap.size w w' := by
  by_cases h : o.data.toList = o'.data.toList
  · have HE : Hid (lessL o n o' n' = Go.Op.bytesLess n.toList n'.toList) := hid (by unfold lessL; rw [if_pos h, Lib.toList_data, Lib.toList_data])
    have hb : (o.toList == o'.toList) = true := by rw [Lib.toList_data, Lib.toList_data, h]; simp
    clear h
    go_enter Tryz.func63, Tryz.ntmps63
    go_wp2
    go_ret
    exact ⟨by rw [HE.out]; rfl, ((Below.refl _ _).alloc (Nat.le_refl _) _).alloc (by rw [World.size_alloc]; exact Nat.le_succ _) _⟩
  · have HE : Hid (lessL o n o' n' = Go.Op.bytesLess o.toList o'.toList) := hid (by unfold lessL; rw [if_neg h, Lib.toList_data, Lib.toList_data])
    have hb : (o.toList == o'.toList) = false := by rw [Lib.toList_data, Lib.toList_data, beq_eq_false_iff_ne]; exact h
    clear h
    go_enter Tryz.func63, Tryz.ntmps63
    go_wp2
    go_ret
    exact ⟨by rw [HE.out]; rfl, ((Below.refl _ _).alloc (Nat.le_refl _) _).alloc (by rw [World.size_alloc]; exact Nat.le_succ _) _⟩
end Go.Proofs.YtfbapbpggicfbaaGreatDoor.Sh
/-
  The program's own Less, by contract.
-/
namespace Go.Proofs.YtfbapbpggicfbaaGreatDoor.Sh
open Go Go.RowKit

end Go.Proofs.YtfbapbpggicfbaaGreatDoor.Sh
