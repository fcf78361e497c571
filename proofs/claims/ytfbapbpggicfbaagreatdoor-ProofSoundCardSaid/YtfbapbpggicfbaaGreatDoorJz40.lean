/-
  The program's spread, with 3 rules, by contract.
-/
import Derived.Test.YtfbapbpggicfbaaGreatDoorJz39
set_option linter.unusedVariables false
set_option linter.unusedSimpArgs false
namespace Go.Proofs.YtfbapbpggicfbaaGreatDoor.Sh
open Go Go.RowKit
open Go.Maps (Keyed)

set_option linter.unusedSimpArgs false
set_option linter.unusedVariables false
/-- Where the rounds stand. -/
structure Spg3 (l : List Crd) (s0 s : St) : Prop where
  spr : Spr (· ∈ l) isD none' none' none' s
  same : SameR s0 s
  kn : ∀ p ∈ s0.kn, p ∈ s.kn
  inc : ∀ r g, g ∈ s0.inc r → g ∈ s.inc r
  icb : s.ic + s.fr.length * 1000 ≤ 2000 + s.kn.length * 1000
theorem Spg3.kn_le {l : List Crd} {s0 s : St} (h : Spg3 l s0 s) (hl : l.length ≤ 1000) : s.kn.length ≤ 1000000 ∧ s.fr.length ≤ 1000000 ∧ s.ic ≤ 1000002000 := by
  have h1 := h.spr.kn_le
  have h2 := h.spr.fr_le
  have h3 := h.icb
  have h4 : l.length * l.length ≤ 1000 * 1000 := Nat.mul_le_mul hl hl
  omega
theorem Spg3.turn {l : List Crd} {s0 s : St} (h : Spg3 l s0 s) (hlk : ∀ r, (s0.lnk r).length ≤ 1000) {q : Pr} {f0 : List Pr} (hf : s.fr = f0 ++ [q]) :
    Spg3 l s0 (s.turn true q) ∧ (s.turn true q).kn.length + s.fr.length = s.kn.length + (s.turn true q).fr.length + 1 := by
  obtain ⟨a1, a2, a3⟩ := turn3_spr h.spr hf
  have hp := pop_len hf
  have hl := a2.len
  have e1 : s.pop.kn = s.kn := rfl
  have e2 : s.lnk = s0.lnk := h.same.lnk
  have hb := hlk q.1
  rw [← e2] at hb
  rw [e1] at hl
  have hi := h.icb
  refine ⟨⟨a1, h.same.trans (⟨a2.same.giv, a2.same.bth, a2.same.lnk, a2.same.keys⟩), fun p hp => a2.kn p (h.kn p hp), fun r g hg => a2.inc r g (h.inc r g hg), by omega⟩, by omega⟩
/-- The first rules of a turn. -/
def St.upTo (s : St) (q : Pr) : Nat → St
  | 0 => s.pop
  | 1 => s.pop.include q
  | 2 => (s.pop.include q).both q
  | _ => ((s.pop.include q).both q).link q
theorem eps_least {P : Nat → Prop} (h : ∃ m, P m) : P (Classical.epsilon (fun m => P m ∧ ∀ k, P k → m ≤ k)) ∧ ∀ k, P k → Classical.epsilon (fun m => P m ∧ ∀ k, P k → m ≤ k) ≤ k := by
  have key : ∀ n, ∀ m, m ≤ n → P m → ∃ m, P m ∧ ∀ k, P k → m ≤ k := by
    intro n
    induction n with
    | zero => exact fun m hm hp => ⟨m, hp, fun k _ => by omega⟩
    | succ n ih =>
      intro m hm hp
      by_cases hex : ∃ k, k ≤ n ∧ P k
      · obtain ⟨k, hk, hpk⟩ := hex
        exact ih k hk hpk
      · refine ⟨m, hp, fun k hk => ?_⟩
        have : ¬ k ≤ n := fun hkn => hex ⟨k, hkn, hk⟩
        omega
  obtain ⟨m, hm⟩ := h
  exact Classical.epsilon_spec (key m m (Nat.le_refl _) hm)
def Rel3 (l : List Crd) (w : World) (B sb b0 b1 b2 b3 b4 : Nat) (col : Col) (s : St) (wr : World) (m : Nat) : Prop :=
  ∃ (sC : St) (vC : Value) (cC : Col), Sol wr B sb b0 b1 b2 b3 b4 vC cC sC ∧ Ext Ml w wr col cC ∧ Spg3 l s sC ∧ 1000000 + sC.fr.length = m + sC.kn.length
set_option maxHeartbeats 16000000 in
theorem spread3_any {B sb b0 b1 b2 b3 b4 : Nat} {vF : Value} {col : Col} {s : St} {w : World} (h : Sol w B sb b0 b1 b2 b3 b4 vF col s) (l : List Crd) (hl : l.length ≤ 1000) (hS : Spg3 l s s) (hlk : ∀ r, (s.lnk r).length ≤ 1000) (g : Nat) (t : TypeId) (hg : w.heap[g]? = some (.cells #[.func (.func 40) #[.pointer (some ⟨sb, 0, none⟩)] #[], .func (.func 41) #[.pointer (some ⟨sb, 0, none⟩)] #[], .func (.func 42) #[.pointer (some ⟨sb, 0, none⟩)] #[]] t (0, 0))) (hc : col g = none) :
    Calls Tryz.prog 39 #[.pointer (some ⟨sb, 0, none⟩), .slice (some ⟨g, 0, none⟩) 3 3] w fun e w' => e = .returned (.tuple #[]) ∧ ∃ s' vF' col', Sol w' B sb b0 b1 b2 b3 b4 vF' col' s' ∧ Ext Ml w w' col col' ∧ Spg3 l s s' ∧ s'.fr = [] := by
  have HG := hid hg
  have HC := hid hc
  have HH := hid h
  have HS0 := hid hS
  have HL : Hid (l.length ≤ 1000) := hid hl
  have HLK : Hid (∀ r, (s.lnk r).length ≤ 1000) := hid hlk
  have hgl : g < w.heap.size := (Array.getElem?_eq_some_iff.1 hg).1
  clear hg hc h hS hl hlk
  go_enter Tryz.func39, Tryz.ntmps39
  go_wp2_with fail
  go_loopw [] (fun wr => ∃ m, Rel3 l w B sb b0 b1 b2 b3 b4 col s wr m) (fun wr => Classical.epsilon (fun m => Rel3 l w B sb b0 b1 b2 b3 b4 col s wr m ∧ ∀ k, Rel3 l w B sb b0 b1 b2 b3 b4 col s wr k → m ≤ k))
  case atStart => exact ⟨1000000 + s.fr.length - s.kn.length, s, vF, col, HH.out, Ext.refl _ _ _, HS0.out, by have := (HS0.out.kn_le HL.out).1; omega⟩
  case round =>
    have hL := eps_least hrel
    obtain ⟨wo, hwo⟩ : ∃ x, x = wr := ⟨_, rfl⟩
    subst hwo
    obtain ⟨m, hm⟩ : ∃ m, Classical.epsilon (fun m => Rel3 l w B sb b0 b1 b2 b3 b4 col s wo m ∧ ∀ k, Rel3 l w B sb b0 b1 b2 b3 b4 col s wo k → m ≤ k) = m := ⟨_, rfl⟩
    rw [hm] at hL
    have HM := hid hm
    clear hrel hm
    obtain ⟨⟨sC, vC, cC, hs, hx, hg, hmm⟩, -⟩ := hL
    obtain ⟨A, c, rfl, hNc, hc63, hels⟩ := hs.fr.els
    obtain ⟨N, hN⟩ : ∃ N, sC.fr.length = N := ⟨_, rfl⟩
    have c5 := hs.cell.2.2.2.2.2
    rw [hN] at c5
    by_cases hlt : 0 < N
    · obtain ⟨f0, q, hf⟩ : ∃ f0 q, sC.fr = f0 ++ [q] := by
        rcases List.eq_nil_or_concat sC.fr with h | ⟨f0, q, h⟩
        · rw [h] at hN; simp at hN; omega
        · exact ⟨f0, q, by rw [h, List.concat_eq_append]⟩
      have hq : sC.fr[N - 1]? = some q := by
        rw [hf, List.getElem?_append_right (by have : f0.length + 1 = N := by rw [← hN, hf]; simp
                                               omega)]
        have : f0.length + 1 = N := by rw [← hN, hf]; simp
        rw [show N - 1 - f0.length = 0 by omega]; rfl
      have hokq := hs.sz.fr q (by rw [hf]; simp)
      obtain ⟨⟨o, nm⟩, wh⟩ := q
      obtain ⟨ad, aj, rfl, hab, ea, hbj, a0, ai⟩ := hels.get hq
      have a0 := a0 _ rfl
      have a1 := ai 1 _ (by omega) rfl
      have a2 := ai 2 _ (by omega) rfl
      have ea : ad.add ((N - 1) * 3) = aj := ea
      have hsl := hs.dom _ _ hs.csb
      have c5a : (wo.alloc (.cells #[.string o, .string nm, .string wh] 55)).cell? ⟨sb, 5, none⟩ = some (.slice (some ad) N c) := by
        rw [cell_of_row _ sb 5 _ _ (0, 0) (((MapKept.heap_alloc wo _).2 _ hsl).trans hs.row), ← hN]; rfl
      have f5a : (wo.alloc (.cells #[.string o, .string nm, .string wh] 55)).frozen? ⟨sb, 5, none⟩ = false := frozen_of_row _ sb 5 _ _ (((MapKept.heap_alloc wo _).2 _ hsl).trans hs.row)
      have hb := hg.kn_le HL.out
      have i0 : (0 : Int) < (N : Int) := by omega
      have i1 : (0 : Int) ≤ (N : Int) - 1 := by omega
      have i2 : (N : Int) - 1 < (N : Int) := by omega
      have i3 : ((N : Int) - 1).toNat = N - 1 := by omega
      have i4 : (N : Int) ≤ 9223372036854775807 := by omega
      have i5 : (N : Int) - 1 ≤ (c : Int) := by omega
      have HSC := hid hs
      have HXC := hid hx
      have HGC := hid hg
      have HF := hid hf
      have HMM := hid hmm
      have HOQ := hid hokq
      have HNN := hid hN
      have HBB := hid hb
      clear hs hx hg hf hmm hokq hN hels hq hab hbj ai hb
      go_wp2_with fail
      obtain ⟨w2, hw2⟩ : ∃ w2, w2 = (wo.setCell ⟨sb, 5, none⟩ (.slice (some ad) (N - 1) c)).alloc (.cells #[.string o, .string nm, .string wh] 55) := ⟨_, rfl⟩
      rw [← hw2]
      obtain ⟨hp0, hxp⟩ := HSC.out.popped
      rw [HNN.out] at hp0 hxp
      have hsz : (wo.setCell ⟨sb, 5, none⟩ (.slice (some ad) (N - 1) c)).heap.size = wo.heap.size := by simp
      have q2 : Below (wo.setCell ⟨sb, 5, none⟩ (.slice (some ad) (N - 1) c)).heap.size (wo.setCell ⟨sb, 5, none⟩ (.slice (some ad) (N - 1) c)) w2 := by rw [hw2]; exact (Below.refl _ _).alloc (Nat.le_refl _) _
      have HP2 := hid (hp0.below q2)
      have HX2 := hid (hxp.trans (Ext.of_below Ma cC q2))
      have bq2 : w2.heap[wo.heap.size]? = some (.cells #[.string o, .string nm, .string wh] 55 (0, 0)) := by rw [hw2, ← hsz]; exact heap_alloc_new _ _
      have HB2 := hid bq2
      have HB2l : Hid (wo.heap.size < w2.heap.size) := hid (Array.getElem?_eq_some_iff.1 bq2).1
      have HCN : Hid (cC wo.heap.size = none ∧ cC g = none ∧ g < wo.heap.size) := hid ⟨HSC.out.free (Nat.le_refl _), (HXC.out.col g hgl).trans HC.out, Nat.lt_of_lt_of_le hgl HXC.out.size⟩
      have HG2 : Hid (w2.heap[g]? = some (.cells #[.func (.func 40) #[.pointer (some ⟨sb, 0, none⟩)] #[], .func (.func 41) #[.pointer (some ⟨sb, 0, none⟩)] #[], .func (.func 42) #[.pointer (some ⟨sb, 0, none⟩)] #[]] t (0, 0))) := hid ((HX2.out.free HCN.out.2.2 HCN.out.2.1).trans ((HXC.out.free hgl HC.out).trans HG.out))
      clear c5 c5a f5a a0 a1 a2 hp0 hxp q2 bq2 hw2 hsz i0 i1 i2 i3 i4 i5 ea hsl hNc hc63
      go_loopw [38] (fun i wr => ∃ (j : Nat) (vJ : Value) (cJ : Col), i = .int .i64 (j : Int) ∧ j ≤ 3 ∧ Hid (Sol wr B sb b0 b1 b2 b3 b4 vJ cJ (sC.upTo ((o, nm), wh) j)) ∧ Hid (Ext Ml w2 wr cC cJ) ∧ Hid ((sC.upTo ((o, nm), wh) j).kn.length ≤ 1000000 + j * 2000000000 ∧ (sC.upTo ((o, nm), wh) j).fr.length ≤ 1000000 + j * 2000000000 ∧ (j ≤ 2 → (sC.upTo ((o, nm), wh) j).ic ≤ 1000002000))) (fun i _ => 3 - (intOf i).toNat)
      case atStart => exact ⟨0, _, cC, rfl, by omega, HP2, hid (Ext.refl _ _ _), hid ⟨by have := HBB.out.1; show sC.kn.length ≤ _; omega, by have := HBB.out.2.1; show (sC.fr.take _).length ≤ _; rw [List.length_take]; omega, fun _ => HBB.out.2.2⟩⟩
      case round =>
        obtain ⟨j, vJ, cJ, rfl, hj, HSJ, HXJ, HBJ⟩ := hrel
        have gr := (HXJ.out.free (Nat.lt_trans HCN.out.2.2 HB2l.out) HCN.out.2.1).trans HG2.out
        have br := (HXJ.out.free HB2l.out HCN.out.1).trans HB2.out
        have j0 : wr.cell? ⟨wo.heap.size, 0, none⟩ = some (.string o) := by rw [cell_of_row wr _ 0 _ _ (0, 0) br]; rfl
        have j1 : wr.cell? ⟨wo.heap.size, 1, none⟩ = some (.string nm) := by rw [cell_of_row wr _ 1 _ _ (0, 0) br]; rfl
        have j2 : wr.cell? ⟨wo.heap.size, 2, none⟩ = some (.string wh) := by rw [cell_of_row wr _ 2 _ _ (0, 0) br]; rfl
        by_cases hj0 : j = 0
        · subst hj0
          have g0 : wr.cell? ⟨g, 0, none⟩ = some (.func (.func 40) #[.pointer (some ⟨sb, 0, none⟩)] #[]) := by rw [cell_of_row wr _ 0 _ _ (0, 0) gr]; rfl
          have HA := hid (include_any HSJ.out ((o, nm), wh) HOQ.out (by have := HBJ.out.1; have := HBJ.out.2.2 (by omega); omega) (by have := HBJ.out.2.1; have := HBJ.out.2.2 (by omega); omega))
          have hlen := adds_len wh (sC.pop.inc (o, nm)) sC.pop
          have hil := HSJ.out.incl HOQ.out.1
          have hic : (sC.upTo ((o, nm), wh) 0).ic ≤ 1000002000 := HBJ.out.2.2 (by omega)
          have hb1 : Hid ((sC.upTo ((o, nm), wh) 1).kn.length ≤ 1000000 + 1 * 2000000000 ∧ (sC.upTo ((o, nm), wh) 1).fr.length ≤ 1000000 + 1 * 2000000000 ∧ (1 ≤ 2 → (sC.upTo ((o, nm), wh) 1).ic ≤ 1000002000)) :=
            hid ⟨Nat.le_trans hlen.1 (by have := HBJ.out.1; change sC.pop.kn.length ≤ _ at this; change (sC.pop.inc (o, nm)).length ≤ sC.pop.ic at hil; change sC.pop.ic ≤ _ at hic; omega), Nat.le_trans hlen.2 (by have := HBJ.out.2.1; change sC.pop.fr.length ≤ _ at this; change (sC.pop.inc (o, nm)).length ≤ sC.pop.ic at hil; change sC.pop.ic ≤ _ at hic; omega),
              fun _ => by show (sC.pop.include _).ic ≤ _; rw [include_ic]; exact hic⟩
          clear hlen hil hic gr br
          simp only at HA
          go_wp2_with (go_at_call 40; (refine HA.out.mono ?_); rintro er w5 ⟨rfl, v5, c5, h5, x5⟩)
          go_roundw
          case rel => exact ⟨1, v5, c5, by go_num, by omega, hid h5, hid (HXJ.out.trans (x5.mono (fun i hi => Or.inl hi))), hb1⟩
          case measure => simp [intOf]
        by_cases hj1 : j = 1
        · subst hj1
          have g0 : wr.cell? ⟨g, 1, none⟩ = some (.func (.func 41) #[.pointer (some ⟨sb, 0, none⟩)] #[]) := by rw [cell_of_row wr _ 1 _ _ (0, 0) gr]; rfl
          have HA := hid (both_any HSJ.out ((o, nm), wh) HOQ.out (by have := HBJ.out.1; have := HBJ.out.2.2 (by omega); omega) (by have := HBJ.out.2.1; have := HBJ.out.2.2 (by omega); omega))
          have hlen := boths_len ((o, nm), wh) ((sC.upTo ((o, nm), wh) 1).bth (o, nm)) (sC.upTo ((o, nm), wh) 1)
          have hil := HSJ.out.bthl HOQ.out.1
          have hic : (sC.upTo ((o, nm), wh) 1).ic ≤ 1000002000 := HBJ.out.2.2 (by omega)
          have hb1 : Hid ((sC.upTo ((o, nm), wh) 2).kn.length ≤ 1000000 + 2 * 2000000000 ∧ (sC.upTo ((o, nm), wh) 2).fr.length ≤ 1000000 + 2 * 2000000000 ∧ (2 ≤ 2 → (sC.upTo ((o, nm), wh) 2).ic ≤ 1000002000)) :=
            hid ⟨Nat.le_trans hlen.1 (by have := HBJ.out.1; simp only at hil; omega), Nat.le_trans hlen.2 (by have := HBJ.out.2.1; simp only at hil; omega), fun _ => by show ((sC.upTo ((o, nm), wh) 1).both _).ic ≤ _; rw [both_ic]; exact hic⟩
          clear hlen hil hic gr br hj0
          simp only at HA
          go_wp2_with (go_at_call 41; (refine HA.out.mono ?_); rintro er w5 ⟨rfl, v5, c5, h5, x5⟩)
          go_roundw
          case rel => exact ⟨2, v5, c5, by go_num, by omega, hid h5, hid (HXJ.out.trans (x5.mono (fun i hi => Or.inl hi))), hb1⟩
          case measure => simp [intOf]
        by_cases hj2 : j = 2
        · subst hj2
          have g0 : wr.cell? ⟨g, 2, none⟩ = some (.func (.func 42) #[.pointer (some ⟨sb, 0, none⟩)] #[]) := by rw [cell_of_row wr _ 2 _ _ (0, 0) gr]; rfl
          have HA := hid (link_any HSJ.out ((o, nm), wh) HOQ.out (by have := HBJ.out.1; have := HBJ.out.2.2 (by omega); omega) (by have := HBJ.out.2.1; have := HBJ.out.2.2 (by omega); omega))
          have hg3 := (HGC.out.turn HLK.out HF.out).1.kn_le HL.out
          have hb1 : Hid ((sC.upTo ((o, nm), wh) 3).kn.length ≤ 1000000 + 3 * 2000000000 ∧ (sC.upTo ((o, nm), wh) 3).fr.length ≤ 1000000 + 3 * 2000000000 ∧ (3 ≤ 2 → (sC.upTo ((o, nm), wh) 3).ic ≤ 1000002000)) :=
            hid ⟨Nat.le_trans hg3.1 (by omega), Nat.le_trans hg3.2.1 (by omega), fun h => absurd h (by omega)⟩
          clear hg3 gr br hj0 hj1
          simp only at HA
          go_wp2_with (go_at_call 42; (refine HA.out.mono ?_); rintro er w5 ⟨rfl, v5, c5, h5, x5⟩)
          go_roundw
          case rel => exact ⟨3, v5, c5, by go_num, by omega, hid h5, hid (HXJ.out.trans x5), hb1⟩
          case measure => simp [intOf]
        obtain rfl : j = 3 := by omega
        have he : sC.upTo ((o, nm), wh) 3 = sC.turn true ((o, nm), wh) := rfl
        obtain ⟨hg2, hl2⟩ := HGC.out.turn HLK.out HF.out
        have hsj := HSJ.out
        rw [he] at hsj
        have hnew : Rel3 l w B sb b0 b1 b2 b3 b4 col s wr (m - 1) := ⟨_, vJ, cJ, hsj, (HXC.out.trans (HX2.out.mono (fun i hi => Or.inl hi))).trans HXJ.out, hg2, by have h1 := HMM.out; have h2 := HBB.out; have h3 := HNN.out; omega⟩
        have hm0 : 0 < m := by have h1 := HMM.out; have h2 := HBB.out; have h3 := HNN.out; omega
        have HN := hid hnew
        clear gr br hj0 hj1 hj2 he hg2 hl2 hsj hnew
        go_wp2
        go_roundw
        case rel => exact ⟨m - 1, HN.out⟩
        case measure =>
          rw [HM.out]
          have := (eps_least ⟨_, HN.out⟩).2 _ HN.out
          omega
    · obtain rfl : N = 0 := by omega
      have HSC := hid hs
      have HXC := hid hx
      have HGC := hid hg
      have HNN := hid hN
      clear hs hx hg hN hmm hels
      go_wp2
      go_end0
      exact ⟨rfl, sC, _, cC, HSC.out, HXC.out, HGC.out, List.eq_nil_of_length_eq_zero HNN.out⟩
end Go.Proofs.YtfbapbpggicfbaaGreatDoor.Sh
