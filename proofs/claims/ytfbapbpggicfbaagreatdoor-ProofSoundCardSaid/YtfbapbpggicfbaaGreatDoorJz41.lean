/-
  The program's spread, with 2 rules, by contract.
-/
import Derived.Test.YtfbapbpggicfbaaGreatDoorJz40
import Derived.Test.YtfbapbpggicfbaaGreatDoorJz33
set_option linter.unusedVariables false
set_option linter.unusedSimpArgs false
namespace Go.Proofs.YtfbapbpggicfbaaGreatDoor.Sh
open Go Go.RowKit
open Go.Maps (Keyed)

set_option linter.unusedSimpArgs false
set_option linter.unusedVariables false
/-- Where the rounds stand. -/
structure Spg2 (l : List Crd) (who : ByteArray) (s0 s : St) : Prop where
  spr : Spr (· ∈ l) (· = who) none' none' tru s
  same : SameR s0 s
  kn : ∀ p ∈ s0.kn, p ∈ s.kn
  inc : ∀ r g, g ∈ s0.inc r → g ∈ s.inc r
  icb : s.ic ≤ 1000002000
theorem Spg2.kn_le {l : List Crd} {who : ByteArray} {s0 s : St} (h : Spg2 l who s0 s) (hl : l.length ≤ 1000) : s.kn.length ≤ 1000000 ∧ s.fr.length ≤ 1000000 ∧ s.ic ≤ 1000002000 := by
  have h1 := h.spr.kn_le
  have h2 := h.spr.fr_le
  have h3 := h.icb
  have h4 : l.length * l.length ≤ 1000 * 1000 := Nat.mul_le_mul hl hl
  omega
theorem Spg2.turn {l : List Crd} {who : ByteArray} {s0 s : St} (h : Spg2 l who s0 s) {q : Pr} {f0 : List Pr} (hf : s.fr = f0 ++ [q]) :
    Spg2 l who s0 (s.turn false q) ∧ (s.turn false q).kn.length + s.fr.length = s.kn.length + (s.turn false q).fr.length + 1 := by
  obtain ⟨a1, a2, a3, -, -⟩ := two_spr2 h.spr hf
  have et : s.turn false q = (s.pop.include q).both q := rfl
  rw [← et] at a1 a2 a3
  have hp := pop_len hf
  have hl := a2.len
  have e1 : s.pop.kn = s.kn := rfl
  rw [e1] at hl
  have hi := h.icb
  refine ⟨⟨a1, h.same.trans (⟨a2.same.giv, a2.same.bth, a2.same.lnk, a2.same.keys⟩), fun p hp => a2.kn p (h.kn p hp), fun r g hg => a2.inc r g (h.inc r g hg), by omega⟩, by omega⟩
def Rel2 (l : List Crd) (who : ByteArray) (w : World) (B sb b0 b1 b2 b3 b4 : Nat) (col : Col) (s : St) (wr : World) (m : Nat) : Prop :=
  ∃ (sC : St) (vC : Value) (cC : Col), Sol wr B sb b0 b1 b2 b3 b4 vC cC sC ∧ Ext Ma w wr col cC ∧ Spg2 l who s sC ∧ 1000000 + sC.fr.length = m + sC.kn.length
set_option maxHeartbeats 16000000 in
theorem spread2_any {B sb b0 b1 b2 b3 b4 : Nat} {vF : Value} {col : Col} {s : St} {w : World} (h : Sol w B sb b0 b1 b2 b3 b4 vF col s) (l : List Crd) (who : ByteArray) (hl : l.length ≤ 1000) (hS : Spg2 l who s s) (g : Nat) (t : TypeId) (hg : w.heap[g]? = some (.cells #[.func (.func 40) #[.pointer (some ⟨sb, 0, none⟩)] #[], .func (.func 41) #[.pointer (some ⟨sb, 0, none⟩)] #[]] t (0, 0))) (hc : col g = none) :
    Calls Tryz.prog 39 #[.pointer (some ⟨sb, 0, none⟩), .slice (some ⟨g, 0, none⟩) 2 2] w fun e w' => e = .returned (.tuple #[]) ∧ ∃ s' vF' col', Sol w' B sb b0 b1 b2 b3 b4 vF' col' s' ∧ Ext Ma w w' col col' ∧ Spg2 l who s s' ∧ s'.fr = [] := by
  have HG := hid hg
  have HC := hid hc
  have HH := hid h
  have HS0 := hid hS
  have HL : Hid (l.length ≤ 1000) := hid hl
  have hgl : g < w.heap.size := (Array.getElem?_eq_some_iff.1 hg).1
  clear hg hc h hS hl 
  go_enter Tryz.func39, Tryz.ntmps39
  go_wp2_with fail
  go_loopw [] (fun wr => ∃ m, Rel2 l who w B sb b0 b1 b2 b3 b4 col s wr m) (fun wr => Classical.epsilon (fun m => Rel2 l who w B sb b0 b1 b2 b3 b4 col s wr m ∧ ∀ k, Rel2 l who w B sb b0 b1 b2 b3 b4 col s wr k → m ≤ k))
  case atStart => exact ⟨1000000 + s.fr.length - s.kn.length, s, vF, col, HH.out, Ext.refl _ _ _, HS0.out, by have := (HS0.out.kn_le HL.out).1; omega⟩
  case round =>
    have hL := eps_least hrel
    obtain ⟨wo, hwo⟩ : ∃ x, x = wr := ⟨_, rfl⟩
    subst hwo
    obtain ⟨m, hm⟩ : ∃ m, Classical.epsilon (fun m => Rel2 l who w B sb b0 b1 b2 b3 b4 col s wo m ∧ ∀ k, Rel2 l who w B sb b0 b1 b2 b3 b4 col s wo k → m ≤ k) = m := ⟨_, rfl⟩
    rw [hm] at hL
    have HM := hid hm
    clear hrel hm
    obtain ⟨⟨sC, vC, cC, hs, hx, hg, hmm⟩, -⟩ := hL
    obtain ⟨A, c, rfl, hNc, hc63, hels⟩ := hs.fr.els
    obtain ⟨N, hN⟩ : ∃ N, sC.fr.length = N := ⟨_, rfl⟩
    have c5 := hs.cell.2.2.2.2.2
    rw [hN] at c5
    by_cases hlt : 0 < N
    · obtain ⟨f0, q, hf⟩ : ∃ f0 q, sC.fr = f0 ++ [q] := by
        rcases List.eq_nil_or_concat sC.fr with h | ⟨f0, q, h⟩
        · rw [h] at hN; simp at hN; omega
        · exact ⟨f0, q, by rw [h, List.concat_eq_append]⟩
      have hq : sC.fr[N - 1]? = some q := by
        rw [hf, List.getElem?_append_right (by have : f0.length + 1 = N := by rw [← hN, hf]; simp
                                               omega)]
        have : f0.length + 1 = N := by rw [← hN, hf]; simp
        rw [show N - 1 - f0.length = 0 by omega]; rfl
      have hokq := hs.sz.fr q (by rw [hf]; simp)
      obtain ⟨⟨o, nm⟩, wh⟩ := q
      obtain ⟨ad, aj, rfl, hab, ea, hbj, a0, ai⟩ := hels.get hq
      have a0 := a0 _ rfl
      have a1 := ai 1 _ (by omega) rfl
      have a2 := ai 2 _ (by omega) rfl
      have ea : ad.add ((N - 1) * 3) = aj := ea
      have hsl := hs.dom _ _ hs.csb
      have c5a : (wo.alloc (.cells #[.string o, .string nm, .string wh] 55)).cell? ⟨sb, 5, none⟩ = some (.slice (some ad) N c) := by
        rw [cell_of_row _ sb 5 _ _ (0, 0) (((MapKept.heap_alloc wo _).2 _ hsl).trans hs.row), ← hN]; rfl
      have f5a : (wo.alloc (.cells #[.string o, .string nm, .string wh] 55)).frozen? ⟨sb, 5, none⟩ = false := frozen_of_row _ sb 5 _ _ (((MapKept.heap_alloc wo _).2 _ hsl).trans hs.row)
      have hb := hg.kn_le HL.out
      have i0 : (0 : Int) < (N : Int) := by omega
      have i1 : (0 : Int) ≤ (N : Int) - 1 := by omega
      have i2 : (N : Int) - 1 < (N : Int) := by omega
      have i3 : ((N : Int) - 1).toNat = N - 1 := by omega
      have i4 : (N : Int) ≤ 9223372036854775807 := by omega
      have i5 : (N : Int) - 1 ≤ (c : Int) := by omega
      have HSC := hid hs
      have HXC := hid hx
      have HGC := hid hg
      have HF := hid hf
      have HMM := hid hmm
      have HOQ := hid hokq
      have HNN := hid hN
      have HBB := hid hb
      clear hs hx hg hf hmm hokq hN hels hq hab hbj ai hb
      go_wp2_with fail
      obtain ⟨w2, hw2⟩ : ∃ w2, w2 = (wo.setCell ⟨sb, 5, none⟩ (.slice (some ad) (N - 1) c)).alloc (.cells #[.string o, .string nm, .string wh] 55) := ⟨_, rfl⟩
      rw [← hw2]
      obtain ⟨hp0, hxp⟩ := HSC.out.popped
      rw [HNN.out] at hp0 hxp
      have hsz : (wo.setCell ⟨sb, 5, none⟩ (.slice (some ad) (N - 1) c)).heap.size = wo.heap.size := by simp
      have q2 : Below (wo.setCell ⟨sb, 5, none⟩ (.slice (some ad) (N - 1) c)).heap.size (wo.setCell ⟨sb, 5, none⟩ (.slice (some ad) (N - 1) c)) w2 := by rw [hw2]; exact (Below.refl _ _).alloc (Nat.le_refl _) _
      have HP2 := hid (hp0.below q2)
      have HX2 := hid (hxp.trans (Ext.of_below Ma cC q2))
      have bq2 : w2.heap[wo.heap.size]? = some (.cells #[.string o, .string nm, .string wh] 55 (0, 0)) := by rw [hw2, ← hsz]; exact heap_alloc_new _ _
      have HB2 := hid bq2
      have HB2l : Hid (wo.heap.size < w2.heap.size) := hid (Array.getElem?_eq_some_iff.1 bq2).1
      have HCN : Hid (cC wo.heap.size = none ∧ cC g = none ∧ g < wo.heap.size) := hid ⟨HSC.out.free (Nat.le_refl _), (HXC.out.col g hgl).trans HC.out, Nat.lt_of_lt_of_le hgl HXC.out.size⟩
      have HG2 : Hid (w2.heap[g]? = some (.cells #[.func (.func 40) #[.pointer (some ⟨sb, 0, none⟩)] #[], .func (.func 41) #[.pointer (some ⟨sb, 0, none⟩)] #[]] t (0, 0))) := hid ((HX2.out.free HCN.out.2.2 HCN.out.2.1).trans ((HXC.out.free hgl HC.out).trans HG.out))
      clear c5 c5a f5a a0 a1 a2 hp0 hxp q2 bq2 hw2 hsz i0 i1 i2 i3 i4 i5 ea hsl hNc hc63
      go_loopw [38] (fun i wr => ∃ (j : Nat) (vJ : Value) (cJ : Col), i = .int .i64 (j : Int) ∧ j ≤ 2 ∧ Hid (Sol wr B sb b0 b1 b2 b3 b4 vJ cJ (sC.upTo ((o, nm), wh) j)) ∧ Hid (Ext Ma w2 wr cC cJ) ∧ Hid ((sC.upTo ((o, nm), wh) j).kn.length ≤ 1000000 + j * 2000000000 ∧ (sC.upTo ((o, nm), wh) j).fr.length ≤ 1000000 + j * 2000000000 ∧ (j ≤ 2 → (sC.upTo ((o, nm), wh) j).ic ≤ 1000002000))) (fun i _ => 2 - (intOf i).toNat)
      case atStart => exact ⟨0, _, cC, rfl, by omega, HP2, hid (Ext.refl _ _ _), hid ⟨by have := HBB.out.1; show sC.kn.length ≤ _; omega, by have := HBB.out.2.1; show (sC.fr.take _).length ≤ _; rw [List.length_take]; omega, fun _ => HBB.out.2.2⟩⟩
      case round =>
        obtain ⟨j, vJ, cJ, rfl, hj, HSJ, HXJ, HBJ⟩ := hrel
        have gr := (HXJ.out.free (Nat.lt_trans HCN.out.2.2 HB2l.out) HCN.out.2.1).trans HG2.out
        have br := (HXJ.out.free HB2l.out HCN.out.1).trans HB2.out
        have j0 : wr.cell? ⟨wo.heap.size, 0, none⟩ = some (.string o) := by rw [cell_of_row wr _ 0 _ _ (0, 0) br]; rfl
        have j1 : wr.cell? ⟨wo.heap.size, 1, none⟩ = some (.string nm) := by rw [cell_of_row wr _ 1 _ _ (0, 0) br]; rfl
        have j2 : wr.cell? ⟨wo.heap.size, 2, none⟩ = some (.string wh) := by rw [cell_of_row wr _ 2 _ _ (0, 0) br]; rfl
        by_cases hj0 : j = 0
        · subst hj0
          have g0 : wr.cell? ⟨g, 0, none⟩ = some (.func (.func 40) #[.pointer (some ⟨sb, 0, none⟩)] #[]) := by rw [cell_of_row wr _ 0 _ _ (0, 0) gr]; rfl
          have HA := hid (include_any HSJ.out ((o, nm), wh) HOQ.out (by have := HBJ.out.1; have := HBJ.out.2.2 (by omega); omega) (by have := HBJ.out.2.1; have := HBJ.out.2.2 (by omega); omega))
          have hlen := adds_len wh (sC.pop.inc (o, nm)) sC.pop
          have hil := HSJ.out.incl HOQ.out.1
          have hic : (sC.upTo ((o, nm), wh) 0).ic ≤ 1000002000 := HBJ.out.2.2 (by omega)
          have hb1 : Hid ((sC.upTo ((o, nm), wh) 1).kn.length ≤ 1000000 + 1 * 2000000000 ∧ (sC.upTo ((o, nm), wh) 1).fr.length ≤ 1000000 + 1 * 2000000000 ∧ (1 ≤ 2 → (sC.upTo ((o, nm), wh) 1).ic ≤ 1000002000)) :=
            hid ⟨Nat.le_trans hlen.1 (by have := HBJ.out.1; change sC.pop.kn.length ≤ _ at this; change (sC.pop.inc (o, nm)).length ≤ sC.pop.ic at hil; change sC.pop.ic ≤ _ at hic; omega), Nat.le_trans hlen.2 (by have := HBJ.out.2.1; change sC.pop.fr.length ≤ _ at this; change (sC.pop.inc (o, nm)).length ≤ sC.pop.ic at hil; change sC.pop.ic ≤ _ at hic; omega),
              fun _ => by show (sC.pop.include _).ic ≤ _; rw [include_ic]; exact hic⟩
          clear hlen hil hic gr br
          simp only at HA
          go_wp2_with (go_at_call 40; (refine HA.out.mono ?_); rintro er w5 ⟨rfl, v5, c5, h5, x5⟩)
          go_roundw
          case rel => exact ⟨1, v5, c5, by go_num, by omega, hid h5, hid (HXJ.out.trans x5), hb1⟩
          case measure => simp [intOf]
        by_cases hj1 : j = 1
        · subst hj1
          have g0 : wr.cell? ⟨g, 1, none⟩ = some (.func (.func 41) #[.pointer (some ⟨sb, 0, none⟩)] #[]) := by rw [cell_of_row wr _ 1 _ _ (0, 0) gr]; rfl
          have HA := hid (both_any HSJ.out ((o, nm), wh) HOQ.out (by have := HBJ.out.1; have := HBJ.out.2.2 (by omega); omega) (by have := HBJ.out.2.1; have := HBJ.out.2.2 (by omega); omega))
          have hlen := boths_len ((o, nm), wh) ((sC.upTo ((o, nm), wh) 1).bth (o, nm)) (sC.upTo ((o, nm), wh) 1)
          have hil := HSJ.out.bthl HOQ.out.1
          have hic : (sC.upTo ((o, nm), wh) 1).ic ≤ 1000002000 := HBJ.out.2.2 (by omega)
          have hb1 : Hid ((sC.upTo ((o, nm), wh) 2).kn.length ≤ 1000000 + 2 * 2000000000 ∧ (sC.upTo ((o, nm), wh) 2).fr.length ≤ 1000000 + 2 * 2000000000 ∧ (2 ≤ 2 → (sC.upTo ((o, nm), wh) 2).ic ≤ 1000002000)) :=
            hid ⟨Nat.le_trans hlen.1 (by have := HBJ.out.1; simp only at hil; omega), Nat.le_trans hlen.2 (by have := HBJ.out.2.1; simp only at hil; omega), fun _ => by show ((sC.upTo ((o, nm), wh) 1).both _).ic ≤ _; rw [both_ic]; exact hic⟩
          clear hlen hil hic gr br hj0
          simp only at HA
          go_wp2_with (go_at_call 41; (refine HA.out.mono ?_); rintro er w5 ⟨rfl, v5, c5, h5, x5⟩)
          go_roundw
          case rel => exact ⟨2, v5, c5, by go_num, by omega, hid h5, hid (HXJ.out.trans x5), hb1⟩
          case measure => simp [intOf]
        obtain rfl : j = 2 := by omega
        have he : sC.upTo ((o, nm), wh) 2 = sC.turn false ((o, nm), wh) := rfl
        obtain ⟨hg2, hl2⟩ := HGC.out.turn HF.out
        have hsj := HSJ.out
        rw [he] at hsj
        have hnew : Rel2 l who w B sb b0 b1 b2 b3 b4 col s wr (m - 1) := ⟨_, vJ, cJ, hsj, (HXC.out.trans HX2.out).trans HXJ.out, hg2, by have h1 := HMM.out; have h2 := HBB.out; have h3 := HNN.out; omega⟩
        have hm0 : 0 < m := by have h1 := HMM.out; have h2 := HBB.out; have h3 := HNN.out; omega
        have HN := hid hnew
        clear gr br hj0 hj1 he hg2 hl2 hsj hnew
        go_wp2
        go_roundw
        case rel => exact ⟨m - 1, HN.out⟩
        case measure =>
          rw [HM.out]
          have := (eps_least ⟨_, HN.out⟩).2 _ HN.out
          omega
    · obtain rfl : N = 0 := by omega
      have HSC := hid hs
      have HXC := hid hx
      have HGC := hid hg
      have HNN := hid hN
      clear hs hx hg hN hmm hels
      go_wp2
      go_end0
      exact ⟨rfl, sC, _, cC, HSC.out, HXC.out, HGC.out, List.eq_nil_of_length_eq_zero HNN.out⟩
end Go.Proofs.YtfbapbpggicfbaaGreatDoor.Sh
/-
  The program's begin, by contract.
-/
namespace Go.Proofs.YtfbapbpggicfbaaGreatDoor.Sh
open Go Go.RowKit
open Go.Maps (Keyed)

set_option maxHeartbeats 4000000 in
theorem begin_any {B sb b0 b1 b2 b3 b4 : Nat} {vF : Value} {col : Col} {s : St} {w : World} (h : Sol w B sb b0 b1 b2 b3 b4 vF col s) (who : ByteArray) (hp : okB who) (hn : s.kn.length + s.ic ≤ 100000000000) (hf : s.fr.length + s.ic ≤ 100000000000) :
    Calls Tryz.prog 37 #[.pointer (some ⟨sb, 0, none⟩), .string who] w fun e w' => e = .returned (.tuple #[]) ∧ ∃ vF' col', Sol w' B sb b0 b1 b2 b3 b4 vF' col' (s.begin who) ∧ Ext Ma w w' col col' := by
  obtain ⟨v, hlook, hown, hlen, hvc⟩ := h.giv.look lawS Tryz.underlying75 so_z84 hp (keyS hp)
  obtain ⟨A, c, rfl, hNc, hc63, hels⟩ := hown.els
  obtain ⟨l, hl⟩ : ∃ l, s.giv who = l := ⟨_, rfl⟩
  rw [hl] at hown hlen hlook hNc hels hvc
  obtain ⟨N, hN⟩ : ∃ N, l.length = N := ⟨_, rfl⟩
  have k1 := h.cell.1
  have k4 := hlook w rfl
  rw [hN] at k4
  have HS1 := hid h
  have HE1 := hid hels
  have HVC := hid hvc
  have HP := hid hp
  have HLN := hid hN
  have HSZ : Hid (∀ r ∈ l, okR r) := hid (fun r hr => h.sz.giv who r (by rw [hl]; exact hr))
  have HNN : Hid (s.kn.length + N ≤ 100000000000 ∧ s.fr.length + N ≤ 100000000000) := hid ⟨by omega, by omega⟩
  have hii : s.begin who = l.foldl (fun s r => s.add (r, who)) s := by unfold St.begin; rw [hl]
  rw [hii]
  rw [hN] at hNc
  have hN63 : N ≤ 9223372036854775807 := by omega
  clear h hp hown hlook hvc hels hl hN hii hlen hn hf
  go_enter Tryz.func37, Tryz.ntmps37
  go_wp2_with fail
  clear k1 k4
  go_loopw [13] (fun i wr => ∃ (k : Nat) (vK : Value) (cK : Col), i = .int .i64 (k : Int) ∧ k ≤ N ∧ Hid (Sol wr B sb b0 b1 b2 b3 b4 vK cK ((l.take k).foldl (fun s r => s.add (r, who)) s)) ∧ Hid (Ext Ma w wr col cK)) (fun i _ => N - (intOf i).toNat)
  case atStart => exact ⟨0, vF, col, rfl, Nat.zero_le _, HS1, hid (Ext.refl Ma _ col)⟩
  case round =>
    obtain ⟨k, vK, cK, rfl, hk, HS, HX⟩ := hrel
    by_cases hlt : k < N
    · obtain ⟨⟨ro, rn⟩, hx⟩ : ∃ x, l[k]? = some x := ⟨_, List.getElem?_eq_getElem (by rw [HLN.out]; exact hlt)⟩
      have hel : Els encR wr w.heap.size A l := HE1.out.keep (fun ad e hb => HX.out.block _ hb (fun c hc => by
        have := HVC.out ad.block (by rw [e]; rfl)
        rw [this] at hc
        cases hc
        unfold Ma
        omega))
      obtain ⟨ad, aj, rfl, hab, ea, hbj, a0, ai⟩ := hel.get hx
      have a0 := a0 _ rfl
      have a1 := ai 1 _ (by omega) rfl
      have hk0 : (0 : Int) ≤ (k : Int) := Int.natCast_nonneg _
      have hk1 : (k : Int) < (N : Int) := by omega
      have hlen := adds_len who (l.take k) s
      have htk : (l.take k).length = k := by rw [List.length_take, HLN.out]; omega
      have hnx := foldl_take_succ (fun (s : St) (r : Rl) => s.add (r, who)) s hx
      have HA := hid (fun W (hW : Below wr.heap.size wr W) => (add_any (HS.out.below hW) ((ro, rn), who) ⟨HSZ.out _ (List.mem_of_getElem? hx), HP.out⟩ (by have := HNN.out; omega) (by have := HNN.out; omega)).mono
        (fun e w' hh => (⟨hh.1, by
          obtain ⟨-, v5, c5, h5, h6⟩ := hh
          exact ⟨v5, c5, hid (by rw [hnx]; exact h5), hid (HX.out.trans ((Ext.of_below Ma cK hW).trans h6))⟩⟩ : e = .returned (.tuple #[]) ∧ ∃ v5 c5, Hid (Sol w' B sb b0 b1 b2 b3 b4 v5 c5 ((l.take (k + 1)).foldl (fun s r => s.add (r, who)) s)) ∧ Hid (Ext Ma w w' col c5))))
      have ea : ad.add (k * 2) = aj := ea
      simp only at HA
      clear hx hel hab hbj ai hlen htk hnx HS HX
      go_wp2_with (go_at_call 58; (refine (HA.out _ (by first | exact (Below.refl _ _).alloc (Nat.le_refl _) _)).mono ?_); rintro er w5 ⟨rfl, v5, c5, HS5, HX5⟩)
      go_roundw
      case rel => exact ⟨k + 1, v5, c5, by go_num, by omega, HS5, HX5⟩
      case measure => simp [intOf]; omega
    · obtain rfl : N = k := by omega
      go_wp2
      go_end0
      have e1 : l.take N = l := List.take_of_length_le (by rw [HLN.out]; exact Nat.le_refl _)
      exact ⟨rfl, vK, cK, by have := HS.out; rwa [e1] at this, HX.out⟩
end Go.Proofs.YtfbapbpggicfbaaGreatDoor.Sh
/-
  The program's only, by contract.
-/
namespace Go.Proofs.YtfbapbpggicfbaaGreatDoor.Sh
open Go Go.RowKit
open Go.Maps (Keyed)

set_option linter.unusedSimpArgs false
set_option linter.unusedVariables false
/-- The rules stand as they do behind the first spreading. -/
structure Ready (l : List Crd) (s : St) : Prop where
  laid : Laid l s
  links : ∀ c ∈ l, c.kd = 3 → ∀ y, isD y → Imp (· ∈ l) (firstOf c, y) → roleOf c ∈ s.inc (y, c.bn)
  fr : s.fr = []
  ic : s.ic ≤ 1000002000
  len : l.length ≤ 1000
def St.clear (s : St) : St := { s with kn := [] }
section
variable {w : World} {B sb b0 b1 b2 b3 b4 : Nat} {vF : Value} {col : Col} {s : St}
/-- A new map in the place of what was known. -/
theorem Sol.cleared (h : Sol w B sb b0 b1 b2 b3 b4 vF col s) (hf : s.fr = []) : ∃ col', Sol ((w.alloc (.map #[] 0)).setCell ⟨sb, 4, none⟩ (.map (some w.heap.size))) B sb b0 b1 b2 b3 w.heap.size vF col' s.clear ∧
    Ext Ma w ((w.alloc (.map #[] 0)).setCell ⟨sb, 4, none⟩ (.map (some w.heap.size))) col col' := by
  have hsb := h.dom _ _ h.csb
  have hs : ((w.alloc (.map #[] 0)).setCell ⟨sb, 4, none⟩ (.map (some w.heap.size))).heap.size = w.heap.size + 1 := by simp
  have hfar : ∀ g, g < w.heap.size → g ≠ sb → ((w.alloc (.map #[] 0)).setCell ⟨sb, 4, none⟩ (.map (some w.heap.size))).heap[g]? = w.heap[g]? := fun g hg hne =>
    (Below.heap_setCell _ ⟨sb, 4, none⟩ _ g hne).trans ((MapKept.heap_alloc w _).2 g hg)
  have hF : ∀ (j : Nat), j = 1 ∨ j = 2 ∨ j = 3 ∨ j = 4 → ∀ g (k : Nat × Lit), col g = some k → k.1 = j ∨ k.1 = j + 10 → ((w.alloc (.map #[] 0)).setCell ⟨sb, 4, none⟩ (.map (some w.heap.size))).heap[g]? = w.heap[g]? := fun j hj g k e hk =>
    hfar g (h.dom g k e) (fun e' => by rw [e', h.csb] at e; cases e; simp at hk; omega)
  have hc : ∀ g, g < w.heap.size → (fun g => if g = w.heap.size then some (5, Lit.nil) else col g) g = col g := fun g hg => if_neg (by omega)
  have hm := World.ownsMap_made w Tryz.prog 55 (unitElem (H := Unit))
  have hb4 : ((w.alloc (.map #[] 0)).setCell ⟨sb, 4, none⟩ (.map (some w.heap.size))).heap[w.heap.size]? = (w.alloc (.map #[] 0)).heap[w.heap.size]? := Below.heap_setCell _ ⟨sb, 4, none⟩ _ _ (by simp only [ne_eq]; omega)
  refine ⟨fun g => if g = w.heap.size then some (5, Lit.nil) else col g, ⟨row5 (((MapKept.heap_alloc w _).2 sb hsb).trans h.row), (hc sb hsb).trans h.csb, h.giv.frame (hF 1 (by omega)) hc (Nat.le_refl _), h.inc.frame (hF 2 (by omega)) hc (Nat.le_refl _), h.bth.frame (hF 3 (by omega)) hc (Nat.le_refl _), h.lnk.frame (hF 4 (by omega)) hc (Nat.le_refl _),
    ?_, h.fr.kept (fun g e => hfar g (h.dom g _ (h.cfr g e)) (fun e' => by have := h.cfr g e; rw [e', h.csb] at this; cases this)), fun g e => (hc g (h.dom g _ (h.cfr g e))).trans (h.cfr g e), fun g hg => (hc g (Nat.lt_of_lt_of_le hg h.base)).trans (h.low g hg), by rw [hs]; have := h.base; omega, ?_,
    ⟨h.sz.giv, h.sz.inc, h.sz.bth, h.sz.lnk, fun p hp => (List.not_mem_nil hp).elim, h.sz.fr⟩⟩, ⟨rfl, rfl, rfl, by rw [hs]; omega, fun g hg hcg => hfar g hg (fun e => hcg (0, .nil) (e ▸ h.csb) (.inl rfl)), hc⟩⟩
  · obtain ⟨es, clock, g1, F, g2, g3⟩ := hm
    refine ⟨_, ⟨es, clock, hb4.trans g1, F, g2, g3⟩, fun p _ => ?_, fun z hz => ?_, if_pos rfl⟩
    · show Maps.has (DataW.map []) (kp p) = decide (p ∈ ([] : List Pr))
      simp [Maps.has]
    · simp [Maps.has] at hz
  · intro g c e
    rw [hs]
    by_cases hg : g = w.heap.size
    · omega
    · have := h.dom g c (by rw [← e]; exact (if_neg hg).symm)
      omega
end
set_option maxHeartbeats 8000000 in
theorem only_any {B sb b0 b1 b2 b3 b4 : Nat} {vF : Value} {col : Col} {s : St} {w : World} (h : Sol w B sb b0 b1 b2 b3 b4 vF col s) (l : List Crd) (hR : Ready l s) (who : ByteArray) (hw : okB who) :
    Calls Tryz.prog 19 #[.pointer (some ⟨sb, 0, none⟩), .string who] w fun e w' => e = .returned (.tuple #[]) ∧ ∃ b4' vF' col' s', Sol w' B sb b0 b1 b2 b3 b4' vF' col' s' ∧ Ext Ma w w' col col' ∧ Ready l s' ∧ s'.giv = s.giv ∧ s'.keys = s.keys ∧ s'.kn.Nodup ∧ ∀ p, p ∈ s'.kn ↔ Imp (· ∈ l) p ∧ p.2 = who := by
  obtain ⟨col1, h1, x1⟩ := h.cleared hR.fr
  obtain ⟨w1, hw1⟩ : ∃ w1, w1 = (w.alloc (.map #[] 0)).setCell ⟨sb, 4, none⟩ (.map (some w.heap.size)) := ⟨_, rfl⟩
  rw [← hw1] at h1 x1
  have hsb := h.dom _ _ h.csb
  have c4 : (w.alloc (.map #[] 0)).cell? ⟨sb, 4, none⟩ = some (.map (some b4)) := by rw [cell_of_row _ sb 4 _ _ (0, 0) (((MapKept.heap_alloc w _).2 sb hsb).trans h.row)]; rfl
  have f4 : (w.alloc (.map #[] 0)).frozen? ⟨sb, 4, none⟩ = false := frozen_of_row _ sb 4 _ _ (((MapKept.heap_alloc w _).2 sb hsb).trans h.row)
  have hmm := @run_makeMap Tryz.prog
  have hk : s.clear.kn = [] := rfl
  have hl1 : Laid l s.clear := hR.laid.grew ⟨rfl, rfl, rfl, rfl⟩ (fun _ _ h => h) hR.laid.incS
  have hsp := hl1.spr (· = who) tru hk hR.fr
  have hin : ∀ r ∈ s.clear.giv who, Imp (· ∈ l) (r, who) := fun r hr => by
    obtain ⟨c, hc, h1, rfl, rfl⟩ := (hl1.giv who r).1 hr
    exact .mem hc h1
  obtain ⟨a1, a2, a3, a4, a5⟩ := adds_spr (X := (· = who)) who rfl (s.clear.giv who) hsp hin
  have eb : s.clear.begin who = (s.clear.giv who).foldl (fun s r => s.add (r, who)) s.clear := rfl
  rw [← eb] at a1 a2 a3 a4 a5
  have hic : s.clear.ic = s.ic := rfl
  have HB := hid (begin_any h1 who hw (by rw [hk, hic]; have := hR.ic; simp; omega) (by rw [show s.clear.fr = [] from hR.fr, hic]; have := hR.ic; simp; omega))
  have HS2 : Hid (Spg2 l who (s.clear.begin who) (s.clear.begin who)) := hid ⟨a1, .refl _, fun _ h => h, fun _ _ h => h, by rw [a4, hic]; exact hR.ic⟩
  have HR := hid hR
  have HX1 := hid x1
  have HA2 := hid a2
  have HA3 := hid a3
  have HA5 := hid a5
  have HL1 := hid hl1
  clear h h1 x1 hR hw hk hl1 hsp hin a1 a2 a3 a4 a5 eb hic hsb
  go_enter Tryz.func19, Tryz.ntmps19
  go_wp2_with fail
  rw [← hw1]
  clear c4 f4 hmm hw1
  go_wp2_with (go_at_call 37; (refine HB.out.mono ?_); rintro er w3 ⟨rfl, v3, c3, h3, x3⟩)
  obtain ⟨w4, hw4⟩ : ∃ w4, w4 = w3.alloc (.cells #[.func (.func 40) #[.pointer (some ⟨sb, 0, none⟩)] #[], .func (.func 41) #[.pointer (some ⟨sb, 0, none⟩)] #[]] 86) := ⟨_, rfl⟩
  have q4 : Below w3.heap.size w3 w4 := by rw [hw4]; exact (Below.refl _ _).alloc (Nat.le_refl _) _
  have HSP := hid (spread2_any (h3.below q4) l who HR.out.len HS2.out w3.heap.size 86 (by rw [hw4]; exact heap_alloc_new w3 _) (h3.free (Nat.le_refl _)))
  rw [← hw4]
  have HX4 := hid ((HX1.out.trans x3).trans (Ext.of_below Ma c3 q4))
  clear h3 x3 q4 hw4
  go_wp2_with (go_at_call 39; (refine HSP.out.mono ?_); rintro er w5 ⟨rfl, s5, v5, c5, h5, x5, g5, f5⟩)
  go_end0
  have hl5 : Laid l s5 := HL1.out.grew ((HA2.out.same).trans g5.same) (fun r g hg => g5.inc r g (by rw [HA3.out]; exact hg)) g5.spr.incS
  have hi5 : ∀ c ∈ l, c.kd = 3 → ∀ y, isD y → Imp (· ∈ l) (firstOf c, y) → roleOf c ∈ s5.inc (y, c.bn) := fun c hc h3 y hy hi => g5.inc _ _ (by rw [HA3.out]; exact HR.out.links c hc h3 y hy hi)
  have hg5 : s5.giv = s.giv := g5.same.giv.trans HA2.out.same.giv
  exact ⟨rfl, _, v5, c5, s5, h5, HX4.out.trans x5, ⟨hl5, hi5, f5, g5.icb, HR.out.len⟩, hg5, g5.same.keys.trans HA2.out.same.keys, g5.spr.nd,
    end2 hl5 hi5 g5.spr f5 (fun r hr => g5.kn _ (HA5.out r (by rw [hg5] at hr; exact hr)))⟩
end Go.Proofs.YtfbapbpggicfbaaGreatDoor.Sh
