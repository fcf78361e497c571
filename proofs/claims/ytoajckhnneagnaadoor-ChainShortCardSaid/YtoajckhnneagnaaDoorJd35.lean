/-
  The search's accept, by contract, given that explain keeps its own for pairs of lesser rounds.
-/
import Derived.Test.YtoajckhnneagnaaDoorJd34
set_option linter.unusedVariables false
set_option linter.unusedSimpArgs false
namespace Go.Proofs.YtoajckhnneagnaaDoor.Sh
open Go Go.RowKit
open Go.Maps (Keyed)

set_option linter.unusedVariables false
set_option linter.unusedSimpArgs false
structure Sch (L : Ly) (s : Se) : Prop where
  P : ∀ i, i < 16 → L.P (i + 1) = domN i
  rn : ∀ q, q.2 ∈ L.pe → s.rn q = rd L.cs q
  giv : ∀ r, s.giv r = L.cs.filter fun c => mat L.pe c && decide (roleOf c = r)
  may : ∀ c ∈ L.cs, mayC c = true
  few : L.cs.length ≤ 50
theorem Rkd.sch {L : Ly} {who : ByteArray} {x : Sx} (h : Rkd L who x) : Sch L x.s := ⟨h.P, h.rn, h.giv, h.may, h.few⟩
section
variable {L : Ly} {s : Se} {p : Pr}
theorem Sch.pe (h : Sch L s) (i : Nat) (hi : i < 16) : domN i ∈ L.pe := by
  rw [← h.P i hi]; exact List.mem_map.2 ⟨i + 1, List.mem_range.2 (by omega), rfl⟩
theorem Sch.near (h : Sch L s) (hp : p.2 ∈ L.pe) {q : Pr} (hq : q.2 = p.2 ∨ isD q.2) : q.2 ∈ L.pe := by
  rcases hq with hq | hq
  · rw [hq]; exact hp
  · exact pe_isD h.pe hq
theorem Sch.le (h : Sch L s) (hp : p.2 ∈ L.pe) : rd L.cs p ≤ 850 := by
  have h1 := rd_bound (cs := L.cs) h.pe hp
  have h2 := h.few
  rw [pe_len] at h1
  omega
theorem Sch.why (h : Sch L s) (hp : p.2 ∈ L.pe) (c : Crd) (m : Nat) : why c (s.lt (m + 1)) p = Sh.why c (Lv L.cs m) p := by
  refine why_congr fun q hq => ?_
  unfold Se.lt
  rw [h.rn q (h.near hp hq), rd_lv]
  omega
end
structure ReI (cs : List Crd) (pe : List ByteArray) (re : Why) (nr : Nat) : Prop where
  ok : ReOk cs re
  pe : ∀ q, re q ≠ none → q.2 ∈ pe
  ks : ∃ ks : List Pr, ks.Nodup ∧ ks.length = nr ∧ ∀ q, q ∈ ks ↔ re q ≠ none
section
variable {cs : List Crd} {pe : List ByteArray} {re : Why} {nr : Nat}
theorem ReI.zero : ReI cs pe (fun _ => none) 0 := ⟨fun q i ps h => (Option.some_ne_none _ h.symm).elim, fun q h => absurd rfl h, [], List.nodup_nil, rfl, fun q => by simp⟩
theorem ReI.len (h : ReI cs pe re nr) : nr ≤ cs.length * pe.length := by
  obtain ⟨ks, h1, h2, h3⟩ := h.ks
  rw [← h2, ← hds_len]
  refine nodup_lenA h1 fun q hq => ?_
  have h4 := (h3 q).1 hq
  cases e : re q with
  | none => exact absurd e h4
  | some x =>
    obtain ⟨i, ps⟩ := x
    obtain ⟨c, hc, _⟩ := h.ok q i ps e
    exact in_hds (fs_rd hc) (h.pe q h4)
theorem ReI.set (h : ReI cs pe re nr) {p : Pr} {c : Crd} {ps : List Pr} (hp : re p = none) (hpe : p.2 ∈ pe) (hf : fs cs p = some (c, ps)) : ReI cs pe (WhyM.set re p (c.d, c.q) ps) (nr + 1) := by
  have key : ∀ q, WhyM.set re p (c.d, c.q) ps q ≠ none ↔ q = p ∨ re q ≠ none := fun q => by
    unfold WhyM.set
    split
    · rename_i e; simp [e]
    · rename_i e; simp [e]
  refine ⟨reok_set h.ok hf, fun q hq => ?_, ?_⟩
  · rcases (key q).1 hq with e | e
    · rw [e]; exact hpe
    · exact h.pe q e
  · obtain ⟨ks, h1, h2, h3⟩ := h.ks
    refine ⟨p :: ks, List.nodup_cons.2 ⟨fun hm => (h3 p).1 hm hp, h1⟩, by rw [List.length_cons, h2], fun q => ?_⟩
    rw [List.mem_cons, h3, key]
end
def ExC (L : Ly) (vF vL : Value) (col : Col) (s : Se) (la : List Pr) (p : Pr) : Prop :=
  ∀ (w : World) (re : Why) (nr lv : Nat), Sea L w vF vL col ⟨s, re, nr, la⟩ → ReI L.cs L.pe re nr → rd L.cs p < lv → lv ≤ 1000 →
    Calls Tryd.prog 46 #[.pointer (some ⟨L.sb, 0, none⟩), .agg #[.string p.1.1, .string p.1.2, .string p.2], .int .i64 (lv : Int)] w fun e w' =>
      e = .returned (.tuple #[]) ∧ ∃ re' nr', Sea L w' vF vL col ⟨s, re', nr', la⟩ ∧ ReI L.cs L.pe re' nr' ∧ Exp L.cs (· = p) re re' ∧ re' p ≠ none ∧ Ext Mr w w' col col
set_option maxHeartbeats 32000000 in
set_option maxRecDepth 100000 in
theorem accept_any {L : Ly} {vF vL : Value} {col : Col} {s : Se} {la : List Pr} (hS : Sch L s) (p : Pr) (hp : okP p) (hpp : p.2 ∈ L.pe) (hrd : rd L.cs p ≠ 0) (c : Crd) (hc : mayC c = true) (hro : p.1 = roleOf c)
    (IH : ∀ q, okP q → q.2 ∈ L.pe → rd L.cs q ≠ 0 → rd L.cs q < rd L.cs p → ExC L vF vL col s la q) (hf : ∀ ps, why c (Lv L.cs (rd L.cs p - 1)) p = some ps → fs L.cs p = some (c, ps))
    (w : World) (re : Why) (nr lv : Nat) (h : Sea L w vF vL col ⟨s, re, nr, la⟩) (hr : ReI L.cs L.pe re nr) (hlv : rd L.cs p < lv) (hlv2 : lv ≤ 1000) (hno : re p = none) :
    Calls Tryd.prog 70 #[.pointer (some ⟨L.sb, 0, none⟩), .agg c.cells.toArray, .agg #[.string p.1.1, .string p.1.2, .string p.2], .int .i64 (lv : Int)] w fun e w' =>
      (why c (Lv L.cs (rd L.cs p - 1)) p = none ∧ e = .returned (.bool false) ∧ Below w.heap.size w w') ∨
      ((∃ ps, why c (Lv L.cs (rd L.cs p - 1)) p = some ps) ∧ e = .returned (.bool true) ∧ ∃ re' nr', Sea L w' vF vL col ⟨s, re', nr', la⟩ ∧ ReI L.cs L.pe re' nr' ∧ Exp L.cs (· = p) re re' ∧ re' p ≠ none ∧ Ext Mr w w' col col) := by
  obtain ⟨⟨o, n⟩, who⟩ := p
  obtain ⟨d, q, nm, kd, wh, ao, an, bo, bn⟩ := c
  obtain ⟨m, hm⟩ : ∃ m, rd L.cs ((o, n), who) = m + 1 := ⟨rd L.cs ((o, n), who) - 1, by omega⟩
  have hle := hS.le hpp
  have hrn : s.rn ((o, n), who) = m + 1 := (hS.rn _ hpp).trans hm
  obtain ⟨sb, hsb⟩ : ∃ sb, L.sb = sb := ⟨_, rfl⟩
  obtain ⟨b5, hb5⟩ : ∃ b, L.b5 = b := ⟨_, rfl⟩
  obtain ⟨b7, hb7⟩ : ∃ b, L.b7 = b := ⟨_, rfl⟩
  obtain ⟨w1, hw1⟩ : ∃ w1, w1 = w.alloc (.cells (Crd.cells ⟨d, q, nm, kd, wh, ao, an, bo, bn⟩).toArray 55) := ⟨_, rfl⟩
  obtain ⟨w3, hw3⟩ : ∃ w3, w3 = w1.alloc (.cells #[.string o, .string n, .string who] 58) := ⟨_, rfl⟩
  obtain ⟨gr, hgr⟩ : ∃ g, w.heap.size = g := ⟨_, rfl⟩
  obtain ⟨gc, hgc⟩ : ∃ g, gr + 1 = g := ⟨_, rfl⟩
  have hz1 : w1.heap.size = gc := by rw [hw1, World.size_alloc, hgr, hgc]
  have q1 : Below w.heap.size w w1 := by rw [hw1]; exact (Below.refl _ _).alloc (Nat.le_refl _) _
  have q3 : Below w1.heap.size w1 w3 := by rw [hw3]; exact (Below.refl _ _).alloc (Nat.le_refl _) _
  have r1 : CrAt w1 gr ⟨d, q, nm, kd, wh, ao, an, bo, bn⟩ := by rw [hw1, ← hgr]; exact CrAt.new w _
  have HC3 := hid (r1.kept q3)
  have HP3 : Hid (PrA w3 gc o n who) := hid (by rw [hw3, ← hz1]; exact PrA.new w1 _ _ _)
  have HQ3 : Hid (Below w.heap.size w w3) := hid (q1.trans (q3.mono q1.size))
  have HS3 := hid (h.below HQ3.out)
  have HCG : Hid (col gr = none ∧ col gc = none) := hid ⟨h.free (by omega), h.free (by omega)⟩
  have HTR := hid (fun W (hW : Below w3.heap.size w3 W) => by
    have := ctry_any (HS3.out.below hW) hS.P ⟨d, q, nm, kd, wh, ao, an, bo, bn⟩ hc ((o, n), who) hp hro (m + 1) (by omega)
    rw [hS.why hpp] at this
    exact this)
  rw [hsb] at HTR
  have HIH := hid IH
  have HSC := hid hS
  have HOKP := hid hp
  have HPP := hid hpp
  have HRI := hid hr
  have HNO := hid hno
  have HRD := hid hm
  have HSB := hid hsb
  have HB7 := hid hb7
  have HLV : Hid (m + 1 < lv ∧ lv ≤ 1000) := hid ⟨by omega, hlv2⟩
  have HF := hid hf
  rw [hm, Nat.add_sub_cancel] at HF ⊢
  have HLK := hid (fun W (hW : Below w3.heap.size w3 W) => (⟨by rw [← hsb, ← hb5]; exact (HS3.out.below hW).cell.2.2.2.2.1, by have := (HS3.out.below hW).rn.look hp; rw [show (⟨s, re, nr, la⟩ : Sx).s.rn ((o, n), who) = m + 1 from hrn, hb5] at this; exact this⟩ :
    W.cell? ⟨sb, 21, none⟩ = some (.map (some b5)) ∧ (Instr.lookup 65 (.map (some b5)) (.agg #[.string o, .string n, .string who]) false).run Tryd.prog W = .ok (.int .i64 ((m + 1 : Nat) : Int)) W))
  obtain ⟨ow, how⟩ : ∃ ow, why ⟨d, q, nm, kd, wh, ao, an, bo, bn⟩ (Lv L.cs m) ((o, n), who) = ow := ⟨_, rfl⟩
  rw [how] at HTR HF ⊢
  obtain ⟨M, hM⟩ : ∃ M, m + 1 = M := ⟨_, rfl⟩
  rw [hM] at HTR HLK
  have HMM := hid hM
  have HKS := hid (fun W (hW : Below w3.heap.size w3 W) => by
    have k1 := (HC3.out.kept hW).all
    have k2 := (HP3.out.kept hW).all
    have k3 := HLK.out W hW
    exact (⟨k1.1, k1.2.1, k1.2.2.1, k1.2.2.2.1, k1.2.2.2.2.1, k1.2.2.2.2.2.1, k1.2.2.2.2.2.2.1, k1.2.2.2.2.2.2.2.1, k1.2.2.2.2.2.2.2.2, k2.1, k2.2.1, k2.2.2, k3.1, k3.2⟩ : W.cell? ⟨gr, 0, none⟩ = some (.int .i64 d) ∧ W.cell? ⟨gr, 1, none⟩ = some (.int .i64 q) ∧ W.cell? ⟨gr, 2, none⟩ = some (.string nm) ∧ W.cell? ⟨gr, 3, none⟩ = some (.int .i64 kd) ∧ W.cell? ⟨gr, 4, none⟩ = some (.string wh) ∧ W.cell? ⟨gr, 5, none⟩ = some (.string ao) ∧ W.cell? ⟨gr, 6, none⟩ = some (.string an) ∧ W.cell? ⟨gr, 7, none⟩ = some (.string bo) ∧ W.cell? ⟨gr, 8, none⟩ = some (.string bn) ∧ W.cell? ⟨gc, 0, none⟩ = some (.string o) ∧ W.cell? ⟨gc, 1, none⟩ = some (.string n) ∧ W.cell? ⟨gc, 2, none⟩ = some (.string who) ∧ W.cell? ⟨sb, 21, none⟩ = some (.map (some b5)) ∧ (Instr.lookup 65 (.map (some b5)) (.agg #[.string o, .string n, .string who]) false).run Tryd.prog W = .ok (.int .i64 (M : Int)) W))
  rw [hsb]
  clear hS hp hpp hrd hc IH hf h hr hlv hlv2 hno hm hle hrn hsb hb5 hb7 q1 q3 r1 how hz1 hM HLK
  unfold Crd.cells at hw1 HTR ⊢
  simp only at hw1 HTR ⊢
  go_enter Tryd.func70, Tryd.ntmps70
  go_wp2_with fail
  rw [← hw1]
  try rw [hgr]
  rw [← hw3]
  try rw [hgc]
  clear hw1 hw3 hgr hgc
  cases ow with
  | none =>
    go_region_held3 (fun w' => w'.cell? ⟨gr, 0, none⟩ = some (.int .i64 d) ∧ w'.cell? ⟨gr, 1, none⟩ = some (.int .i64 q) ∧ w'.cell? ⟨gr, 2, none⟩ = some (.string nm) ∧ w'.cell? ⟨gr, 3, none⟩ = some (.int .i64 kd) ∧ w'.cell? ⟨gr, 4, none⟩ = some (.string wh) ∧ w'.cell? ⟨gr, 5, none⟩ = some (.string ao) ∧ w'.cell? ⟨gr, 6, none⟩ = some (.string an) ∧ w'.cell? ⟨gr, 7, none⟩ = some (.string bo) ∧ w'.cell? ⟨gr, 8, none⟩ = some (.string bn) ∧ w'.cell? ⟨gc, 0, none⟩ = some (.string o) ∧ w'.cell? ⟨gc, 1, none⟩ = some (.string n) ∧ w'.cell? ⟨gc, 2, none⟩ = some (.string who) ∧ w'.cell? ⟨sb, 21, none⟩ = some (.map (some b5)) ∧ (Instr.lookup 65 (.map (some b5)) (.agg #[.string o, .string n, .string who]) false).run Tryd.prog w' = .ok (.int .i64 (M : Int)) w')
      (first | exact HKS.out _ (Below.refl _ _).drew | exact HKS.out _ BW.out)
      ((first | (go_at_call 69; (refine (HTR.out _ (Below.refl _ _).drew).mono ?_); rintro er w8 ⟨ht, bb⟩; have BW : Hid (Below w3.heap.size w3 w8) := hid ((Below.refl w3.heap.size w3).drew.trans bb); obtain rfl := ht.nil; clear ht bb)))
    all_goals
      go_wp2_with fail
      go_ret
      exact ⟨rfl, HQ3.out.trans (BW.out.mono HQ3.out.size)⟩
  | some ps =>
    go_region_held3 (fun w' => w'.cell? ⟨gr, 0, none⟩ = some (.int .i64 d) ∧ w'.cell? ⟨gr, 1, none⟩ = some (.int .i64 q) ∧ w'.cell? ⟨gr, 2, none⟩ = some (.string nm) ∧ w'.cell? ⟨gr, 3, none⟩ = some (.int .i64 kd) ∧ w'.cell? ⟨gr, 4, none⟩ = some (.string wh) ∧ w'.cell? ⟨gr, 5, none⟩ = some (.string ao) ∧ w'.cell? ⟨gr, 6, none⟩ = some (.string an) ∧ w'.cell? ⟨gr, 7, none⟩ = some (.string bo) ∧ w'.cell? ⟨gr, 8, none⟩ = some (.string bn) ∧ w'.cell? ⟨gc, 0, none⟩ = some (.string o) ∧ w'.cell? ⟨gc, 1, none⟩ = some (.string n) ∧ w'.cell? ⟨gc, 2, none⟩ = some (.string who) ∧ w'.cell? ⟨sb, 21, none⟩ = some (.map (some b5)) ∧ (Instr.lookup 65 (.map (some b5)) (.agg #[.string o, .string n, .string who]) false).run Tryd.prog w' = .ok (.int .i64 (M : Int)) w')
      (first | exact HKS.out _ (Below.refl _ _).drew | exact HKS.out _ BW.out)
      ((first | (go_at_call 69; (refine (HTR.out _ (Below.refl _ _).drew).mono ?_); rintro er w8 ⟨ht, bb⟩; have BW : Hid (Below w3.heap.size w3 w8) := hid ((Below.refl w3.heap.size w3).drew.trans bb); have HTP := hid ht; obtain ⟨np, A, cA, rfl⟩ := ht.one; clear ht bb)))
    all_goals
      go_wp2_with fail
      have hTP := HTP.out
      rcases hTP with hTP | ⟨ps', np', A', cA', e1, hnp, e2, hcA, hcA2, hn2, hEl, hfr⟩
      · exact absurd hTP.1 (by simp)
      cases e1
      simp only [Ending.returned.injEq, Value.tuple.injEq, Array.mk.injEq, List.cons.injEq, Value.slice.injEq, and_true] at e2
      obtain ⟨rfl, rfl, rfl⟩ := e2
      have HFS := hid (HF.out _ rfl)
      have HS8 := hid (HS3.out.below BW.out)
      have HPL := hid (fs_lt HFS.out)
      have HAB : Hid (∀ ad, A = some ad → 0 < ps.length → col ad.block = none) := hid (fun ad e h0 => HS3.out.free (hfr ad e h0))
      have HEL := hid hEl
      have HNP := hid hnp
      have HC8 := hid (HC3.out.kept BW.out)
      have HP8 := hid (HP3.out.kept BW.out)
      have HRE : Rea w8.drew L.b7 col re nr := HS8.out.re
      obtain ⟨w9, hrun, hre, hg9⟩ := HRE.lay HOKP.out (by have h1 := HRI.out.len; have h2 := HSC.out.few; rw [pe_len] at h1; unfold maxLen; omega) (d, q) (A := A) (ps := ps) (c := cA) hEl HAB.out (by rw [hnp]; exact hcA) hcA2 (fun g c e => HS8.out.dom g c e)
      unfold reaV pV at hrun
      simp only at hrun
      rw [hnp, HB7.out] at hrun
      have hb9 : But (fun g => g = L.b7) w8 w9 := ((But.refl _ w8).drew).then_grown hg9 (fun g e => .inr (Option.some.inj e).symm)
      obtain ⟨h9, x9⟩ := HS8.out.reasoned (re := WhyM.set re ((o, n), who) (d, q) ps) (nr := nr + 1) hre hb9
      have HS9 := hid h9
      have HX9 := hid x9
      have HR9 := hid (HRI.out.set HNO.out HPP.out HFS.out)
      have c23 : w8.cell? ⟨sb, 23, none⟩ = some (.map (some b7)) := by have := HS8.out.cell.2.2.2.2.2.2.1; rw [HSB.out, HB7.out] at this; exact this
      obtain ⟨t0, t1, t2⟩ := HP8.out.all
      obtain ⟨a0, a1, -⟩ := HC8.out.all
      clear HRE hre hg9 hb9 h9 x9 hEl hfr hcA hcA2 hnp
      go_region_law fail
      all_goals
        clear c23 t0 t1 t2 a0 a1 hrun
        obtain ⟨l1, hl1⟩ : ∃ l1, lv = l1 + 1 := ⟨lv - 1, by have := HLV.out; omega⟩
        have hl2 : ((lv : Nat) : Int) - 1 = (l1 : Int) := by rw [hl1]; omega
        have hl3 : (l1 : Int) ≤ 1000 := by have := HLV.out; omega
        have hl4 : (0 : Int) ≤ (l1 : Int) := Int.natCast_nonneg _
        have HL1 := hid hl1
        clear hl1
        go_wp2_with fail
        go_loopw [39] (fun i wr => ∃ (k : Nat) (re' : Why) (nr' : Nat), i = .int .i64 (k : Int) ∧ k ≤ np ∧ Hid (Sea L wr vF vL col ⟨s, re', nr', la⟩) ∧ Hid (ReI L.cs L.pe re' nr') ∧ Hid (Exp L.cs (· ∈ ps) (WhyM.set re ((o, n), who) (d, q) ps) re') ∧ Hid (∀ r ∈ ps.take k, re' r ≠ none) ∧ Hid (Ext Mr w8 wr col col)) (fun i _ => np - (intOf i).toNat)
        case atStart => exact ⟨0, _, _, rfl, Nat.zero_le _, HS9, HR9, hid (Exp.refl HR9.out.ok), hid (by simp), HX9⟩
        case round =>
          obtain ⟨k, re', nr', rfl, hk, HSK, HRK, HEK, HDK, HXK⟩ := hrel
          by_cases hlt : k < np
          · obtain ⟨⟨⟨go, gn⟩, gx⟩, hx⟩ : ∃ x, ps[k]? = some x := ⟨_, List.getElem?_eq_getElem (by rw [HNP.out]; exact hlt)⟩
            have h0 : 0 < ps.length := by rw [HNP.out]; omega
            have hel : Els encP wr wr.heap.size A ps := (Els.keep HEL.out fun ad e hb => HXK.out.free hb (HAB.out ad e h0)).more HXK.out.size
            obtain ⟨ad, aj, rfl, hab, ea, hbj, a0, ai⟩ := hel.get hx
            have a0 := a0 _ rfl
            have a1 := ai 1 _ (by decide) rfl
            have a2 := ai 2 _ (by decide) rfl
            have ea : ad.add (k * 3) = aj := ea
            have hk0 : (0 : Int) ≤ (k : Int) := Int.natCast_nonneg _
            have hk1 : (k : Int) < (np : Int) := by omega
            have hmem := List.mem_of_getElem? hx
            obtain ⟨hq1, hq2, hq3⟩ := HPL.out _ hmem
            have hqp := HSC.out.near (p := ((o, n), who)) (q := ((go, gn), gx)) HPP.out hq3
            have hqo : okP ((go, gn), gx) := HS8.out.sz.kn _ (by rw [show (⟨s, re, nr, la⟩ : Sx).s.rn ((go, gn), gx) = _ from HSC.out.rn _ hqp]; exact hq1)
            have HQ7 := hid ((Below.refl wr.heap.size wr).alloc (Nat.le_refl _) (.cells #[.string go, .string gn, .string gx] 58))
            have HEX := hid (HIH.out _ hqo hqp hq1 hq2 _ re' nr' l1 (HSK.out.below HQ7.out) HRK.out (by have := HLV.out; have := HRD.out; have := HL1.out; omega) (by omega))
            rw [HSB.out] at HEX
            have HTK := hid (take_snoc_of hx)
            have HMEM := hid hmem
            clear hx hel hab hbj ai hmem hq1 hq2 hq3 hqp hqo
            go_wp2_with (go_at_call 46; (refine HEX.out.mono ?_); rintro er wq ⟨rfl, re2, nr2, h9, r9, e9, d9, x9⟩; have HSq := hid h9; have HRq := hid r9; have HEq := hid e9; have HDq := hid d9; have HXq := hid x9; clear h9 r9 e9 d9 x9)
            go_roundw
            case rel => exact ⟨k + 1, re2, nr2, by go_num, by omega, HSq, HRq, hid (HEK.out.trans (HEq.out.to fun r hr => .base (by rw [hr]; exact HMEM.out))), hid (fun r hr => by
              rw [HTK.out, List.mem_append, List.mem_singleton] at hr
              rcases hr with hr | hr
              · exact HEq.out.has (HDK.out r hr)
              · rw [hr]; exact HDq.out), hid (HXK.out.trans ((Ext.of_below Mr col HQ7.out).trans HXq.out))⟩
            case measure => simp [intOf]; omega
          · obtain rfl : k = np := by omega
            have hfin := exp_set HRI.out.ok HNO.out HFS.out HEK.out (by have := HDK.out; rwa [List.take_of_length_le (by rw [HNP.out]; exact Nat.le_refl _)] at this)
            have HFI := hid hfin
            clear hfin
            go_wp2_with fail
            go_ret
            exact .inr ⟨⟨ps, rfl⟩, rfl, re', nr', HSK.out, HRK.out, HFI.out.1, HFI.out.2, (Ext.of_below Mr col (HQ3.out.trans (BW.out.mono HQ3.out.size))).trans HXK.out⟩
end Go.Proofs.YtoajckhnneagnaaDoor.Sh
namespace Go.Proofs.YtoajckhnneagnaaDoor.Sh
open Go Go.RowKit
open Go.Maps (Keyed)

set_option linter.unusedVariables false
set_option linter.unusedSimpArgs false
theorem fst1_none {l : List Crd} {L : Pr → Prop} {p : Pr} (h : ∀ c ∈ l, why c L p = none) : fst1 l L p = none := by
  unfold fst1
  rw [List.findSome?_eq_none_iff]
  intro c hc
  rw [h c hc]; rfl
theorem fst1_at {l : List Crd} {L : Pr → Prop} {p : Pr} {k : Nat} {c : Crd} {ps : List Pr} (h : ∀ x ∈ l.take k, why x L p = none) (hx : l[k]? = some c) (hw : why c L p = some ps) : fst1 l L p = some (c, ps) := by
  have e : l = l.take k ++ c :: l.drop (k + 1) := by
    obtain ⟨hm, rfl⟩ := List.getElem?_eq_some_iff.1 hx
    rw [← List.drop_eq_getElem_cons hm, List.take_append_drop]
  have h1 := fst1_none h
  unfold fst1 at h1 ⊢
  rw [e, List.findSome?_append, h1, List.findSome?_cons, hw]
  rfl
set_option maxHeartbeats 32000000 in
set_option maxRecDepth 100000 in
theorem explain_step {L : Ly} {vF vL : Value} {col : Col} {s : Se} {la : List Pr} (hS : Sch L s) (p : Pr) (hp : okP p) (hpp : p.2 ∈ L.pe) (hrd : rd L.cs p ≠ 0)
    (IH : ∀ q, okP q → q.2 ∈ L.pe → rd L.cs q ≠ 0 → rd L.cs q < rd L.cs p → ExC L vF vL col s la q) : ExC L vF vL col s la p := by
  intro w re nr lv h hr hlv hlv2
  have hgl : ∀ c ∈ s.giv p.1, mayC c = true ∧ p.1 = roleOf c := fun c hc => by
    rw [hS.giv] at hc
    obtain ⟨h1, h2⟩ := List.mem_filter.1 hc
    rw [Bool.and_eq_true] at h2
    exact ⟨hS.may c h1, (of_decide_eq_true h2.2).symm⟩
  have hfs : fs L.cs p = fst1 (s.giv p.1) (Lv L.cs (rd L.cs p - 1)) p := by rw [hS.giv, fst1_filter hpp]; rfl
  have HACC := hid (fun c (hc : c ∈ s.giv p.1) (hf : ∀ ps, why c (Lv L.cs (rd L.cs p - 1)) p = some ps → fs L.cs p = some (c, ps)) W (hW : Sea L W vF vL col ⟨s, re, nr, la⟩) (hno : re p = none) => accept_any hS p hp hpp hrd c (hgl c hc).1 (hgl c hc).2 IH hf W re nr lv hW hr hlv hlv2 hno)
  have HEX := hid (fs_ex hrd)
  have HFS := hid hfs
  have HRI := hid hr
  obtain ⟨⟨o, n⟩, who⟩ := p
  obtain ⟨gl, hglq⟩ : ∃ l, s.giv (o, n) = l := ⟨_, rfl⟩
  rw [show s.giv ((o, n), who).1 = gl from hglq] at HACC HFS
  obtain ⟨N, hN⟩ : ∃ N, gl.length = N := ⟨_, rfl⟩
  have HN := hid hN
  obtain ⟨sb, hsb⟩ : ∃ sb, L.sb = sb := ⟨_, rfl⟩
  obtain ⟨b2, hb2⟩ : ∃ b, L.b2 = b := ⟨_, rfl⟩
  obtain ⟨b7, hb7⟩ : ∃ b, L.b7 = b := ⟨_, rfl⟩
  obtain ⟨w1, hw1⟩ : ∃ w1, w1 = w.alloc (.cells #[.string o, .string n, .string who] 58) := ⟨_, rfl⟩
  obtain ⟨gp, hgp⟩ : ∃ g, w.heap.size = g := ⟨_, rfl⟩
  have q1 : Below w.heap.size w w1 := by rw [hw1]; exact (Below.refl _ _).alloc (Nat.le_refl _) _
  have HQ1 := hid q1
  have HS1 := hid (h.below q1)
  have HP1 : Hid (PrA w1 gp o n who) := hid (by rw [hw1, ← hgp]; exact PrA.new w o n who)
  have HSB := hid hsb
  obtain ⟨vA, lkA, owA, lnA, cfA⟩ := HS1.out.giv.look lawR Tryd.underlying63 ch_z22 (k := (o, n)) hp.1 (keyR hp.1)
  rw [show (⟨s, re, nr, la⟩ : Sx).s.giv (o, n) = gl from hglq] at owA lnA
  have hNb : N ≤ 50 := by
    have h1 := hS.giv (o, n)
    rw [hglq] at h1
    have h2 := List.length_filter_le (fun c => mat L.pe c && decide (roleOf c = (o, n))) L.cs
    rw [← h1, hN] at h2
    have := hS.few
    omega
  obtain ⟨A, cA, rfl, -, -, -⟩ := owA.els
  rw [hN] at lkA
  rw [hb2] at lkA
  have HK := hid (fun W (hW : Below w1.heap.size w1 W) => (⟨by rw [← hsb, ← hb2]; exact (HS1.out.below hW).cell.2.1, (HP1.out.kept hW).all.1, (HP1.out.kept hW).all.2.1, lkA W (hW.block _ (by rw [← hb2]; exact HS1.out.dom _ _ HS1.out.c2))⟩ :
    W.cell? ⟨sb, 18, none⟩ = some (.map (some b2)) ∧ W.cell? ⟨gp, 0, none⟩ = some (.string o) ∧ W.cell? ⟨gp, 1, none⟩ = some (.string n) ∧ (Instr.lookup 63 (.map (some b2)) (.agg #[.string o, .string n]) false).run Tryd.prog W = .ok (.slice A N cA) W))
  have HEA := hid (fun W (hW : Below w1.heap.size w1 W) => ((own_els owA).below hW).more hW.size)
  have hl0 : ¬ (lv : Int) = 0 := by omega
  have hl1 : ((lv : Int) == 0) = false := beq_eq_false_iff_ne.2 hl0
  have hgl2 : ∀ (b : Bool) (V : Value), (∀ W : World, W.heap[b7]? = w1.heap[b7]? → (Instr.lookup 67 (.map (some b7)) (.agg #[.string o, .string n, .string who]) true).run Tryd.prog W = .ok (.tuple #[V, .bool b]) W) → ∀ W, Below w1.heap.size w1 W →
      (W.cell? ⟨sb, 23, none⟩ = some (.map (some b7)) ∧ W.cell? ⟨gp, 0, none⟩ = some (.string o) ∧ W.cell? ⟨gp, 1, none⟩ = some (.string n) ∧ W.cell? ⟨gp, 2, none⟩ = some (.string who) ∧ (Instr.lookup 67 (.map (some b7)) (.agg #[.string o, .string n, .string who]) true).run Tryd.prog W = .ok (.tuple #[V, .bool b]) W) := fun b V hV W hW =>
    ⟨by rw [← hsb, ← hb7]; exact (HS1.out.below hW).cell.2.2.2.2.2.2.1, (HP1.out.kept hW).all.1, (HP1.out.kept hW).all.2.1, (HP1.out.kept hW).all.2.2, hV W (hW.block _ (by rw [← hb7]; exact HS1.out.dom _ _ HS1.out.c7))⟩
  cases hre : re ((o, n), who) with
  | some xr =>
    obtain ⟨i, ps⟩ := xr
    obtain ⟨Ar, cr, -, -, -, -, hl, -⟩ := HS1.out.re.holds hp hre
    rw [hb7] at hl
    have HRL := hid (hgl2 _ _ hl)
    have HRE := hid hre
    simp only [hsb]
    clear hS hp hpp hrd IH h hr hlv hlv2 hgl hfs hglq hN hsb hb2 hb7 q1 owA lnA cfA lkA hl hgl2 hre HACC HEX HFS
    unfold reaV at HRL
    go_enter Tryd.func46, Tryd.ntmps46
    go_wp2_with fail
    rw [← hw1]
    try rw [hgp]
    clear hw1 hgp
    go_region_held3 (fun w' => w'.cell? ⟨sb, 23, none⟩ = some (.map (some b7)) ∧ w'.cell? ⟨gp, 0, none⟩ = some (.string o) ∧ w'.cell? ⟨gp, 1, none⟩ = some (.string n) ∧ w'.cell? ⟨gp, 2, none⟩ = some (.string who) ∧ (Instr.lookup 67 (.map (some b7)) (.agg #[.string o, .string n, .string who]) true).run Tryd.prog w' = .ok (.tuple #[.agg #[.int .i64 i.1, .int .i64 i.2, .slice Ar ps.length cr], .bool true]) w')
      (first | exact HRL.out _ (Below.refl _ _).drew | exact HRL.out _ ((Below.refl _ _).alloc (Nat.le_refl _) _).drew | exact HRL.out _ ((Below.refl _ _).alloc (Nat.le_refl _) _)) (fail)
    all_goals
      go_wp2_with fail
      refine bodyPost_ret (results_none rfl _ _ _) rfl ?_
      have HBB := hid (HQ1.out.trans (((Below.refl w1.heap.size w1).alloc (Nat.le_refl _) (.cells #[.int .i64 i.1, .int .i64 i.2, .slice Ar ps.length cr] 90)).drew.mono HQ1.out.size))
      have HSS := hid (HS1.out.below (((Below.refl w1.heap.size w1).alloc (Nat.le_refl _) (.cells #[.int .i64 i.1, .int .i64 i.2, .slice Ar ps.length cr] 90)).drew))
      exact ⟨rfl, re, nr, HSS.out, HRI.out, Exp.refl HRI.out.ok, by rw [HRE.out]; simp, Ext.of_below Mr col HBB.out⟩
  | none =>
    have hl := HS1.out.re.lacks hp hre
    rw [hb7] at hl
    have HRL := hid (hgl2 _ _ hl)
    have HRE := hid hre
    simp only [hsb]
    rw [hsb] at HACC
    clear hS hp hpp hrd IH h hr hlv hlv2 hgl hfs hglq hN hsb hb2 hb7 q1 owA lnA cfA lkA hl hgl2 hre
    go_enter Tryd.func46, Tryd.ntmps46
    go_wp2_with fail
    rw [← hw1]
    try rw [hgp]
    clear hw1 hgp
    go_region_held3 (fun w' => w'.cell? ⟨sb, 23, none⟩ = some (.map (some b7)) ∧ w'.cell? ⟨gp, 0, none⟩ = some (.string o) ∧ w'.cell? ⟨gp, 1, none⟩ = some (.string n) ∧ w'.cell? ⟨gp, 2, none⟩ = some (.string who) ∧ (Instr.lookup 67 (.map (some b7)) (.agg #[.string o, .string n, .string who]) true).run Tryd.prog w' = .ok (.tuple #[.agg #[.int .i64 0, .int .i64 0, .slice none 0 0], .bool false]) w')
      (first | exact HRL.out _ (Below.refl _ _).drew | exact HRL.out _ ((Below.refl _ _).alloc (Nat.le_refl _) _).drew | exact HRL.out _ ((Below.refl _ _).alloc (Nat.le_refl _) _)) (fail)
    all_goals
      go_wp2_with fail
      obtain ⟨w2, hw2⟩ : ∃ w2, w2 = (w1.alloc (.cells #[.int .i64 0, .int .i64 0, .slice none 0 0] 90)).drew := ⟨_, rfl⟩
      rw [← hw2]
      have HB2 : Hid (Below w1.heap.size w1 w2) := hid (by rw [hw2]; exact ((Below.refl _ _).alloc (Nat.le_refl _) _).drew)
      clear hw2
      obtain ⟨k1, k2, k3, k4⟩ := HK.out _ HB2.out
      go_region_held3 (fun w' => w'.cell? ⟨sb, 18, none⟩ = some (.map (some b2)) ∧ w'.cell? ⟨gp, 0, none⟩ = some (.string o) ∧ w'.cell? ⟨gp, 1, none⟩ = some (.string n) ∧ (Instr.lookup 63 (.map (some b2)) (.agg #[.string o, .string n]) false).run Tryd.prog w' = .ok (.slice A N cA) w')
        (exact HK.out _ HB2.out.drew) (fail)
      clear k1 k2 k3 k4
      have HBD := hid HB2.out.drew
      go_wp2_with fail
      go_loopw [40] (fun i wr => ∃ k : Nat, i = .int .i64 (k : Int) ∧ k ≤ N ∧ Hid (∀ c ∈ gl.take k, why c (Lv L.cs (rd L.cs ((o, n), who) - 1)) ((o, n), who) = none) ∧ Hid (Below w1.heap.size w1 wr)) (fun i _ => N - (intOf i).toNat)
      case atStart => exact ⟨0, rfl, Nat.zero_le _, hid (by simp), HBD⟩
      case round =>
        obtain ⟨k, rfl, hk, HNK, HBK⟩ := hrel
        by_cases hlt : k < N
        · obtain ⟨⟨d, q, nm, kd, wh, ao, an, bo, bn⟩, hx⟩ : ∃ x, gl[k]? = some x := ⟨_, List.getElem?_eq_getElem (by rw [HN.out]; exact hlt)⟩
          have hel : Els encC wr wr.heap.size A gl := HEA.out wr HBK.out
          obtain ⟨ad, aj, rfl, hab, ea, hbj, a0, ai⟩ := hel.get hx
          have a0 := a0 _ rfl
          have a1 := ai 1 _ (by decide) rfl
          have a2 := ai 2 _ (by decide) rfl
          have a3 := ai 3 _ (by decide) rfl
          have a4 := ai 4 _ (by decide) rfl
          have a5 := ai 5 _ (by decide) rfl
          have a6 := ai 6 _ (by decide) rfl
          have a7 := ai 7 _ (by decide) rfl
          have a8 := ai 8 _ (by decide) rfl
          have ea : ad.add (k * 9) = aj := ea
          have hk0 : (0 : Int) ≤ (k : Int) := Int.natCast_nonneg _
          have hk1 : (k : Int) < (N : Int) := by omega
          obtain ⟨w3, hw3⟩ : ∃ w3, w3 = wr.alloc (.cells (Crd.cells ⟨d, q, nm, kd, wh, ao, an, bo, bn⟩).toArray 55) := ⟨_, rfl⟩
          obtain ⟨gc, hgc⟩ : ∃ g, wr.heap.size = g := ⟨_, rfl⟩
          have HQ3 : Hid (Below w1.heap.size w1 w3) := hid (by rw [hw3]; exact HBK.out.alloc HBK.out.size _)
          have HC3 : Hid (CrAt w3 gc ⟨d, q, nm, kd, wh, ao, an, bo, bn⟩) := hid (by rw [hw3, ← hgc]; exact CrAt.new wr _)
          have HP3 := hid (HP1.out.kept HQ3.out)
          have HS3 := hid (HS1.out.below HQ3.out)
          have hmem := List.mem_of_getElem? hx
          have HX := hid hx
          clear hab hbj ai hel
          unfold Crd.cells at hw3
          simp only at hw3
          obtain ⟨p0, p1, p2⟩ := HP3.out.all
          obtain ⟨f0, f1, f2, f3, f4, f5, f6, f7, f8⟩ := HC3.out.all
          have HAC := hid (HACC.out ⟨d, q, nm, kd, wh, ao, an, bo, bn⟩ hmem (fun ps hw => by rw [HFS.out]; exact fst1_at HNK.out hx hw) w3 HS3.out HRE.out)
          unfold Crd.cells at HAC
          simp only at HAC
          clear hx hmem
          go_upto_region 8 with fail
          rw [← hw3]
          try rw [hgc]
          clear hw3 hgc a0 a1 a2 a3 a4 a5 a6 a7 a8
          cases hwy : why ⟨d, q, nm, kd, wh, ao, an, bo, bn⟩ (Lv L.cs (rd L.cs ((o, n), who) - 1)) ((o, n), who) with
          | none =>
            have HNX : Hid (∀ c ∈ gl.take (k + 1), why c (Lv L.cs (rd L.cs ((o, n), who) - 1)) ((o, n), who) = none) := hid (fun c hc => by
              rw [take_snoc_of HX.out, List.mem_append, List.mem_singleton] at hc
              rcases hc with hc | hc
              · exact HNK.out c hc
              · rw [hc]; exact hwy)
            rw [hwy] at HAC
            clear hwy
            go_wp2_with (go_at_call 70; (refine HAC.out.mono ?_); rintro er w9 (⟨-, rfl, b9⟩ | ⟨⟨ps, h9⟩, -⟩); (case inr => exact absurd h9 (by simp)); have HB9 := hid (HQ3.out.trans (b9.mono HQ3.out.size)); clear b9)
            go_roundw
            case rel => exact ⟨k + 1, by go_num, by omega, HNX, HB9⟩
            case measure => simp [intOf]; omega
          | some ps =>
            rw [hwy] at HAC
            clear hwy
            go_wp2_with (go_at_call 70; (refine HAC.out.mono ?_); rintro er w9 (⟨h9, -⟩ | ⟨-, rfl, re2, nr2, h9, r9, e9, d9, x9⟩); (case inl => exact absurd h9 (by simp)); have HS9 := hid h9; have HR9 := hid r9; have HE9 := hid e9; have HD9 := hid d9; have HX9 := hid x9; clear h9 r9 e9 d9 x9)
            refine bodyPost_ret (results_none rfl _ _ _) rfl ?_
            exact ⟨rfl, re2, nr2, HS9.out, HR9.out, HE9.out, HD9.out, (Ext.of_below Mr col (HQ1.out.trans (HQ3.out.mono HQ1.out.size))).trans HX9.out⟩
        · exfalso
          obtain rfl : k = N := by omega
          have h1 := HNK.out
          rw [List.take_of_length_le (by rw [HN.out]; exact Nat.le_refl _)] at h1
          obtain ⟨c, ps, h2⟩ := HEX.out
          rw [HFS.out, fst1_none h1] at h2
          cases h2
theorem explain_any {L : Ly} {vF vL : Value} {col : Col} {s : Se} {la : List Pr} (hS : Sch L s) (p : Pr) (hp : okP p) (hpp : p.2 ∈ L.pe) (hrd : rd L.cs p ≠ 0) : ExC L vF vL col s la p := by
  have key : ∀ n p, rd L.cs p = n → okP p → p.2 ∈ L.pe → rd L.cs p ≠ 0 → ExC L vF vL col s la p := by
    intro n
    induction n using Nat.strongRecOn with
    | ind n ih => exact fun p e h1 h2 h3 => explain_step hS p h1 h2 h3 fun q g1 g2 g3 g4 => ih _ (by omega) q rfl g1 g2 g3
  exact key _ p rfl hp hpp hrd
end Go.Proofs.YtoajckhnneagnaaDoor.Sh
