/-
  A cursor's Text.
-/
import Derived.Test.YtaadmgbmaekicaaGreatDoorJn5
set_option linter.unusedVariables false
set_option linter.unusedSimpArgs false
namespace Go.Proofs.YtaadmgbmaekicaaGreatDoor.Sh
open Go Go.RowKit

theorem conv_byt {w : World} {B : Nat} {A : Option Addr} {l : List UInt8} {n c : Nat} (h : Byt w B A l) (hl : l.length = n) : (convert 22 9 (.slice A n c)).run Tryz.prog w = .ok (.string ⟨l.toArray⟩) w := by
  subst hl
  rcases A with _ | ad
  · obtain rfl : l = [] := by
      rcases Nat.eq_zero_or_pos l.length with h0 | h0
      · exact List.eq_nil_of_length_eq_zero h0
      · obtain ⟨_, h1, _⟩ := h h0
        cases h1
    exact Lib.run_convert_nil_bytes w 22 9 5 c Tryz.underlying22 Tryz.underlying5 Tryz.underlying9
  · exact run_convert_bytes_back w 22 9 5 ad c l Tryz.underlying22 Tryz.underlying5 Tryz.underlying9 (fun j hj => h.cells rfl j _ (by simp [bv, hj]))

theorem numStep_nat (l : List UInt8) (p : Nat) (e least most : Int) (hp : p ≤ l.length) :
    ∃ (V p' : Nat) (e' : Int), numStep l p e least most = ((V : Int), p', e') ∧ V < 9223372036854775808 ∧ p' ≤ l.length ∧ (e' ≠ 0 → V = 0 ∧ p' = p) := by
  unfold numStep
  split
  · exact ⟨0, p, e, rfl, by omega, hp, fun _ => ⟨rfl, rfl⟩⟩
  · split
    · exact ⟨0, p, _, rfl, by omega, hp, fun _ => ⟨rfl, rfl⟩⟩
    · split
      · exact ⟨0, p, _, rfl, by omega, hp, fun _ => ⟨rfl, rfl⟩⟩
      · rename_i h _
        obtain ⟨h1, h2, _⟩ := look_zero (l := l.drop p) (N := (look (l.drop p)).1) (U := (look (l.drop p)).2.1) (by
          have : (look (l.drop p)).2.2 = 0 := by omega
          rw [← this])
        rw [List.length_drop] at h2
        exact ⟨_, _, _, rfl, h1, by omega, fun h => absurd rfl h⟩
/-- What text answers; the place may be behind what it has passed. -/
def textRaw (l : List UInt8) (p : Nat) (e most : Int) : List UInt8 × Nat × Int :=
  if (l.length : Int) - (numStep l p e 0 most).2.1 < (numStep l p e 0 most).1 then ([], (numStep l p e 0 most).2.1, 3)
  else ((l.drop (numStep l p e 0 most).2.1).take (numStep l p e 0 most).1.toNat, (numStep l p e 0 most).2.1 + (numStep l p e 0 most).1.toNat, (numStep l p e 0 most).2.2)
/-- What Text answers. -/
def textStep (l : List UInt8) (p : Nat) (e most : Int) : List UInt8 × Nat × Int :=
  if e ≠ 0 then ([], p, e)
  else if (look (l.drop p)).2.2 ≠ 0 then ([], p, (look (l.drop p)).2.2)
  else if most < ((look (l.drop p)).1 : Int) then ([], p, 2)
  else if l.length - (p + (look (l.drop p)).2.1) < (look (l.drop p)).1 then ([], p, 3)
  else ((l.drop (p + (look (l.drop p)).2.1)).take (look (l.drop p)).1, p + (look (l.drop p)).2.1 + (look (l.drop p)).1, 0)
theorem text_raw (l : List UInt8) (p : Nat) (e most : Int) (hp : p ≤ l.length) :
    textStep l p e most = ((textRaw l p e most).1, (if (textRaw l p e most).2.2 ≠ 0 then p else (textRaw l p e most).2.1), (textRaw l p e most).2.2) := by
  unfold textStep textRaw numStep
  by_cases h1 : e ≠ 0
  · simp only [if_pos h1]
    rw [if_neg (by omega), if_pos h1]
    simp
  · simp only [if_neg h1]
    by_cases h2 : (look (l.drop p)).2.2 ≠ 0
    · simp only [if_pos h2]
      rw [if_neg (by omega), if_pos h2]
      simp
    · simp only [if_neg h2]
      by_cases h3 : most < ((look (l.drop p)).1 : Int)
      · have h3' : ((look (l.drop p)).1 : Int) < 0 ∨ most < ((look (l.drop p)).1 : Int) := .inr h3
        simp only [if_pos h3, if_pos h3']
        rw [if_neg (by omega)]
        simp
      · have h3' : ¬ (((look (l.drop p)).1 : Int) < 0 ∨ most < ((look (l.drop p)).1 : Int)) := by omega
        simp only [if_neg h3, if_neg h3']
        have hu : (look (l.drop p)).2.1 ≤ l.length - p := by
          obtain ⟨_, h, _⟩ := look_zero (l := l.drop p) (N := (look (l.drop p)).1) (U := (look (l.drop p)).2.1) (by
            have : (look (l.drop p)).2.2 = 0 := by omega
            rw [← this])
          rwa [List.length_drop] at h
        by_cases h4 : l.length - (p + (look (l.drop p)).2.1) < (look (l.drop p)).1
        · rw [if_pos h4, if_pos (by omega)]
          simp
        · rw [if_neg h4, if_neg (by omega), if_neg (by simp)]
          simp

def StepS (T : TypeId) (w w' : World) (g : Nat) (A : Option Addr) (n c : Nat) (er : Ending) (x : List UInt8 × Nat × Int) : Prop :=
  er = .returned (.string ⟨x.1.toArray⟩) ∧ CuRow T w' g A n c x.2.1 x.2.2 ∧ w.grownBy w' (some g)

set_option maxHeartbeats 2000000 in
theorem ctext_any (g : Nat) (A : Option Addr) (l : List UInt8) (n c p : Nat) (e most : Int) (hn : l.length = n) (hc : n ≤ c) (hL : n ≤ 1099511627776) (hp : p ≤ n)
    (w : World) (h : CuRow 76 w g A n c p e) (hb : Byt w g A l) :
    Calls Tryz.prog 121 #[.pointer (some ⟨g, 0, none⟩), .int .i64 most] w fun er w' => StepS 76 w w' g A n c er (textRaw l p e most) := by
  have HC := hid (cnum_any g A l n c p e 0 most hn hc hL hp w h hb)
  obtain ⟨V, p', e', hns, hV, hp', hz⟩ := numStep_nat l p e 0 most (by omega)
  rw [hns] at HC
  have HR : Hid (textRaw l p e most = if (n : Int) - (p' : Int) < (V : Int) then ([], p', 3) else ((l.drop p').take V, p' + V, e')) := hid (by
    unfold textRaw; rw [hns, hn]; rfl)
  rw [hn] at hp'
  have HB := hid hb
  have hgl := h.lt
  have HN := hid hn
  clear h hb hns hn
  go_enter Tryz.func121, Tryz.ntmps121
  go_wp2_with fail
  refine HC.out.mono ?_
  rintro er w2 ⟨rfl, hcur, hg⟩
  have hgl2 := hcur.lt
  have y2 := HB.out.grown (Nat.le_of_lt hgl) hg (fun g' e => by injection e with e; omega)
  have h0 := hcur.c0
  have h1 := hcur.c1
  have f1 := hcur.f 1
  have H := hid hcur
  have HG := hid hg
  obtain ⟨B, hB⟩ : ∃ B, B = (if c = p' then A else A.map (·.add p')) := ⟨_, rfl⟩
  have hcut : Byt w2 g B (l.drop p') := by
    have := y2.cut (lo := p') (hi := n) (cap := c) hp' (by rw [HN.out]; exact Nat.le_refl _) (by rw [HN.out]; exact hc)
    rwa [List.take_of_length_le (by rw [HN.out]; exact Nat.le_refl _), ← hB] at this
  have eB := hB.symm
  have hpc : (p' : Int) ≤ (n : Int) := by omega
  have hnc : (n : Int) ≤ (c : Int) := by omega
  have HCUT := hid hcut
  have HFL := hid (fun k => fail_any g A n c p' e' 3 (w2.drewN k) (H.out.drewN k))
  have esub : ((n - p' : Nat) : Int) = (n : Int) - (p' : Int) := by omega
  clear hcur hg hB hcut y2
  go_wp2_with fail
  go_quiet (fail)
  by_cases hshort : (n : Int) - (p' : Int) < (V : Int)
  · have he0 : e' = 0 := by
      by_cases he : e' = 0
      · exact he
      · have := hz he; omega
    have HR2 : Hid (textRaw l p e most = ([], p', 3)) := hid (by rw [HR.out, if_pos hshort])
    have HE0 := hid he0
    clear he0 hz
    go_wp2_with fail
    refine (HFL.out _).mono ?_
    rintro er w3 ⟨rfl, hc3, hg3⟩
    have HC3 := hid hc3
    have HG3 := hid ((HG.out.trans (grown_drewN w2 _ (some g))).trans hg3)
    clear hc3 hg3
    go_wp2
    go_ret
    rw [HR2.out]
    refine ⟨rfl, ?_, HG3.out⟩
    have := HC3.out
    rw [if_pos HE0.out] at this
    exact this
  · have HR2 : Hid (textRaw l p e most = ((l.drop p').take V, p' + V, e')) := hid (by rw [HR.out, if_neg hshort])
    have hcv : (convert 22 9 (.slice B V (c - p'))).run Tryz.prog ((w2.drewN nq).setCell ⟨g, 1, none⟩ (.int .i64 ((p' : Int) + (V : Int)))) = .ok (.string ⟨((l.drop p').take V).toArray⟩) ((w2.drewN nq).setCell ⟨g, 1, none⟩ (.int .i64 ((p' : Int) + (V : Int)))) := by
      refine conv_byt (B := g) ?_ (by rw [List.length_take, List.length_drop, HN.out]; omega)
      exact ((HCUT.out.drewN nq).grown (Nat.le_of_lt hgl2) (grown_set _ g 1 _) (fun g' e => by injection e with e; omega)).head
    have hpV : (p' : Int) + (V : Int) ≤ 1099511627776 := by omega
    clear hz
    go_wp2
    go_ret
    rw [HR2.out]
    exact ⟨rfl, (H.out.drewN nq).set1 (p' + V) (by simp), (HG.out.trans (grown_drewN w2 _ (some g))).trans (grown_set _ _ _ _)⟩

set_option maxHeartbeats 1000000 in
theorem attempt_any (g : Nat) (A : Option Addr) (l : List UInt8) (n c p : Nat) (e most : Int) (hn : l.length = n) (hc : n ≤ c) (hL : n ≤ 1099511627776) (hp : p ≤ n)
    (w : World) (h : CuRow 76 w g A n c p e) (hb : Byt w g A l) :
    Calls Tryz.prog 120 #[.pointer (some ⟨g, 0, none⟩), .func (.func 121) #[.pointer (some ⟨g, 0, none⟩)] #[], .int .i64 most] w fun er w' => StepS 76 w w' g A n c er (textStep l p e most) := by
  have HC := hid (ctext_any g A l n c p e most hn hc hL hp w h hb)
  obtain ⟨S, q, r, htr⟩ : ∃ S q r, textRaw l p e most = (S, q, r) := ⟨_, _, _, rfl⟩
  rw [htr] at HC
  have HS : Hid (textStep l p e most = (S, (if r ≠ 0 then p else q), r)) := hid (by rw [text_raw l p e most (by omega), htr])
  have k1 := h.c1
  clear h hb hn htr
  go_enter Tryz.func120, Tryz.ntmps120
  go_wp2_with fail
  refine HC.out.mono ?_
  rintro er w2 ⟨rfl, hcur, hg⟩
  have h1 := hcur.c1
  have h2 := hcur.c2
  have f1 := hcur.f 1
  have H := hid hcur
  have HG := hid hg
  clear hcur hg k1
  by_cases hr : r = 0
  · subst hr
    have HS2 : Hid (textStep l p e most = (S, q, 0)) := hid (by rw [HS.out, if_neg (by simp)])
    go_wp2
    go_ret
    rw [HS2.out]
    exact ⟨rfl, H.out, HG.out⟩
  · have HS2 : Hid (textStep l p e most = (S, p, r)) := hid (by rw [HS.out, if_pos hr])
    go_wp2
    go_ret
    rw [HS2.out]
    exact ⟨rfl, H.out.set1 p rfl, HG.out.trans (grown_set _ _ _ _)⟩
theorem cText_any (g : Nat) (A : Option Addr) (l : List UInt8) (n c p : Nat) (e most : Int) (hn : l.length = n) (hc : n ≤ c) (hL : n ≤ 1099511627776) (hp : p ≤ n)
    (w : World) (h : CuRow 76 w g A n c p e) (hb : Byt w g A l) :
    Calls Tryz.prog 88 #[.pointer (some ⟨g, 0, none⟩), .int .i64 most] w fun er w' => StepS 76 w w' g A n c er (textStep l p e most) := by
  have hmf : ∀ (fn : Fn) (first cap : Array Value) (w : World), (Instr.makeFunc fn first cap).run Tryz.prog w = .ok (.func fn first cap) w := fun _ _ _ _ => rfl
  have HC := hid (attempt_any g A l n c p e most hn hc hL hp w h hb)
  clear h hb hn
  go_enter Tryz.func88, Tryz.ntmps88
  go_wp2_with fail
  refine HC.out.mono ?_
  rintro er w2 ⟨rfl, hcur, hg⟩
  go_wp2
  go_ret
  exact ⟨rfl, hcur, hg⟩
end Go.Proofs.YtaadmgbmaekicaaGreatDoor.Sh
/-
  The document's own look.
-/
namespace Go.Proofs.YtaadmgbmaekicaaGreatDoor.Sh
open Go Go.RowKit

theorem val_over {l : List UInt8} {k j : Nat} {z : UInt8} (hz : (digs l k)[j]? = some z) (hV : 36028797018963967 < val ((digs l k).take j)) : 9223372036854775808 ≤ val (digs l k) := by
  have h1 := val_take_succ hz
  have h2 := val_mono_take (digs l k) (j + 1)
  omega

set_option maxHeartbeats 4000000 in
theorem refLook_any (g : Nat) (A : Option Addr) (l : List UInt8) (n c p : Nat) (e : Int) (hn : l.length = n) (hc : n ≤ c) (hL : n ≤ 1099511627776) (hp : p ≤ n)
    (w : World) (h : CuRow 41 w g A n c p e) (hb : Byt w g A l) :
    Calls Tryz.prog 95 #[.pointer (some ⟨g, 0, none⟩)] w fun er w' => er = tup3 (look (l.drop p)) ∧ ∃ k, w' = w.drewN k := by
  have h0 := h.c0
  have h1 := h.c1
  obtain ⟨B, hB⟩ : ∃ B, B = (if c = p then A else A.map (·.add p)) := ⟨_, rfl⟩
  have hcut : Byt w g B (l.drop p) := by
    have := hb.cut (lo := p) (hi := n) (cap := c) hp (by omega) (by omega)
    rwa [List.take_of_length_le (by omega), ← hB] at this
  have eB := hB.symm
  obtain ⟨r, hr⟩ : ∃ r, r = l.drop p := ⟨_, rfl⟩
  have hrl : r.length = n - p := by rw [hr, List.length_drop, hn]
  rw [← hr] at hcut ⊢
  obtain ⟨m, hm⟩ : ∃ m, m = n - p := ⟨_, rfl⟩
  rw [← hm] at hrl
  have em := hm.symm
  have emi : (n : Int) - (p : Int) = (m : Int) := by omega
  have hpc : (p : Int) ≤ (n : Int) := by omega
  have hnc : (n : Int) ≤ (c : Int) := by omega
  have hm2 : m ≤ 1099511627776 := by omega
  clear h hb hB hr hm hn
  go_enter Tryz.func95, Tryz.ntmps95
  go_wp2_with fail
  go_quiet (fail)
  obtain ⟨w1, hw1⟩ : ∃ w1, w1 = w.drewN nq := ⟨_, rfl⟩
  have hb1 : Byt w1 g B r := by rw [hw1]; exact hcut.drewN nq
  have HW : Hid (∃ k, w1 = w.drewN k) := hid ⟨nq, hw1⟩
  rw [← hw1]
  clear hw1 hcut h0 h1
  by_cases hm0 : m = 0
  · subst hm0
    have HE := hid (look_nil hrl)
    clear hrl hb1
    go_wp2
    go_ret3
    exact ⟨by rw [HE.out]; rfl, HW.out⟩
  obtain ⟨ad, x, rfl, had, hx, hcell0⟩ := hb1.get (k := 0) (by omega)
  have hc00 : w1.cell? ad = some (.int .u8 (x.toNat : Int)) := by rw [← add_zero ad]; exact hcell0
  have hx8 := lt8 x
  obtain ⟨k, hk⟩ : ∃ k, x.toNat = k := ⟨_, rfl⟩
  rw [hk] at hcell0 hc00 hx8
  have HK := hid hk
  have HX := hid hx
  have HN := hid hrl
  by_cases hbig : 8 < k
  · have HE := hid (look_big hx (by omega))
    clear hk hx hrl hb1
    go_wp2
    go_ret3
    exact ⟨by rw [HE.out]; rfl, HW.out⟩
  by_cases hfew : m < k + 1
  · have HE := hid (look_few hx (by omega) (by omega))
    have e1 : (m : Int) < (k : Int) + 1 := by omega
    clear hk hx hrl hb1
    go_wp2
    go_ret3
    exact ⟨by rw [HE.out]; rfl, HW.out⟩
  have hLK := look_digs hx (by omega) (by omega)
  rw [hk] at hLK
  have hdl := digs_length (l := r) (k := k) (by omega)
  have HDL := hid hdl
  have hyz : 0 < k → ∃ y : UInt8, r[1]? = some y ∧ w1.cell? ⟨ad.block, ad.off + 1, none⟩ = some (.int .u8 (y.toNat : Int)) := by
    intro hk0
    obtain ⟨ad', y, had', _, hy, hcell1⟩ := hb1.get (k := 1) (by omega)
    injection had' with had'
    subst had'
    exact ⟨y, hy, by rw [← add_pos ad 1 (by omega)]; exact hcell1⟩
  have HB := hid hb1
  by_cases hbad : 0 < k ∧ r[1]? = some 0
  · obtain ⟨hkp, hr1⟩ := hbad
    obtain ⟨y, hy, hc10⟩ := hyz hkp
    obtain rfl : y = 0 := by rw [hy] at hr1; exact Option.some.inj hr1
    have HE : Hid (look r = (0, 0, 2)) := hid (by rw [hLK, if_pos (by rw [digs_head hkp, hy])])
    have hkp' : (0 : Int) < (k : Int) := by omega
    have hc11 : w1.cell? ⟨ad.block, ad.off + 1, none⟩ = some (.int .u8 0) := hc10
    clear hk hx hrl hb1 hLK hdl hyz hy hr1 hc10
    go_wp2
    go_ret3
    exact ⟨by rw [HE.out]; rfl, HW.out⟩
  have hhd : ¬ (digs r k).head? = some 0 := by
    intro e
    rcases Nat.eq_zero_or_pos k with rfl | hkp
    · have := List.eq_nil_of_length_eq_zero hdl
      rw [this] at e
      simp at e
    · rw [digs_head hkp] at e
      exact hbad ⟨hkp, e⟩
  rw [if_neg hhd] at hLK
  have HLK := hid hLK
  by_cases hk0 : k = 0
  · have HE : Hid (look r = (0, 1, 0)) := hid (by
      rw [hLK, hk0]
      have : digs r 0 = [] := List.eq_nil_of_length_eq_zero (by rw [← hk0]; rw [hdl])
      rw [this, val_nil, if_neg (by omega)])
    clear hk hx hrl hb1 hLK hdl hyz hbad hhd HLK HDL hfew hbig
    subst hk0
    go_wp2
    refine wp_loop_rounds 1 ?_
    rw [rounds_succ]
    go_wp2
    go_ret3
    exact ⟨by rw [HE.out]; rfl, HW.out⟩
  · have hkp' : (0 : Int) < (k : Int) := by omega
    obtain ⟨y, hy, hc10⟩ := hyz (by omega)
    have hy0 : ¬ y.toNat = 0 := fun e => hbad ⟨by omega, by rw [hy]; congr 1; exact UInt8.toNat_inj.1 e⟩
    clear hk hx hrl hb1 hLK hdl hyz hbad hhd hy
    go_wp2
    go_loopw [7, 8] (fun v i wr => ∃ j V : Nat, v = .int .i64 (V : Int) ∧ i = .int .i64 ((j : Int) + 1) ∧ j ≤ k ∧ V < 9223372036854775808 ∧ Hid (V = val ((digs r k).take j)) ∧ w1 = wr) (fun _ i _ => k + 1 - (intOf i).toNat)
    case atStart => exact ⟨0, 0, rfl, rfl, by omega, by omega, hid rfl, rfl⟩
    case round =>
      obtain ⟨j, V, rfl, rfl, hj, hVb, HV, rfl⟩ := hrel
      by_cases hlt : j < k
      · obtain ⟨ad', z, had', _, hz, hcz⟩ := HB.out.get (k := j + 1) (by rw [HN.out]; omega)
        injection had' with had'
        subst had'
        have hz8 := lt8 z
        have HZ : Hid ((digs r k)[j]? = some z) := hid (by rw [digs_get hlt]; exact hz)
        have hcz1 : w1.cell? ⟨ad.block, ad.off + (j + 1), none⟩ = some (.int .u8 (z.toNat : Int)) := by
          rw [add_pos _ _ (by omega)] at hcz
          exact hcz
        have HT := hid (val_take_succ HZ.out)
        have hj0 : (j : Int) + 1 ≤ (k : Int) := by omega
        have HS : Hid (256 * V + z.toNat = val ((digs r k).take (j + 1))) := hid (by rw [HT.out, HV.out])
        clear hz
        by_cases hov : 36028797018963967 < V
        · have HE : Hid (look r = (0, 0, 2)) := hid (by rw [HLK.out, if_pos (val_over HZ.out (by rw [← HV.out]; exact hov))])
          have hov' : (36028797018963967 : Int) < (V : Int) := by omega
          go_wp2
          go_ret3
          exact ⟨by rw [HE.out]; rfl, HW.out⟩
        · have hov' : ¬ (36028797018963967 : Int) < (V : Int) := by omega
          have hVz : 256 * (V : Int) + (z.toNat : Int) < 9223372036854775808 := by omega
          go_wp2
          go_roundw
          case rel => exact ⟨j + 1, 256 * V + z.toNat, by go_num, by go_num, by omega, by omega, HS, trivial⟩
          case measure => simp [intOf]; omega
      · have HVE : Hid (val (digs r k) = V) := hid (by rw [HV.out, List.take_of_length_le (by rw [HDL.out]; omega)])
        have HE : Hid (look r = (V, k + 1, 0)) := hid (by rw [HLK.out, HVE.out, if_neg (by omega)])
        have hlt' : ¬ (j : Int) + 1 ≤ (k : Int) := by omega
        go_wp2
        go_ret3
        exact ⟨by rw [HE.out]; simp [tup3], HW.out⟩
end Go.Proofs.YtaadmgbmaekicaaGreatDoor.Sh
/-
  The document's own cursor: Number and Text.
-/
namespace Go.Proofs.YtaadmgbmaekicaaGreatDoor.Sh
open Go Go.RowKit

set_option maxHeartbeats 2000000 in
theorem refCNum_any (g : Nat) (A : Option Addr) (l : List UInt8) (n c p : Nat) (e least most : Int) (hn : l.length = n) (hc : n ≤ c) (hL : n ≤ 1099511627776) (hp : p ≤ n)
    (w : World) (h : CuRow 41 w g A n c p e) (hb : Byt w g A l) :
    Calls Tryz.prog 44 #[.pointer (some ⟨g, 0, none⟩), .int .i64 least, .int .i64 most] w fun er w' => Step 41 w w' g A n c er (numStep l p e least most) := by
  have h2 := h.c2
  have H := hid h
  by_cases he : e ≠ 0
  · have HE : Hid (numStep l p e least most = (0, p, e)) := hid (by unfold numStep; rw [if_pos he])
    clear h hb
    go_enter Tryz.func44, Tryz.ntmps44
    go_wp2
    go_ret
    rw [HE.out]
    exact ⟨rfl, H.out, World.grownBy.refl _ _⟩
  obtain rfl : e = 0 := by omega
  obtain ⟨N, U, E, hlk⟩ : ∃ N U E, look (l.drop p) = (N, U, E) := ⟨_, _, _, rfl⟩
  have HD := hid (refLook_any g A l n c p 0 hn hc hL hp w h hb)
  rw [hlk] at HD
  unfold tup3 at HD
  have HS : Hid (numStep l p 0 least most = if E ≠ 0 then (0, p, E) else if (N : Int) < least ∨ most < (N : Int) then (0, p, 2) else ((N : Int), p + U, 0)) := hid (by
    unfold numStep; rw [if_neg (by simp), hlk])
  have hUb : E = 0 → N < 9223372036854775808 ∧ p + U ≤ n := by
    rintro rfl
    have := look_zero hlk
    rw [List.length_drop] at this
    omega
  clear h hb hlk he hn
  go_enter Tryz.func44, Tryz.ntmps44
  go_wp2_with fail
  refine HD.out.mono ?_
  rintro er w2 ⟨rfl, hq⟩
  have H2 : Hid (CuRow 41 w2 g A n c p 0) := by obtain ⟨q, rfl⟩ := hq; exact hid (H.out.drewN q)
  have HG : Hid (w.grownBy w2 (some g)) := by obtain ⟨q, rfl⟩ := hq; exact hid (grown_drewN w q (some g))
  have k1 := H2.out.c1
  have k2 := H2.out.c2
  have f1 := H2.out.f 1
  have f2 := H2.out.f 2
  clear h2 H hq HD
  by_cases hE : E = 0
  · subst hE
    obtain ⟨hN, hU⟩ := hUb rfl
    clear hUb
    by_cases hlo : (N : Int) < least
    · have HR : Hid (numStep l p 0 least most = (0, p, 2)) := hid (by rw [HS.out, if_neg (by simp), if_pos (.inl hlo)])
      go_wp2
      go_ret
      rw [HR.out]
      exact ⟨rfl, H2.out.set2 2, HG.out.trans (grown_set _ _ _ _)⟩
    · by_cases hhi : most < (N : Int)
      · have HR : Hid (numStep l p 0 least most = (0, p, 2)) := hid (by rw [HS.out, if_neg (by simp), if_pos (.inr hhi)])
        go_wp2
        go_ret
        rw [HR.out]
        exact ⟨rfl, H2.out.set2 2, HG.out.trans (grown_set _ _ _ _)⟩
      · have HR : Hid (numStep l p 0 least most = ((N : Int), p + U, 0)) := hid (by rw [HS.out, if_neg (by simp), if_neg (by omega)])
        have hpU : (p : Int) + (U : Int) ≤ 1099511627776 := by omega
        go_wp2
        go_ret
        rw [HR.out]
        exact ⟨rfl, H2.out.set1 (p + U) (by simp), HG.out.trans (grown_set _ _ _ _)⟩
  · have HR : Hid (numStep l p 0 least most = (0, p, E)) := hid (by rw [HS.out, if_pos hE])
    clear hUb
    go_wp2
    go_ret
    rw [HR.out]
    exact ⟨rfl, H2.out.set2 E, HG.out.trans (grown_set _ _ _ _)⟩

set_option maxHeartbeats 4000000 in
theorem refCText_any (g : Nat) (A : Option Addr) (l : List UInt8) (n c p : Nat) (e most : Int) (hn : l.length = n) (hc : n ≤ c) (hL : n ≤ 1099511627776) (hp : p ≤ n)
    (w : World) (h : CuRow 41 w g A n c p e) (hb : Byt w g A l) :
    Calls Tryz.prog 45 #[.pointer (some ⟨g, 0, none⟩), .int .i64 most] w fun er w' => StepS 41 w w' g A n c er (textStep l p e most) := by
  have h2 := h.c2
  have H := hid h
  by_cases he : e ≠ 0
  · have HE : Hid (textStep l p e most = ([], p, e)) := hid (by unfold textStep; rw [if_pos he])
    clear h hb
    go_enter Tryz.func45, Tryz.ntmps45
    go_wp2
    go_ret
    rw [HE.out]
    exact ⟨rfl, H.out, World.grownBy.refl _ _⟩
  obtain rfl : e = 0 := by omega
  obtain ⟨N, U, E, hlk⟩ : ∃ N U E, look (l.drop p) = (N, U, E) := ⟨_, _, _, rfl⟩
  have HD := hid (refLook_any g A l n c p 0 hn hc hL hp w h hb)
  rw [hlk] at HD
  unfold tup3 at HD
  have HS : Hid (textStep l p 0 most = if E ≠ 0 then ([], p, E) else if most < (N : Int) then ([], p, 2) else if n - (p + U) < N then ([], p, 3) else ((l.drop (p + U)).take N, p + U + N, 0)) := hid (by
    unfold textStep; rw [if_neg (by simp), hlk, hn])
  have hUb : E = 0 → N < 9223372036854775808 ∧ p + U ≤ n := by
    rintro rfl
    have := look_zero hlk
    rw [List.length_drop] at this
    omega
  have HB := hid hb
  have HN := hid hn
  clear h hb hlk he hn
  go_enter Tryz.func45, Tryz.ntmps45
  go_wp2_with fail
  refine HD.out.mono ?_
  rintro er w2 ⟨rfl, hq⟩
  have H2 : Hid (CuRow 41 w2 g A n c p 0) := by obtain ⟨q, rfl⟩ := hq; exact hid (H.out.drewN q)
  have HG : Hid (w.grownBy w2 (some g)) := by obtain ⟨q, rfl⟩ := hq; exact hid (grown_drewN w q (some g))
  have HB2 : Hid (Byt w2 g A l) := by obtain ⟨q, rfl⟩ := hq; exact hid (HB.out.drewN q)
  have k0 := H2.out.c0
  have k1 := H2.out.c1
  have k2 := H2.out.c2
  have f1 := H2.out.f 1
  have f2 := H2.out.f 2
  clear h2 H hq HD
  by_cases hE : E = 0
  · subst hE
    obtain ⟨hN, hU⟩ := hUb rfl
    clear hUb
    by_cases hhi : most < (N : Int)
    · have HR : Hid (textStep l p 0 most = ([], p, 2)) := hid (by rw [HS.out, if_neg (by simp), if_pos hhi])
      go_wp2
      go_ret
      rw [HR.out]
      exact ⟨rfl, H2.out.set2 2, HG.out.trans (grown_set _ _ _ _)⟩
    · have hnp : (p : Int) + (U : Int) ≤ (n : Int) := by omega
      go_wp2_with fail
      go_quiet (fail)
      have HG3 := hid (HG.out.trans (grown_drewN w2 nq (some g)))
      have H3 := hid (H2.out.drewN nq)
      have g0 := H3.out.c0
      have g1 := H3.out.c1
      have g2 := H3.out.c2
      have u1 := H3.out.f 1
      have u2 := H3.out.f 2
      obtain ⟨w3, hw3⟩ : ∃ w3, w3 = w2.drewN nq := ⟨_, rfl⟩
      rw [← hw3] at HG3 H3 g0 g1 g2 u1 u2 ⊢
      have HB3 : Hid (Byt w3 g A l) := hid (by rw [hw3]; exact HB2.out)
      clear hw3 k0 k1 k2 f1 f2 HG H2
      by_cases hsh : (n : Int) - (p : Int) - (U : Int) < (N : Int)
      · have HR : Hid (textStep l p 0 most = ([], p, 3)) := hid (by rw [HS.out, if_neg (by simp), if_neg (by omega), if_pos (by omega)])
        go_wp2
        go_ret
        rw [HR.out]
        exact ⟨rfl, H3.out.set2 3, HG3.out.trans (grown_set _ _ _ _)⟩
      · have HR : Hid (textStep l p 0 most = ((l.drop (p + U)).take N, p + U + N, 0)) := hid (by rw [HS.out, if_neg (by simp), if_neg (by omega), if_neg (by omega)])
        obtain ⟨Q, hQ⟩ : ∃ Q, Q = p + U := ⟨_, rfl⟩
        obtain ⟨R, hR⟩ : ∃ R, R = Q + N := ⟨_, rfl⟩
        obtain ⟨B, hB⟩ : ∃ B, B = (if c = Q then A else A.map (·.add Q)) := ⟨_, rfl⟩
        rw [← hQ] at HR
        have hcv : ∀ k, (convert 22 9 (.slice B N (c - Q))).run Tryz.prog (w3.drewN k) = .ok (.string ⟨((l.drop Q).take N).toArray⟩) (w3.drewN k) := fun k => by
          have hcut := HB3.out.cut (lo := Q) (hi := Q + N) (cap := c) (by omega) (by rw [HN.out]; omega) (by rw [HN.out]; exact hc)
          rw [← hB, List.drop_take, show Q + N - Q = N by omega] at hcut
          exact conv_byt (hcut.drewN k) (by rw [List.length_take, List.length_drop, HN.out]; omega)
        have eB := hB.symm
        have e1 : (p : Int) + (U : Int) = (Q : Int) := by omega
        have e2 : (Q : Int) + (N : Int) = (R : Int) := by omega
        have e3 : R - Q = N := by omega
        have q1 : (Q : Int) ≤ (R : Int) := by omega
        have q2 : (R : Int) ≤ (n : Int) := by omega
        have q3 : (n : Int) ≤ (c : Int) := by omega
        have q4 : (n : Int) ≤ 1099511627776 := by omega
        have HRR : Hid (R = Q + N) := hid hR
        have HQQ : Hid (Q = p + U) := hid hQ
        clear hQ hR hB hnp hU hsh hN hhi hp hc
        go_wp2_with fail
        go_quiet (fail)
        go_wp2
        go_ret
        rw [HR.out]
        exact ⟨rfl, (H3.out.drewN _).set1 (Q + N) (by rw [HRR.out]), (HG3.out.trans (grown_drewN w3 _ (some g))).trans (grown_set _ _ _ _)⟩
  · have HR : Hid (textStep l p 0 most = ([], p, E)) := hid (by rw [HS.out, if_pos hE])
    clear hUb
    go_wp2
    go_ret
    rw [HR.out]
    exact ⟨rfl, H2.out.set2 E, HG.out.trans (grown_set _ _ _ _)⟩
end Go.Proofs.YtaadmgbmaekicaaGreatDoor.Sh
