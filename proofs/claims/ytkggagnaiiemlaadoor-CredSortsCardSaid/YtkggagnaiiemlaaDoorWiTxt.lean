/-
  A cursor's Text.
-/
import Derived.Test.YtkggagnaiiemlaaDoorWiNum
namespace Go.Proofs.YtkggagnaiiemlaaDoor.Sh
open Go Go.RowKit

theorem conv_byt {w : World} {B : Nat} {A : Option Addr} {l : List UInt8} {n c : Nat} (h : Byt w B A l) (hl : l.length = n) : (convert 34 9 (.slice A n c)).run Tryd.prog w = .ok (.string ⟨l.toArray⟩) w := by
  subst hl
  rcases A with _ | ad
  · obtain rfl : l = [] := by
      rcases Nat.eq_zero_or_pos l.length with h0 | h0
      · exact List.eq_nil_of_length_eq_zero h0
      · obtain ⟨_, h1, _⟩ := h h0
        cases h1
    exact Lib.run_convert_nil_bytes w 34 9 5 c Tryd.underlying34 Tryd.underlying5 Tryd.underlying9
  · exact run_convert_bytes_back w 34 9 5 ad c l Tryd.underlying34 Tryd.underlying5 Tryd.underlying9 (fun j hj => h.cells rfl j _ (by simp [bv, hj]))

theorem numStep_nat (l : List UInt8) (p : Nat) (e least most : Int) (hp : p ≤ l.length) :
    ∃ (V p' : Nat) (e' : Int), numStep l p e least most = ((V : Int), p', e') ∧ V < 9223372036854775808 ∧ p' ≤ l.length ∧ (e' ≠ 0 → V = 0 ∧ p' = p) := by
  unfold numStep
  split
  · exact ⟨0, p, e, rfl, by omega, hp, fun _ => ⟨rfl, rfl⟩⟩
  · split
    · exact ⟨0, p, _, rfl, by omega, hp, fun _ => ⟨rfl, rfl⟩⟩
    · split
      · exact ⟨0, p, _, rfl, by omega, hp, fun _ => ⟨rfl, rfl⟩⟩
      · rename_i h _
        obtain ⟨h1, h2, _⟩ := look_zero (l := l.drop p) (N := (look (l.drop p)).1) (U := (look (l.drop p)).2.1) (by
          have : (look (l.drop p)).2.2 = 0 := by omega
          rw [← this])
        rw [List.length_drop] at h2
        exact ⟨_, _, _, rfl, h1, by omega, fun h => absurd rfl h⟩
/-- What text answers; the place may be behind what it has passed. -/
def textRaw (l : List UInt8) (p : Nat) (e most : Int) : List UInt8 × Nat × Int :=
  if (l.length : Int) - (numStep l p e 0 most).2.1 < (numStep l p e 0 most).1 then ([], (numStep l p e 0 most).2.1, 3)
  else ((l.drop (numStep l p e 0 most).2.1).take (numStep l p e 0 most).1.toNat, (numStep l p e 0 most).2.1 + (numStep l p e 0 most).1.toNat, (numStep l p e 0 most).2.2)
/-- What Text answers. -/
def textStep (l : List UInt8) (p : Nat) (e most : Int) : List UInt8 × Nat × Int :=
  if e ≠ 0 then ([], p, e)
  else if (look (l.drop p)).2.2 ≠ 0 then ([], p, (look (l.drop p)).2.2)
  else if most < ((look (l.drop p)).1 : Int) then ([], p, 2)
  else if l.length - (p + (look (l.drop p)).2.1) < (look (l.drop p)).1 then ([], p, 3)
  else ((l.drop (p + (look (l.drop p)).2.1)).take (look (l.drop p)).1, p + (look (l.drop p)).2.1 + (look (l.drop p)).1, 0)
theorem text_raw (l : List UInt8) (p : Nat) (e most : Int) (hp : p ≤ l.length) :
    textStep l p e most = ((textRaw l p e most).1, (if (textRaw l p e most).2.2 ≠ 0 then p else (textRaw l p e most).2.1), (textRaw l p e most).2.2) := by
  unfold textStep textRaw numStep
  by_cases h1 : e ≠ 0
  · simp only [if_pos h1]
    rw [if_neg (by omega), if_pos h1]
    simp
  · simp only [if_neg h1]
    by_cases h2 : (look (l.drop p)).2.2 ≠ 0
    · simp only [if_pos h2]
      rw [if_neg (by omega), if_pos h2]
      simp
    · simp only [if_neg h2]
      by_cases h3 : most < ((look (l.drop p)).1 : Int)
      · have h3' : ((look (l.drop p)).1 : Int) < 0 ∨ most < ((look (l.drop p)).1 : Int) := .inr h3
        simp only [if_pos h3, if_pos h3']
        rw [if_neg (by omega)]
        simp
      · have h3' : ¬ (((look (l.drop p)).1 : Int) < 0 ∨ most < ((look (l.drop p)).1 : Int)) := by omega
        simp only [if_neg h3, if_neg h3']
        have hu : (look (l.drop p)).2.1 ≤ l.length - p := by
          obtain ⟨_, h, _⟩ := look_zero (l := l.drop p) (N := (look (l.drop p)).1) (U := (look (l.drop p)).2.1) (by
            have : (look (l.drop p)).2.2 = 0 := by omega
            rw [← this])
          rwa [List.length_drop] at h
        by_cases h4 : l.length - (p + (look (l.drop p)).2.1) < (look (l.drop p)).1
        · rw [if_pos h4, if_pos (by omega)]
          simp
        · rw [if_neg h4, if_neg (by omega), if_neg (by simp)]
          simp

def StepS (T : TypeId) (w w' : World) (g : Nat) (A : Option Addr) (n c : Nat) (er : Ending) (x : List UInt8 × Nat × Int) : Prop :=
  er = .returned (.string ⟨x.1.toArray⟩) ∧ CuRow T w' g A n c x.2.1 x.2.2 ∧ w.grownBy w' (some g)

set_option maxHeartbeats 2000000 in
theorem ctext_any (g : Nat) (A : Option Addr) (l : List UInt8) (n c p : Nat) (e most : Int) (hn : l.length = n) (hc : n ≤ c) (hL : n ≤ 1099511627776) (hp : p ≤ n)
    (w : World) (h : CuRow 69 w g A n c p e) (hb : Byt w g A l) :
    Calls Tryd.prog 86 #[.pointer (some ⟨g, 0, none⟩), .int .i64 most] w fun er w' => StepS 69 w w' g A n c er (textRaw l p e most) := by
  have HC := hid (cnum_any g A l n c p e 0 most hn hc hL hp w h hb)
  obtain ⟨V, p', e', hns, hV, hp', hz⟩ := numStep_nat l p e 0 most (by omega)
  rw [hns] at HC
  have HR : Hid (textRaw l p e most = if (n : Int) - (p' : Int) < (V : Int) then ([], p', 3) else ((l.drop p').take V, p' + V, e')) := hid (by
    unfold textRaw; rw [hns, hn]; rfl)
  rw [hn] at hp'
  have HB := hid hb
  have hgl := h.lt
  have HN := hid hn
  clear h hb hns hn
  go_enter Tryd.func86, Tryd.ntmps86
  go_wp2_with fail
  refine HC.out.mono ?_
  rintro er w2 ⟨rfl, hcur, hg⟩
  have hgl2 := hcur.lt
  have y2 := HB.out.grown (Nat.le_of_lt hgl) hg (fun g' e => by injection e with e; omega)
  have h0 := hcur.c0
  have h1 := hcur.c1
  have f1 := hcur.f 1
  have H := hid hcur
  have HG := hid hg
  obtain ⟨B, hB⟩ : ∃ B, B = (if c = p' then A else A.map (·.add p')) := ⟨_, rfl⟩
  have hcut : Byt w2 g B (l.drop p') := by
    have := y2.cut (lo := p') (hi := n) (cap := c) hp' (by rw [HN.out]; exact Nat.le_refl _) (by rw [HN.out]; exact hc)
    rwa [List.take_of_length_le (by rw [HN.out]; exact Nat.le_refl _), ← hB] at this
  have eB := hB.symm
  have hpc : (p' : Int) ≤ (n : Int) := by omega
  have hnc : (n : Int) ≤ (c : Int) := by omega
  have HCUT := hid hcut
  have HFL := hid (fun k => fail_any g A n c p' e' 3 (w2.drewN k) (H.out.drewN k))
  have esub : ((n - p' : Nat) : Int) = (n : Int) - (p' : Int) := by omega
  clear hcur hg hB hcut y2
  go_wp2_with fail
  go_quiet (fail)
  by_cases hshort : (n : Int) - (p' : Int) < (V : Int)
  · have he0 : e' = 0 := by
      by_cases he : e' = 0
      · exact he
      · have := hz he; omega
    have HR2 : Hid (textRaw l p e most = ([], p', 3)) := hid (by rw [HR.out, if_pos hshort])
    have HE0 := hid he0
    clear he0 hz
    go_wp2_with fail
    refine (HFL.out _).mono ?_
    rintro er w3 ⟨rfl, hc3, hg3⟩
    have HC3 := hid hc3
    have HG3 := hid ((HG.out.trans (grown_drewN w2 _ (some g))).trans hg3)
    clear hc3 hg3
    go_wp2
    go_ret
    rw [HR2.out]
    refine ⟨rfl, ?_, HG3.out⟩
    have := HC3.out
    rw [if_pos HE0.out] at this
    exact this
  · have HR2 : Hid (textRaw l p e most = ((l.drop p').take V, p' + V, e')) := hid (by rw [HR.out, if_neg hshort])
    have hcv : (convert 34 9 (.slice B V (c - p'))).run Tryd.prog ((w2.drewN nq).setCell ⟨g, 1, none⟩ (.int .i64 ((p' : Int) + (V : Int)))) = .ok (.string ⟨((l.drop p').take V).toArray⟩) ((w2.drewN nq).setCell ⟨g, 1, none⟩ (.int .i64 ((p' : Int) + (V : Int)))) := by
      refine conv_byt (B := g) ?_ (by rw [List.length_take, List.length_drop, HN.out]; omega)
      exact ((HCUT.out.drewN nq).grown (Nat.le_of_lt hgl2) (grown_set _ g 1 _) (fun g' e => by injection e with e; omega)).head
    have hpV : (p' : Int) + (V : Int) ≤ 1099511627776 := by omega
    clear hz
    go_wp2
    go_ret
    rw [HR2.out]
    exact ⟨rfl, (H.out.drewN nq).set1 (p' + V) (by simp), (HG.out.trans (grown_drewN w2 _ (some g))).trans (grown_set _ _ _ _)⟩

set_option maxHeartbeats 1000000 in
theorem attempt_any (g : Nat) (A : Option Addr) (l : List UInt8) (n c p : Nat) (e most : Int) (hn : l.length = n) (hc : n ≤ c) (hL : n ≤ 1099511627776) (hp : p ≤ n)
    (w : World) (h : CuRow 69 w g A n c p e) (hb : Byt w g A l) :
    Calls Tryd.prog 85 #[.pointer (some ⟨g, 0, none⟩), .func (.func 86) #[.pointer (some ⟨g, 0, none⟩)] #[], .int .i64 most] w fun er w' => StepS 69 w w' g A n c er (textStep l p e most) := by
  have HC := hid (ctext_any g A l n c p e most hn hc hL hp w h hb)
  obtain ⟨S, q, r, htr⟩ : ∃ S q r, textRaw l p e most = (S, q, r) := ⟨_, _, _, rfl⟩
  rw [htr] at HC
  have HS : Hid (textStep l p e most = (S, (if r ≠ 0 then p else q), r)) := hid (by rw [text_raw l p e most (by omega), htr])
  have k1 := h.c1
  clear h hb hn htr
  go_enter Tryd.func85, Tryd.ntmps85
  go_wp2_with fail
  refine HC.out.mono ?_
  rintro er w2 ⟨rfl, hcur, hg⟩
  have h1 := hcur.c1
  have h2 := hcur.c2
  have f1 := hcur.f 1
  have H := hid hcur
  have HG := hid hg
  clear hcur hg k1
  by_cases hr : r = 0
  · subst hr
    have HS2 : Hid (textStep l p e most = (S, q, 0)) := hid (by rw [HS.out, if_neg (by simp)])
    go_wp2
    go_ret
    rw [HS2.out]
    exact ⟨rfl, H.out, HG.out⟩
  · have HS2 : Hid (textStep l p e most = (S, p, r)) := hid (by rw [HS.out, if_pos hr])
    go_wp2
    go_ret
    rw [HS2.out]
    exact ⟨rfl, H.out.set1 p rfl, HG.out.trans (grown_set _ _ _ _)⟩
theorem cText_any (g : Nat) (A : Option Addr) (l : List UInt8) (n c p : Nat) (e most : Int) (hn : l.length = n) (hc : n ≤ c) (hL : n ≤ 1099511627776) (hp : p ≤ n)
    (w : World) (h : CuRow 69 w g A n c p e) (hb : Byt w g A l) :
    Calls Tryd.prog 80 #[.pointer (some ⟨g, 0, none⟩), .int .i64 most] w fun er w' => StepS 69 w w' g A n c er (textStep l p e most) := by
  have hmf : ∀ (fn : Fn) (first cap : Array Value) (w : World), (Instr.makeFunc fn first cap).run Tryd.prog w = .ok (.func fn first cap) w := fun _ _ _ _ => rfl
  have HC := hid (attempt_any g A l n c p e most hn hc hL hp w h hb)
  clear h hb hn
  go_enter Tryd.func80, Tryd.ntmps80
  go_wp2_with fail
  refine HC.out.mono ?_
  rintro er w2 ⟨rfl, hcur, hg⟩
  go_wp2
  go_ret
  exact ⟨rfl, hcur, hg⟩
end Go.Proofs.YtkggagnaiiemlaaDoor.Sh
