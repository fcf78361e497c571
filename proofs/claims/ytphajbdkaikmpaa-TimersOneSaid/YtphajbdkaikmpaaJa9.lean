/-
  The library's heap: down, by contract.
-/
import Derived.Test.YtphajbdkaikmpaaJa8
set_option linter.unusedVariables false
set_option linter.unusedSimpArgs false
namespace Go.Proofs.Ytphajbdkaikmpaa.Sh
open Go Go.RowKit

set_option linter.unusedSimpArgs false
set_option linter.unusedVariables false
def dnP (w0 : World) (P : Nat → Prop) (q h k : Nat) (A : Option Addr) (c n i0 : Nat) (T0 : List Tm) (b : Bool) (w : World) : Prop := ∃ T f, Mv w0 w P q h k A c n T0 T f ∧ ((b = true ∧ HeapN (ofT T) n) ∨ (b = false ∧ UpI (ofT T) n i0))
set_option maxHeartbeats 4000000 in
theorem downT_any {w0 w : World} {P : Nat → Prop} {q h k c n i : Nat} {A : Option Addr} {T0 T : List Tm} {f : Int → Option Int} (m : Mv w0 w P q h k A c n T0 T f) (h0 : KOk T0) (hl : T0.length ≤ 70) (hk : k < 990000) (hn : n ≤ T0.length) (hj : i < n) (hu : DnI (ofT T) n i i) :
    Calls Try.prog 29 #[.iface 59 (.pointer (some ⟨q, 0, none⟩)), .int .i64 (i : Int), .int .i64 (n : Int)] w fun er w' => ∃ b, er = .returned (.bool b) ∧ dnP w0 P q h (k + 200) A c n i T0 b w' := by
  have HM := hid m
  have H0 := hid h0
  have HU := hid hu
  have HN := hid hn
  have hn70 : n ≤ 70 := by omega
  have xLess := fun w => mLess (.pointer (some ⟨q, 0, none⟩)) w
  have xSwap := fun w => mSwap (.pointer (some ⟨q, 0, none⟩)) w
  clear m h0 hu hn hl
  go_enter Try.func29, Try.ntmps29
  go_wp2_with fail
  go_loopw [7] (fun jv wr => ∃ (j k' : Nat) (T' : List Tm) (f' : Int → Option Int), jv = .int .i64 (j : Int) ∧ j < n ∧ i ≤ j ∧ k' ≤ k + 2 * (j - i) ∧ Hid (Mv w0 wr P q h k' A c n T0 T' f') ∧ Hid (DnI (ofT T') n j i)) (fun jv _ => n - (intOf jv).toNat)
  case atStart => exact ⟨i, k, T, f, rfl, hj, Nat.le_refl _, by omega, HM, HU⟩
  case round =>
    obtain ⟨wj, hwj⟩ : ∃ x, x = wr := ⟨_, rfl⟩
    subst hwj
    obtain ⟨j, k', T', f', rfl, hjn, hij, hkk, HMj, HUj⟩ := hrel
    have hj0 : (0 : Int) ≤ (j : Int) := Int.natCast_nonneg _
    have hw1 : IntKind.i64.wrap (2 * (j : Int)) = 2 * (j : Int) := wrap_in _ (by omega)
    have hw2 : IntKind.i64.wrap (2 * (j : Int) + 1) = 2 * (j : Int) + 1 := wrap_in _ (by omega)
    have hw3 : IntKind.i64.wrap (2 * (j : Int) + 1 + 1) = 2 * (j : Int) + 1 + 1 := wrap_in _ (by omega)
    have HEND : Hid (∀ w2, Mv w0 w2 P q h k' A c n T0 T' f' → (∀ x, 0 < x → x < n → (x - 1) / 2 = j → leT (ofT T' j) (ofT T' x)) → dnP w0 P q h (k + 200) A c n i T0 (decide (i < j)) w2) := hid (fun w2 m2 hs => by
      rcases Nat.eq_or_lt_of_le hij with e | e
      · subst e
        exact ⟨T', f', m2.mono (by omega), .inr ⟨decide_eq_false (by omega), HUj.out.up hs⟩⟩
      · exact ⟨T', f', m2.mono (by omega), .inl ⟨decide_eq_true (by omega), HUj.out.heap e hs⟩⟩)
    by_cases h1 : 2 * j + 1 < n
    · have h1' : ¬ ((n : Int) ≤ 2 * (j : Int) + 1) := by omega
      have h1b : ¬ (2 * (j : Int) + 1 < 0) := by omega
      by_cases h2 : 2 * j + 2 < n
      · have h2' : 2 * (j : Int) + 1 + 1 < (n : Int) := by omega
        have hc2 : ((2 * j + 2 : Nat) : Int) = 2 * (j : Int) + 1 + 1 := by omega
        have hc1 : ((2 * j + 1 : Nat) : Int) = 2 * (j : Int) + 1 := by omega
        cases hb : decide (ltT (ofT T' (2 * j + 2)) (ofT T' (2 * j + 1))) with
        | true =>
          have HL := HMj.out.less HN.out h2 h1 hb
          rw [hc2, hc1] at HL
          have HL := hid HL
          have HBB := hid (of_decide_eq_true hb)
          clear hb hc1 hc2
          go_wp2_with fail
          refine HL.out.mono ?_
          rintro er w2 ⟨rfl, m2⟩
          have HM2 := hid m2
          clear m2
          have hc : ((2 * j + 2 : Nat) : Int) = 2 * (j : Int) + 1 + 1 := by omega
          have hcn : 2 * j + 2 < n := by omega
          have hjc : j < 2 * j + 2 := by omega
          have HKD := hid (kid_two h2 HBB.out)
          cases hb2 : decide (ltT (ofT T' (2 * j + 2)) (ofT T' j)) with
          | false =>
            have HL2 := HM2.out.less HN.out hcn hjn hb2
            have HST := hid (HKD.out.stop (of_decide_eq_false hb2))
            rw [hc] at HL2
            have HL2 := hid HL2
            clear hb2
            go_wp2_with fail
            refine HL2.out.mono ?_
            rintro er w9 ⟨rfl, m9⟩
            have HF := hid (HEND.out w9 m9 HST.out)
            clear m9
            go_wp2_with fail
            go_ret
            exact ⟨_, rfl, HF.out⟩
          | true =>
            have HL2 := HM2.out.less HN.out hcn hjn hb2
            have HT : Hid (j < T'.length ∧ 2 * j + 2 < T'.length) := hid ⟨by have := HMj.out.len; have := HN.out; omega, by have := HMj.out.len; have := HN.out; omega⟩
            have HE : Hid (DnI (ofT (swT T' j (2 * j + 2))) n (2 * j + 2) i) := hid (HUj.out.step hij HKD.out (of_decide_eq_true hb2) (fun x => ofT_swT HT.out.1 HT.out.2 x))
            rw [hc] at HL2
            have HL2 := hid HL2
            clear hb2
            go_wp2_with fail
            refine HL2.out.mono ?_
            rintro er w9 ⟨rfl, m9⟩
            have HSW := m9.swap H0.out (by omega) HN.out hjn hcn (Nat.ne_of_lt hjc)
            rw [hc] at HSW
            have HSW := hid HSW
            clear m9
            go_wp2_with fail
            refine HSW.out.mono ?_
            rintro er w3 ⟨rfl, f3, m3⟩
            have HM3 := hid m3
            clear m3
            go_wp2_with fail
            go_roundw
            case rel => exact ⟨2 * j + 2, k' + 2, _, f3, by rw [hc], hcn, by omega, by omega, HM3, HE⟩
            case measure => simp [intOf]; omega

        | false =>
          have HL := HMj.out.less HN.out h2 h1 hb
          rw [hc2, hc1] at HL
          have HL := hid HL
          have HBB := hid (leT_of_not (of_decide_eq_false hb))
          clear hb hc1 hc2
          go_wp2_with fail
          refine HL.out.mono ?_
          rintro er w2 ⟨rfl, m2⟩
          have HM2 := hid m2
          clear m2
          have hc : ((2 * j + 1 : Nat) : Int) = 2 * (j : Int) + 1 := by omega
          have hcn : 2 * j + 1 < n := by omega
          have hjc : j < 2 * j + 1 := by omega
          have HKD := hid (kid_one h1 (fun _ => HBB.out))
          cases hb2 : decide (ltT (ofT T' (2 * j + 1)) (ofT T' j)) with
          | false =>
            have HL2 := HM2.out.less HN.out hcn hjn hb2
            have HST := hid (HKD.out.stop (of_decide_eq_false hb2))
            rw [hc] at HL2
            have HL2 := hid HL2
            clear hb2
            go_wp2_with fail
            refine HL2.out.mono ?_
            rintro er w9 ⟨rfl, m9⟩
            have HF := hid (HEND.out w9 m9 HST.out)
            clear m9
            go_wp2_with fail
            go_ret
            exact ⟨_, rfl, HF.out⟩
          | true =>
            have HL2 := HM2.out.less HN.out hcn hjn hb2
            have HT : Hid (j < T'.length ∧ 2 * j + 1 < T'.length) := hid ⟨by have := HMj.out.len; have := HN.out; omega, by have := HMj.out.len; have := HN.out; omega⟩
            have HE : Hid (DnI (ofT (swT T' j (2 * j + 1))) n (2 * j + 1) i) := hid (HUj.out.step hij HKD.out (of_decide_eq_true hb2) (fun x => ofT_swT HT.out.1 HT.out.2 x))
            rw [hc] at HL2
            have HL2 := hid HL2
            clear hb2
            go_wp2_with fail
            refine HL2.out.mono ?_
            rintro er w9 ⟨rfl, m9⟩
            have HSW := m9.swap H0.out (by omega) HN.out hjn hcn (Nat.ne_of_lt hjc)
            rw [hc] at HSW
            have HSW := hid HSW
            clear m9
            go_wp2_with fail
            refine HSW.out.mono ?_
            rintro er w3 ⟨rfl, f3, m3⟩
            have HM3 := hid m3
            clear m3
            go_wp2_with fail
            go_roundw
            case rel => exact ⟨2 * j + 1, k' + 2, _, f3, by rw [hc], hcn, by omega, by omega, HM3, HE⟩
            case measure => simp [intOf]; omega

      · have h2' : ¬ (2 * (j : Int) + 1 + 1 < (n : Int)) := by omega
        have hc : ((2 * j + 1 : Nat) : Int) = 2 * (j : Int) + 1 := by omega
        have hcn : 2 * j + 1 < n := by omega
        have hjc : j < 2 * j + 1 := by omega
        have HKD := hid (kid_one (g := ofT T') h1 (fun h => absurd h h2))
        cases hb2 : decide (ltT (ofT T' (2 * j + 1)) (ofT T' j)) with
        | false =>
          have HL2 := HMj.out.less HN.out hcn hjn hb2
          have HST := hid (HKD.out.stop (of_decide_eq_false hb2))
          rw [hc] at HL2
          have HL2 := hid HL2
          clear hb2
          go_wp2_with fail
          refine HL2.out.mono ?_
          rintro er w9 ⟨rfl, m9⟩
          have HF := hid (HEND.out w9 m9 HST.out)
          clear m9
          go_wp2_with fail
          go_ret
          exact ⟨_, rfl, HF.out⟩
        | true =>
          have HL2 := HMj.out.less HN.out hcn hjn hb2
          have HT : Hid (j < T'.length ∧ 2 * j + 1 < T'.length) := hid ⟨by have := HMj.out.len; have := HN.out; omega, by have := HMj.out.len; have := HN.out; omega⟩
          have HE : Hid (DnI (ofT (swT T' j (2 * j + 1))) n (2 * j + 1) i) := hid (HUj.out.step hij HKD.out (of_decide_eq_true hb2) (fun x => ofT_swT HT.out.1 HT.out.2 x))
          rw [hc] at HL2
          have HL2 := hid HL2
          clear hb2
          go_wp2_with fail
          refine HL2.out.mono ?_
          rintro er w9 ⟨rfl, m9⟩
          have HSW := m9.swap H0.out (by omega) HN.out hjn hcn (Nat.ne_of_lt hjc)
          rw [hc] at HSW
          have HSW := hid HSW
          clear m9
          go_wp2_with fail
          refine HSW.out.mono ?_
          rintro er w3 ⟨rfl, f3, m3⟩
          have HM3 := hid m3
          clear m3
          go_wp2_with fail
          go_roundw
          case rel => exact ⟨2 * j + 1, k' + 2, _, f3, by rw [hc], hcn, by omega, by omega, HM3, HE⟩
          case measure => simp [intOf]; omega
    · have h1' : (n : Int) ≤ 2 * (j : Int) + 1 := by omega
      have HF := hid (HEND.out wj HMj.out (fun x x0 xn xp => by omega))
      go_wp2_with fail
      go_ret
      exact ⟨_, rfl, HF.out⟩
end Go.Proofs.Ytphajbdkaikmpaa.Sh
/-
  The library's heap: Fix, Push, Remove, by contract.
-/
namespace Go.Proofs.Ytphajbdkaikmpaa.Sh
open Go Go.RowKit

set_option linter.unusedSimpArgs false
set_option linter.unusedVariables false
theorem take_snocT {l : List Tm} {m : Nat} (h : l.length = m + 1) : l.take m ++ [ofT l m] = l := by
  have h1 := take_snoc_of (ofT_get (l := l) (i := m) (by omega))
  rw [← h1, List.take_of_length_le (by omega)]
theorem ofT_take {l : List Tm} {m i : Nat} (h : i < m) : ofT (l.take m) i = ofT l i := ofT_congr (List.getElem?_take_of_lt h)
theorem HeapN.congr {g g' : Nat → Tm} {n : Nat} (h : HeapN g n) (e : ∀ k, k < n → g' k = g k) : HeapN g' n := fun k k0 kn => by
  rw [e k kn, e _ (by omega)]
  exact h k k0 kn
theorem Mv.lenC {w0 w : World} {P : Nat → Prop} {q h k c n : Nat} {A : Option Addr} {T0 T : List Tm} {f : Int → Option Int} (m : Mv w0 w P q h k A c n T0 T f) :
    Calls Try.prog 20 #[.pointer (some ⟨q, 0, none⟩)] w fun e w' => e = .returned (.int .i64 (T0.length : Int)) ∧ w = w' := by
  rw [← m.len]
  exact lenT_any m.e.c0
set_option maxHeartbeats 2000000 in
theorem fixT_any {w0 w : World} {P : Nat → Prop} {q h k c n i : Nat} {A : Option Addr} {T0 T : List Tm} {f : Int → Option Int} (m : Mv w0 w P q h k A c n T0 T f) (h0 : KOk T0) (hl : T0.length ≤ 70) (hk : k < 980000) (hn : T0.length = n) (hj : i < n) (hu : DnI (ofT T) n i i) :
    Calls Try.prog 22 #[.iface 59 (.pointer (some ⟨q, 0, none⟩)), .int .i64 (i : Int)] w fun er w' => er = .returned (.tuple #[]) ∧ upP w0 P q h (k + 400) A c n T0 w' := by
  have HL := m.lenC
  rw [hn] at HL
  have HL := hid HL
  have HD := hid (downT_any m h0 hl (by omega) (by omega) hj hu)
  have HUP := hid (fun (w2 : World) (T2 : List Tm) (f2 : Int → Option Int) (m2 : Mv w0 w2 P q h (k + 200) A c n T0 T2 f2) u2 => upT_any (w := w2) (T := T2) (f := f2) (k := k + 200) (n := n) (j := i) m2 h0 hl (by omega) (by omega) hj u2)
  have xLen := fun w => mLen (.pointer (some ⟨q, 0, none⟩)) w
  clear m h0 hu
  go_enter Try.func22, Try.ntmps22
  go_wp2_with fail
  refine HL.out.mono ?_
  rintro er w2 ⟨rfl, hw⟩
  have hw2 : w = w2 := hw
  subst hw2
  clear hw
  go_wp2_with fail
  refine HD.out.mono ?_
  rintro er w2 ⟨b, rfl, T2, f2, m2, hb⟩
  cases b with
  | true =>
    have HE : Hid (upP w0 P q h (k + 400) A c n T0 w2) := hid ⟨T2, f2, m2.mono (by omega), by
      rcases hb with ⟨_, h1⟩ | ⟨h1, _⟩
      · exact h1
      · cases h1⟩
    clear m2 hb
    go_wp2_with fail
    go_end0
    exact ⟨rfl, HE.out⟩
  | false =>
    have HU2 := hid (HUP.out w2 T2 f2 m2 (by
      rcases hb with ⟨h1, _⟩ | ⟨_, h1⟩
      · cases h1
      · exact h1))
    clear m2 hb
    go_wp2_with fail
    refine HU2.out.mono ?_
    rintro er w3 ⟨rfl, T3, f3, m3, h3⟩
    have HE : Hid (upP w0 P q h (k + 400) A c n T0 w3) := hid ⟨T3, f3, m3.mono (by omega), h3⟩
    clear m3 h3
    go_wp2_with fail
    go_end0
    exact ⟨rfl, HE.out⟩
theorem Grew.plusT {w w2 w3 : World} {P : Nat → Prop} {m : Nat} (h : Grew w w2 P) (h' : Grew w2 w3 (plusT P w.heap.size m)) : Grew w w3 P :=
  ⟨h'.os.trans h.os, h'.tape.trans h.tape, h'.output.trans h.output, Nat.le_trans h.size h'.size, fun b hb hx => (h'.block b (Nat.lt_of_lt_of_le hb h.size) (fun hp => hp.elim hx (fun h1 => by omega))).trans (h.block b hb hx)⟩
/-- One more timer, in its place. -/
def pushP (w : World) (P : Nat → Prop) (q h k : Nat) (T : List Tm) (x : Tm) (w' : World) : Prop := ∃ A c T' f, PileE w' (plusT P w.heap.size w'.heap.size) q h k A c T' f ∧ T'.Perm (T ++ [x]) ∧ HeapN (ofT T') T'.length ∧ Pos f T' ∧ Grew w w' P
set_option maxHeartbeats 2000000 in
theorem pushH_any {w : World} {P : Nat → Prop} {q h k c : Nat} {A : Option Addr} {T : List Tm} {f : Int → Option Int} (e : PileE w P q h k A c T f) (hp : Pos f T) (hh : HeapN (ofT T) T.length) (h0 : KOk T) {d u : Int} (hu : In64 u) (hf : f u = none) (hl : T.length < 64) (hk : k < 980000) :
    Calls Try.prog 23 #[.iface 59 (.pointer (some ⟨q, 0, none⟩)), .iface 37 (.agg #[.int .i64 d, .int .i64 u])] w fun er w' => er = .returned (.tuple #[]) ∧ pushP w P q h (k + 400) T (d, u) w' := by
  have HP := hid (pushT_any e (d := d) hu (by omega) (by omega))
  have HDOM := hid e.dom
  have HPOS := hid (hp.push (x := (d, u)) hf)
  have HK0 : Hid (KOk (T ++ [(d, u)])) := hid (fun x hx => by
    rcases List.mem_append.1 hx with h1 | h1
    · exact h0 x h1
    · rw [List.mem_singleton.1 h1]; exact hu)
  have hl1 : (T ++ [(d, u)]).length = T.length + 1 := by simp
  have HUI : Hid (UpI (ofT (T ++ [(d, u)])) (T.length + 1) T.length) := hid (hh.last (fun i hi => ofT_congr (List.getElem?_append_left hi)))
  obtain ⟨n, hn⟩ : ∃ n, T.length = n := ⟨_, rfl⟩
  rw [hn] at HUI hl1 hl
  have HL1 := hid hl1
  have xLen := fun w => mLen (.pointer (some ⟨q, 0, none⟩)) w
  have xPush := fun w => mPush (.pointer (some ⟨q, 0, none⟩)) w
  have hw1 : IntKind.i64.wrap (((n + 1 : Nat) : Int) - 1) = (n : Int) := by rw [show ((n + 1 : Nat) : Int) - 1 = (n : Int) by omega]; exact wrap_in _ (by omega)
  have hw2 : IntKind.i64.wrap (n : Int) = (n : Int) := wrap_in _ (by omega)
  clear e hp hh h0 hu hf hn hl1
  go_enter Try.func23, Try.ntmps23
  go_wp2_with fail
  refine HP.out.mono ?_
  rintro er w2 ⟨rfl, ⟨A2, c2, e2⟩, g2⟩
  have HM : Hid (Mv w2 w2 (plusT P w.heap.size w2.heap.size) q h (k + 1) A2 c2 (n + 1) (T ++ [(d, u)]) (T ++ [(d, u)]) _) := hid ⟨e2, .refl _, fun _ _ => rfl, HPOS.out, Grew.refl _ _⟩
  have HG2 := hid g2
  have HL := HM.out.lenC
  rw [HL1.out] at HL
  have HL := hid HL
  have HU := hid (upT_any HM.out HK0.out (by rw [HL1.out]; omega) (by omega) (by rw [HL1.out]; exact Nat.le_refl _) (by omega) HUI.out)
  clear e2 g2 HM
  go_wp2_with fail
  refine HL.out.mono ?_
  rintro er w3 ⟨rfl, hw⟩
  have hw3 : w2 = w3 := hw
  subst hw3
  clear hw
  go_wp2_with fail
  refine HU.out.mono ?_
  rintro er w4 ⟨rfl, T4, f4, m4, h4⟩
  have hg : Grew w w4 P := HG2.out.plusT m4.grew
  have HE : Hid (pushP w P q h (k + 400) T (d, u) w4) := hid ⟨A2, c2, T4, f4, (m4.e.mono (by omega)).imp (fun x hx => hx.elim .inl (fun hx => .inr ⟨hx.1, Nat.lt_of_lt_of_le hx.2 m4.grew.size⟩)) (plusT_dom HDOM.out hg.size), m4.perm, by rw [m4.len, HL1.out]; exact h4, m4.pos, hg⟩
  clear m4 h4 hg
  go_wp2_with fail
  go_end0
  exact ⟨rfl, HE.out⟩
end Go.Proofs.Ytphajbdkaikmpaa.Sh
/-
  The library's heap: Remove, by contract.
-/
namespace Go.Proofs.Ytphajbdkaikmpaa.Sh
open Go Go.RowKit

set_option linter.unusedSimpArgs false
set_option linter.unusedVariables false
/-- All but x; its kind still has a place. -/
def rmP (w : World) (P : Nat → Prop) (q h k : Nat) (A : Option Addr) (c : Nat) (T : List Tm) (x : Tm) (w' : World) : Prop := ∃ T' f, PileE w' P q h k A c T' f ∧ (T' ++ [x]).Perm T ∧ HeapN (ofT T') T'.length ∧ Pos (updP f x.2 none) T' ∧ Grew w w' P
theorem rmP_of {w w2 w3 : World} {P : Nat → Prop} {q h k k' c m : Nat} {A : Option Addr} {T0 T : List Tm} {f : Int → Option Int} (hm : Mv w w2 P q h k A c m T0 T f) (hh : HeapN (ofT T) m) (hl : T0.length = m + 1) (hk : k ≤ k') (e : PileE w3 P q h k A c (T.take m) f) (hg : Grew w2 w3 P) {S : List Tm} (hS : T0.Perm S) : rmP w P q h k' A c S (ofT T0 m) w3 := by
  have hT : T.length = m + 1 := hm.len.trans hl
  have hx : ofT T m = ofT T0 m := hm.far m (Nat.le_refl _)
  have ht : (T.take m).length = m := by rw [List.length_take]; omega
  refine ⟨T.take m, f, e.mono hk, ?_, ?_, ?_, hm.grew.trans hg⟩
  · rw [← hx, take_snocT hT]
    exact hm.perm.trans hS
  · rw [ht]
    exact hh.congr (fun i hi => ofT_take hi)
  · rw [← hx]
    exact hm.pos.pop hT
theorem Mv.popC {w w2 : World} {P : Nat → Prop} {q h k k' c m : Nat} {A : Option Addr} {T0 T S : List Tm} {f : Int → Option Int} (hm : Mv w w2 P q h k A c m T0 T f) (hh : HeapN (ofT T) m) (hl : T0.length = m + 1) (h70 : T0.length ≤ 70) (hk : k ≤ k') (hS : T0.Perm S) {d u : Int} (hx : ofT T0 m = (d, u)) :
    Calls Try.prog 70 #[.pointer (some ⟨q, 0, none⟩)] w2 fun er w' => er = .returned (.iface 37 (.agg #[.int .i64 d, .int .i64 u])) ∧ rmP w P q h k' A c S (d, u) w' := by
  have h1 := popT_any hm.e (hm.len.trans hl) (by rw [hm.len]; exact h70)
  have h2 : ofT T m = (d, u) := (hm.far m (Nat.le_refl _)).trans hx
  rw [h2] at h1
  refine h1.mono fun er w' ⟨a, b, g⟩ => ⟨a, ?_⟩
  have := rmP_of hm hh hl hk b g hS
  rw [hx] at this
  exact this
set_option maxHeartbeats 4000000 in
theorem removeT_any {w : World} {P : Nat → Prop} {q h k c i : Nat} {A : Option Addr} {T : List Tm} {f : Int → Option Int} (e : PileE w P q h k A c T f) (hp : Pos f T) (hh : HeapN (ofT T) T.length) (h0 : KOk T) (hl : T.length ≤ 64) (hk : k < 980000) (hi : i < T.length) {d u : Int} (hx : ofT T i = (d, u)) :
    Calls Try.prog 28 #[.iface 59 (.pointer (some ⟨q, 0, none⟩)), .int .i64 (i : Int)] w fun er w' => er = .returned (.iface 37 (.agg #[.int .i64 d, .int .i64 u])) ∧ rmP w P q h (k + 500) A c T (d, u) w' := by
  obtain ⟨m, hm⟩ : ∃ m, T.length = m + 1 := ⟨T.length - 1, by omega⟩
  have xLen := fun w => mLen (.pointer (some ⟨q, 0, none⟩)) w
  have xSwap := fun w => mSwap (.pointer (some ⟨q, 0, none⟩)) w
  have xPop := fun w => mPop (.pointer (some ⟨q, 0, none⟩)) w
  have hw1 : IntKind.i64.wrap (((m + 1 : Nat) : Int) - 1) = (m : Int) := by rw [show ((m + 1 : Nat) : Int) - 1 = (m : Int) by omega]; exact wrap_in _ (by omega)
  have hw2 : IntKind.i64.wrap (m : Int) = (m : Int) := wrap_in _ (by omega)
  have HL := lenT_any e.c0
  rw [hm] at HL
  have HL := hid HL
  by_cases him : m = i
  · subst him
    have h1 : Mv w w P q h k A c m T T f := ⟨e, .refl _, fun _ _ => rfl, hp, Grew.refl _ _⟩
    have HP := hid (h1.popC (k' := k + 500) (hh := fun x x0 xn => hh x x0 (by omega)) hm (by omega) (by omega) (.refl _) hx)
    have hb : ((m : Int) != (m : Int)) = false := by simp
    clear e hp hh h0 h1 hx hi hm
    go_enter Try.func28, Try.ntmps28
    go_wp2_with fail
    refine HL.out.mono ?_
    rintro er w3 ⟨rfl, hw⟩
    have hw3 : w = w3 := hw
    subst hw3
    clear hw
    go_wp2_with fail
    refine HP.out.mono ?_
    rintro er w3 ⟨rfl, h3⟩
    have HE := hid h3
    clear h3
    go_wp2_with fail
    go_ret
    exact ⟨rfl, HE.out⟩
  · have hlt : i < m := by omega
    have hb : ((m : Int) != (i : Int)) = true := by simp; omega
    have HSW := hid (swapT_any e h0 (by omega) hi (j := m) (by omega) (by omega))
    have HS1 := hid (swT_length T i m)
    have hx1 : ofT (swT T i m) m = (d, u) := by rw [ofT_swT hi (by omega), if_pos rfl, hx]
    have HX1 := hid hx1
    have HPM := hid (swT_perm hi (show m < T.length by omega))
    have HP := hid hp
    have HDN : Hid (DnI (ofT (swT T i m)) m i i) := hid (hh.dn (by omega) (fun x x1 x2 => by rw [ofT_swT hi (by omega), if_neg (by omega), if_neg x1]))
    have HK1 : Hid (KOk (swT T i m)) := hid (fun x hx => h0 x ((swT_perm hi (show m < T.length by omega)).mem_iff.1 hx))
    have HM := hid hm
    clear e hp hh h0 hx hx1 hi
    rw [hm] at hl
    go_enter Try.func28, Try.ntmps28
    go_wp2_with fail
    refine HL.out.mono ?_
    rintro er w3 ⟨rfl, hw⟩
    have hw3 : w = w3 := hw
    subst hw3
    clear hw
    go_wp2_with fail
    refine HSW.out.mono ?_
    rintro er w2 ⟨rfl, f2, e2, p2, g2⟩
    have HM2 : Hid (Mv w w2 P q h (k + 2) A c m (swT T i m) (swT T i m) f2) := hid ⟨e2, .refl _, fun _ _ => rfl, p2 HP.out, g2⟩
    have HD := hid (downT_any HM2.out HK1.out (by rw [HS1.out, HM.out]; omega) (by omega) (by rw [HS1.out, HM.out]; omega) hlt HDN.out)
    clear e2 p2 g2
    go_wp2_with fail
    refine HD.out.mono ?_
    rintro er w3 ⟨b, rfl, T3, f3, m3, hb3⟩
    cases b with
    | true =>
      have hh3 : HeapN (ofT T3) m := by
        rcases hb3 with ⟨_, h1⟩ | ⟨h1, _⟩
        · exact h1
        · cases h1
      have HPO := hid (m3.popC (k' := k + 500) hh3 (by rw [HS1.out, HM.out]) (by rw [HS1.out, HM.out]; omega) (by omega) HPM.out HX1.out)
      clear m3 hb3 hh3
      go_wp2_with fail
      refine HPO.out.mono ?_
      rintro er w4 ⟨rfl, h3⟩
      have HE := hid h3
      clear h3
      go_wp2_with fail
      go_ret
      exact ⟨rfl, HE.out⟩
    | false =>
      have hu3 : UpI (ofT T3) m i := by
        rcases hb3 with ⟨h1, _⟩ | ⟨_, h1⟩
        · cases h1
        · exact h1
      have HU := hid (upT_any m3 HK1.out (by rw [HS1.out, HM.out]; omega) (by omega) (by rw [HS1.out, HM.out]; omega) hlt hu3)
      clear m3 hb3 hu3
      go_wp2_with fail
      refine HU.out.mono ?_
      rintro er w4 ⟨rfl, T4, f4, m4, h4⟩
      have HPO := hid (m4.popC (k' := k + 500) h4 (by rw [HS1.out, HM.out]) (by rw [HS1.out, HM.out]; omega) (by omega) HPM.out HX1.out)
      clear m4 h4
      go_wp2_with fail
      refine HPO.out.mono ?_
      rintro er w5 ⟨rfl, h3⟩
      have HE := hid h3
      clear h3
      go_wp2_with fail
      go_ret
      exact ⟨rfl, HE.out⟩
end Go.Proofs.Ytphajbdkaikmpaa.Sh
