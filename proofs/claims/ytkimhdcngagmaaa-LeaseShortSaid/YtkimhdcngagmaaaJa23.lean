/-
  slices.symMergeCmpFunc at credentials, by contract.
-/
import Derived.Test.YtkimhdcngagmaaaJa19
import Derived.Test.YtkimhdcngagmaaaJa21
import Derived.Test.YtkimhdcngagmaaaJa22
set_option linter.unusedVariables false
set_option linter.unusedSimpArgs false
namespace Go.Proofs.Ytkimhdcngagmaaa.Sh
open Go Go.RowKit
set_option linter.unusedSimpArgs false
set_option maxRecDepth 100000

/-- What symMerge is to do from a to b, m between. -/
def Merges (w0 : World) (B g C N : Nat) (tl : List Value) (W : World) (l : List Crd) (a m b : Nat) : Prop :=
  Calls Try.prog 66 #[.slice (some ⟨g, 0, none⟩) N C, .int .i64 (a : Int), .int .i64 (m : Int), .int .i64 (b : Int), .func (.func 56) #[] #[]] W fun e w' => e = .returned (.tuple #[]) ∧ ∃ l', Rw w0 w' B g tl l' ∧ Mix a b l l' ∧ Srt a b l'
theorem rot_call {w0 w : World} {B g C : Nat} {tl : List Value} {l : List Crd} {N s m e : Nat} (hN : l.length = N) (hNm : N ≤ 1000000000) (h1 : s < m) (h2 : m < e) (h3 : e ≤ N) (h : Rw w0 w B g tl l) (cv : Value) :
    Calls Try.prog 67 #[.slice (some ⟨g, 0, none⟩) N C, .int .i64 (s : Int), .int .i64 (m : Int), .int .i64 (e : Int), cv] w fun er w' => er = .returned (.tuple #[]) ∧ Rw w0 w' B g tl (rot l s m e) := by
  obtain ⟨g1, g2, g3⟩ := rot_lens (l := l) (Nat.le_of_lt h1) (Nat.le_of_lt h2) (by omega)
  have ec := rot_cut (l := l) (Nat.le_of_lt h1) (Nat.le_of_lt h2)
  refine rotate_any (l.take s) ((l.take m).drop s) ((l.take e).drop m) (l.drop e) N s m e (by rw [← ec]; exact hN) hNm g1 (by omega) (by omega) (by omega) (by omega) (by rw [← ec]; exact h) cv

set_option maxHeartbeats 64000000 in
theorem sym_gen {w0 w : World} {B g C : Nat} {tl : List Value} (l : List Crd) (N a m b : Nat) (hN : l.length = N) (hNm : N ≤ 1000000000) (ham : a + 1 < m) (hmb : m + 1 < b) (hbN : b ≤ N) (h : Rw w0 w B g tl l) (hs1 : Srt a m l) (hs2 : Srt m b l)
    (ih : ∀ (W : World) (l' : List Crd) (a' m' b' : Nat), a' < m' → m' < b' → b' - a' < b - a → b' ≤ N → l'.length = N → Rw w0 W B g tl l' → Srt a' m' l' → Srt m' b' l' → Merges w0 B g C N tl W l' a' m' b') : Merges w0 B g C N tl w l a m b := by
  have HIH := hid ih
  have HN := hid hN
  have HR := hid h
  have HS1 := hid hs1
  have HS2 := hid hs2
  have e1 : ¬ (m : Int) - (a : Int) = 1 := by omega
  have e1b : ((m : Int) - (a : Int) == 1) = false := beq_eq_false_iff_ne.2 e1
  have e2 : ¬ (b : Int) - (m : Int) = 1 := by omega
  have e2b : ((b : Int) - (m : Int) == 1) = false := beq_eq_false_iff_ne.2 e2
  have g1 : (0 : Int) ≤ (m : Int) - (a : Int) := by omega
  have g2 : (0 : Int) ≤ (b : Int) - (m : Int) := by omega
  obtain ⟨d, hd⟩ : ∃ d, (a + b) / 2 = d := ⟨_, rfl⟩
  have hd' : ((a : Int) + (b : Int)) / 2 = (d : Int) := by omega
  obtain ⟨n, hn⟩ : ∃ n, d + m = n := ⟨_, rfl⟩
  have hn' : (d : Int) + (m : Int) = (n : Int) := by omega
  obtain ⟨p, hp⟩ : ∃ p, p + 1 = n := ⟨n - 1, by omega⟩
  have hp' : (n : Int) - 1 = (p : Int) := by omega
  have had : a < d := by omega
  have hdb : d < b := by omega
  have hd2 : a + b ≤ 2 * d + 1 := by omega
  have hd3 : 2 * d ≤ a + b := by omega
  have hai : (a : Int) ≤ 1000000000 := by omega
  have hbi : (b : Int) ≤ 1000000000 := by omega
  have hni : (n : Int) ≤ 2000000000 := by omega
  unfold Merges
  clear ih hN h hs1 hs2
  by_cases hmid : d < m
  · have hmid' : (d : Int) < (m : Int) := by omega
    obtain ⟨s0, hs0⟩ : ∃ s0, s0 + b = n := ⟨n - b, by omega⟩
    have hs0' : (n : Int) - (b : Int) = (s0 : Int) := by omega
    have hs0a : a ≤ s0 := by omega
    have hs0d : s0 ≤ d := by omega
    have HS0 := hid hs0
    have HD := hid hd
    have HNN := hid hn
    have HP := hid hp
    clear hs0 hd hn hp
    go_enter Try.func66, Try.ntmps66
    go_wp2
    go_loopw [20, 21] (fun vi vj wr => ∃ (s r : Nat), vi = .int .i64 s ∧ vj = .int .i64 r ∧ s0 ≤ s ∧ s ≤ r ∧ r ≤ d ∧ Rw w0 wr B g tl l ∧ Hid (s = s0 ∨ ∃ u v, l[s - 1]? = some u ∧ l[n - s]? = some v ∧ bef v u = false) ∧ Hid (r = d ∨ ∃ u v, l[r]? = some u ∧ l[p - r]? = some v ∧ bef v u = true)) (fun vi vj _ => (intOf vj).toNat - (intOf vi).toNat)
    case atStart => exact ⟨s0, d, by first | rfl | rw [hs0'] | simp [hs0'], rfl, Nat.le_refl _, by omega, Nat.le_refl _, HR.out, hid (.inl rfl), hid (.inl rfl)⟩
    case round =>
      obtain ⟨s, r, rfl, rfl, hs, hsr, hr, R, HI, HJ⟩ := hrel
      by_cases hlt : s < r
      · have hlt' : (s : Int) < (r : Int) := by omega
        have hb1 : (r : Int) ≤ 1000000000 := by omega
        have hb2 : (s : Int) ≤ 1000000000 := by omega
        obtain ⟨q, hq⟩ : ∃ q, (s + r) / 2 = q := ⟨_, rfl⟩
        have hq' : ((s : Int) + (r : Int)) / 2 = (q : Int) := by omega
        have hqi : s ≤ q := by omega
        have hqj : q < r := by omega
        obtain ⟨k, hk⟩ : ∃ k, k + q = p := ⟨p - q, by have := HNN.out; have := HP.out; omega⟩
        have hk' : (p : Int) - (q : Int) = (k : Int) := by omega
        have hqN : (q : Int) < (N : Int) := by have := HNN.out; have := HP.out; omega
        have hkN : (k : Int) < (N : Int) := by have := HNN.out; have := HP.out; have := HS0.out; omega
        have wq := wrap_in (q : Int) (by omega)
        have wk := wrap_in (k : Int) (by omega)
        have aq := addr_row g (q * 9)
        have ak := addr_row g (k * 9)
        obtain ⟨u, hu⟩ : ∃ y, l[q]? = some y := ⟨_, List.getElem?_eq_getElem (by rw [HN.out]; omega)⟩
        obtain ⟨v, hv⟩ : ∃ y, l[k]? = some y := ⟨_, List.getElem?_eq_getElem (by rw [HN.out]; omega)⟩
        obtain ⟨c, hc⟩ : ∃ c, cmpI v u = c := ⟨_, rfl⟩
        obtain ⟨bb, hbb⟩ : ∃ b, bef v u = b := ⟨_, rfl⟩
        have hcb : decide (c < 0) = bb := by rw [← hc, cmpI_neg, hbb]
        have HCMP : Hid (∀ W, Calls Try.prog 56 #[.agg v.cells.toArray, .agg u.cells.toArray] W fun e w' => e = .returned (.int .i64 c) ∧ Below W.heap.size W w') := hid (fun W => hc ▸ cmpC_any v u W)
        have HB := hid hbb
        have HU := hid hu
        have HV := hid hv
        have HK := hid hk
        have HR1 := hid R.drew
        clear hc hbb hu hv hq R hk
        go_wp2_with fail
        refine wp_region_held_drew (S := (fun W => W.rangeAt g (k * 9) v.cells ∧ W.rangeAt g (q * 9) u.cells)) (by kernel_rfl) (⟨HR1.out.row.range HV.out, HR1.out.row.range HU.out⟩) (fun hHeld => ?_)
        refine wpAnyH_take (i := 0) (oi := ({ dst := some 158, op := Op.move (Operand.tmp 4), type := 84, pos := "zsortanyfunc.go:441", after := #[], guard := none } : Oper)) (v := (.func (.func 56) #[] #[])) rfl (by kernel_rfl) (by kernel_rfl) (by kernel_rfl) (fun _ _ _ h => h) (Or.inl ⟨by rfl, by intro w _; go_simp⟩) hHeld ?_
        simp only [Act.put, List.setIfInBounds_toArray, List.set_cons_zero, List.set_cons_succ]
        refine wpAnyH_take (i := 1) (oi := ({ dst := some 159, op := Op.move (Operand.tmp 0), type := 34, pos := "zsortanyfunc.go:441", after := #[], guard := none } : Oper)) (v := (.slice (some ⟨g, 0, none⟩) N C)) rfl (by kernel_rfl) (by kernel_rfl) (by kernel_rfl) (fun _ _ _ h => h) (Or.inl ⟨by rfl, by intro w _; go_simp⟩) hHeld ?_
        simp only [Act.put, List.setIfInBounds_toArray, List.set_cons_zero, List.set_cons_succ]
        refine wpAnyH_take (i := 2) (oi := ({ dst := some 160, op := Op.move (Operand.tmp 22), type := 3, pos := "zsortanyfunc.go:441", after := #[], guard := none } : Oper)) (v := (.int .i64 (p : Int))) rfl (by kernel_rfl) (by kernel_rfl) (by kernel_rfl) (fun _ _ _ h => h) (Or.inl ⟨by rfl, by intro w _; go_simp⟩) hHeld ?_
        simp only [Act.put, List.setIfInBounds_toArray, List.set_cons_zero, List.set_cons_succ]
        refine wpAnyH_take (i := 3) (oi := ({ dst := some 161, op := Op.move (Operand.tmp 23), type := 3, pos := "zsortanyfunc.go:441", after := #[], guard := none } : Oper)) (v := (.int .i64 (q : Int))) rfl (by kernel_rfl) (by kernel_rfl) (by kernel_rfl) (fun _ _ _ h => h) (Or.inl ⟨by rfl, by intro w _; go_simp⟩) hHeld ?_
        simp only [Act.put, List.setIfInBounds_toArray, List.set_cons_zero, List.set_cons_succ]
        refine wpAnyH_take (i := 4) (oi := ({ dst := some 162, op := Op.binOp BinOp.sub 3 (Operand.tmp 160) (Operand.tmp 161) 3, type := 3, pos := "zsortanyfunc.go:441", after := #[{ on := 2, ground := Ground.data }, { on := 3, ground := Ground.data }], guard := none } : Oper)) (v := (.int .i64 (k : Int))) rfl (by kernel_rfl) (by kernel_rfl) (by kernel_rfl) (fun _ _ _ h => h) (Or.inl ⟨by rfl, by intro w _; go_simp⟩) hHeld ?_
        simp only [Act.put, List.setIfInBounds_toArray, List.set_cons_zero, List.set_cons_succ]
        refine wpAnyH_take (i := 5) (oi := ({ dst := some 163, op := Op.indexAddr 34 (Operand.tmp 159) (Operand.tmp 162), type := 0, pos := "zsortanyfunc.go:441", after := #[{ on := 1, ground := Ground.data }, { on := 4, ground := Ground.data }], guard := none } : Oper)) (v := (.pointer (some ⟨g, k * 9, none⟩))) rfl (by kernel_rfl) (by kernel_rfl) (by kernel_rfl) (fun _ _ _ h => h) (Or.inl ⟨by rfl, by intro w _; go_simp⟩) hHeld ?_
        simp only [Act.put, List.setIfInBounds_toArray, List.set_cons_zero, List.set_cons_succ]
        refine wpAnyH_take (i := 6) (oi := ({ dst := some 164, op := Op.load 53 (Operand.tmp 163), type := 53, pos := "zsortanyfunc.go:441", after := #[{ on := 5, ground := Ground.data }], guard := none } : Oper)) (v := .agg v.cells.toArray) rfl (by kernel_rfl) (by kernel_rfl) (by kernel_rfl) (fun _ _ _ h => h) (yieldsIf_load_mid (by rfl) 53 (.tmp 163) rfl g (k * 9) rfl v.cells _ (fun _ h => h.1) Try.underlying53 rfl (info_credL _)) hHeld ?_
        simp only [Act.put, List.setIfInBounds_toArray, List.set_cons_zero, List.set_cons_succ]
        refine wpAnyH_take (i := 7) (oi := ({ dst := some 165, op := Op.move (Operand.tmp 0), type := 34, pos := "zsortanyfunc.go:441", after := #[], guard := none } : Oper)) (v := (.slice (some ⟨g, 0, none⟩) N C)) rfl (by kernel_rfl) (by kernel_rfl) (by kernel_rfl) (fun _ _ _ h => h) (Or.inl ⟨by rfl, by intro w _; go_simp⟩) hHeld ?_
        simp only [Act.put, List.setIfInBounds_toArray, List.set_cons_zero, List.set_cons_succ]
        refine wpAnyH_take (i := 8) (oi := ({ dst := some 166, op := Op.move (Operand.tmp 23), type := 3, pos := "zsortanyfunc.go:441", after := #[], guard := none } : Oper)) (v := (.int .i64 (q : Int))) rfl (by kernel_rfl) (by kernel_rfl) (by kernel_rfl) (fun _ _ _ h => h) (Or.inl ⟨by rfl, by intro w _; go_simp⟩) hHeld ?_
        simp only [Act.put, List.setIfInBounds_toArray, List.set_cons_zero, List.set_cons_succ]
        refine wpAnyH_take (i := 9) (oi := ({ dst := some 167, op := Op.indexAddr 34 (Operand.tmp 165) (Operand.tmp 166), type := 0, pos := "zsortanyfunc.go:441", after := #[{ on := 7, ground := Ground.data }, { on := 8, ground := Ground.data }], guard := none } : Oper)) (v := (.pointer (some ⟨g, q * 9, none⟩))) rfl (by kernel_rfl) (by kernel_rfl) (by kernel_rfl) (fun _ _ _ h => h) (Or.inl ⟨by rfl, by intro w _; go_simp⟩) hHeld ?_
        simp only [Act.put, List.setIfInBounds_toArray, List.set_cons_zero, List.set_cons_succ]
        refine wpAnyH_take (i := 10) (oi := ({ dst := some 168, op := Op.load 53 (Operand.tmp 167), type := 53, pos := "zsortanyfunc.go:441", after := #[{ on := 9, ground := Ground.data }], guard := none } : Oper)) (v := .agg u.cells.toArray) rfl (by kernel_rfl) (by kernel_rfl) (by kernel_rfl) (fun _ _ _ h => h) (yieldsIf_load_mid (by rfl) 53 (.tmp 167) rfl g (q * 9) rfl u.cells _ (fun _ h => h.2) Try.underlying53 rfl (info_credL _)) hHeld ?_
        simp only [Act.put, List.setIfInBounds_toArray, List.set_cons_zero, List.set_cons_succ]
        refine wpAnyH_ready (rs := [11]) (by kernel_rfl) (by simp) ?_
        refine AllReadyH.cons (o := ({ dst := some 169, op := Op.call { callee := Callee.value (Operand.tmp 158), args := #[Operand.tmp 164, Operand.tmp 168], argTypes := #[53, 53] }, type := 3, pos := "zsortanyfunc.go:441", after := #[{ on := 0, ground := Ground.data }, { on := 6, ground := Ground.data }, { on := 10, ground := Ground.data }], guard := none } : Oper)) rfl (fun K hK => ?_) AllReadyH.nil
        rw [if_pos (by rfl)]
        go_simp
        refine (HCMP.out _).mono ?_
        rintro er w2 ⟨rfl, bl⟩
        have HR2 := hid (HR1.out.kept bl)
        clear bl
        refine hK.out _ _ (⟨HR2.out.row.range HV.out, HR2.out.row.range HU.out⟩) (fun hHeld2 => ?_)
        clear hK K hHeld
        try simp only [Act.put, List.setIfInBounds_toArray, List.set_cons_zero, List.set_cons_succ]
        refine wpAnyH_take (i := 12) (oi := ({ dst := some 170, op := Op.binOp BinOp.lss 3 (Operand.tmp 169) (Operand.const (Value.int IntKind.i64 0)) 3, type := 4, pos := "zsortanyfunc.go:441", after := #[{ on := 11, ground := Ground.data }], guard := none } : Oper)) (v := (.bool bb)) rfl (by kernel_rfl) (by kernel_rfl) (by kernel_rfl) (fun _ _ _ h => h) (Or.inl ⟨by rfl, by intro w _; go_simp⟩) hHeld2 ?_
        simp only [Act.put, List.setIfInBounds_toArray, List.set_cons_zero, List.set_cons_succ]
        refine wpAnyH_take (i := 13) (oi := ({ dst := some 171, op := Op.unOp UnOp.not 4 (Operand.tmp 170), type := 4, pos := "zsortanyfunc.go:441", after := #[{ on := 12, ground := Ground.data }], guard := none } : Oper)) (v := (.bool (!bb))) rfl (by kernel_rfl) (by kernel_rfl) (by kernel_rfl) (fun _ _ _ h => h) (Or.inl ⟨by rfl, by intro w _; go_simp⟩) hHeld2 ?_
        simp only [Act.put, List.setIfInBounds_toArray, List.set_cons_zero, List.set_cons_succ]
        refine wpAnyH_done (by kernel_rfl) ?_ _
        clear hHeld2
        cases bb with
        | false =>
          have HI2 : Hid (q + 1 = s0 ∨ ∃ u v, l[q + 1 - 1]? = some u ∧ l[n - (q + 1)]? = some v ∧ bef v u = false) := hid (.inr ⟨u, v, HU.out, by rw [show n - (q + 1) = k by have := HP.out; have := HK.out; omega]; exact HV.out, HB.out⟩)
          go_wp2
          go_roundw
          case rel => exact ⟨q + 1, r, by go_num, rfl, by omega, by omega, hr, HR2.out, HI2, HJ⟩
          case measure => simp [intOf]; omega
        | true =>
          have HJ2 : Hid (q = d ∨ ∃ u v, l[q]? = some u ∧ l[p - q]? = some v ∧ bef v u = true) := hid (.inr ⟨u, v, HU.out, by rw [show p - q = k by have := HK.out; omega]; exact HV.out, HB.out⟩)
          go_wp2
          go_roundw
          case rel => exact ⟨s, q, rfl, rfl, hs, hqi, by omega, HR2.out, HI, HJ2⟩
          case measure => simp [intOf]; omega
      · obtain rfl : s = r := by omega
        obtain ⟨e, he⟩ : ∃ e, e + s = n := ⟨n - s, by have := HNN.out; omega⟩
        have he' : (n : Int) - (s : Int) = (e : Int) := by omega
        have kas : a ≤ s := by omega
        have ksm : s ≤ m := by omega
        have ksd : s ≤ d := by omega
        have kme : m ≤ e := by have := HNN.out; omega
        have keb : e ≤ b := by have := HNN.out; have := HS0.out; omega
        have kd : s + (e - m) = d := by have := HNN.out; omega
        have hF : Found l a m b s e := ⟨by
          rcases HI.out with h | ⟨u, v, hu, hv, hb⟩
          · exact .inr (.inl (by have := HS0.out; omega))
          · rw [show n - s = e by omega] at hv
            exact .inr (.inr ⟨u, v, hu, hv, hb⟩), by
          rcases HJ.out with h | ⟨u, v, hu, hv, hb⟩
          · exact .inr (.inl (by have := HNN.out; omega))
          · rw [show p - s = e - 1 by have := HP.out; omega] at hv
            exact .inr (.inr ⟨u, v, hu, hv, hb⟩)⟩
        have HM1 := hid (rot_mix hF HS1.out HS2.out kas ksm kme keb (by rw [HN.out]; exact hbN))
        have HC1 := hid (rot_cross hF HS1.out HS2.out kas ksm kme keb (by rw [HN.out]; exact hbN) kd)
        obtain ⟨q1, q2, q3, q4⟩ := rot_srt HS1.out HS2.out kas ksm kme keb (by rw [HN.out]; exact hbN) kd
        have HQ1 := hid q1
        have HQ2 := hid q2
        have HQ3 := hid q3
        have HQ4 := hid q4
        have hl1 : (rot l s m e).length = N := by rw [HM1.out.len, HN.out]
        have HL1 := hid hl1
        have HRR := hid R
        have HE := hid he
        have HKD := hid kd
        clear q1 q2 q3 q4 hl1 R hF HI HJ hlt hsr he kd
        by_cases hsm : s < m
        · have hde : d < e := by have := HKD.out; omega
          have hsm1 : (s : Int) < (m : Int) := by omega
          have hde1 : (d : Int) < (e : Int) := by omega
          by_cases hsd : s < d
          · have hme : m < e := by have := HKD.out; omega
            have hsd1 : (s : Int) < (d : Int) := by omega
            have hme1 : (m : Int) < (e : Int) := by omega
            by_cases has : a < s
            · have has1 : (a : Int) < (s : Int) := by omega
              by_cases heb : e < b
              · have heb1 : (e : Int) < (b : Int) := by omega
                go_wp2_with fail
                refine (rot_call HN.out hNm hsm hme (by omega) HRR.out _).mono ?_
                rintro er w1 ⟨rfl, R1⟩
                have HR1 := hid R1
                clear R1
                go_wp2_with fail
                refine (HIH.out _ _ a s d has hsd (by omega) (by omega) HL1.out HR1.out HQ1.out HQ2.out).mono ?_
                rintro er w2 ⟨rfl, l2, R2, m2, s2⟩
                have HR2 := hid R2
                have HM2 := hid m2
                have HSS2 := hid s2
                clear R2 m2 s2
                have HL2 : Hid (l2.length = N) := hid (by rw [HM2.out.len]; exact HL1.out)
                go_wp2_with fail
                refine (HIH.out _ _ d e b hde heb (by omega) hbN HL2.out HR2.out (HQ3.out.out HM2.out (.inr (Nat.le_refl _))) (HQ4.out.out HM2.out (.inr (by omega)))).mono ?_
                rintro er w3 ⟨rfl, l3, R3, m3, s3⟩
                have HM3 := hid m3
                have HSS3 := hid s3
                have HR3 := hid R3
                clear m3 s3 R3
                go_wp2
                go_end0
                exact ⟨rfl, _, HR3.out, merge_end HM1.out HC1.out HM2.out HSS2.out HM3.out HSS3.out (Nat.le_of_lt had) (Nat.le_of_lt hdb)⟩
              · have heb1 : ¬ (e : Int) < (b : Int) := by omega
                go_wp2_with fail
                refine (rot_call HN.out hNm hsm hme (by omega) HRR.out _).mono ?_
                rintro er w1 ⟨rfl, R1⟩
                have HR1 := hid R1
                clear R1
                go_wp2_with fail
                refine (HIH.out _ _ a s d has hsd (by omega) (by omega) HL1.out HR1.out HQ1.out HQ2.out).mono ?_
                rintro er w2 ⟨rfl, l2, R2, m2, s2⟩
                have HR2 := hid R2
                have HM2 := hid m2
                have HSS2 := hid s2
                clear R2 m2 s2
                have R3 := HR2.out
                have m3 : Mix d b l2 l2 := Mix.refl _ _ _
                have s3 : Srt d b l2 := by
                  have h := HQ3.out.out HM2.out (.inr (Nat.le_refl _))
                  intro i j x y g1 g2 g3
                  exact h i j x y g1 g2 (by omega)
                have HM3 := hid m3
                have HSS3 := hid s3
                have HR3 := hid R3
                clear m3 s3 R3
                go_wp2
                go_end0
                exact ⟨rfl, _, HR3.out, merge_end HM1.out HC1.out HM2.out HSS2.out HM3.out HSS3.out (Nat.le_of_lt had) (Nat.le_of_lt hdb)⟩
            · have has1 : ¬ (a : Int) < (s : Int) := by omega
              by_cases heb : e < b
              · have heb1 : (e : Int) < (b : Int) := by omega
                go_wp2_with fail
                refine (rot_call HN.out hNm hsm hme (by omega) HRR.out _).mono ?_
                rintro er w1 ⟨rfl, R1⟩
                have HR1 := hid R1
                clear R1
                have HR2 := HR1
                have HM2 : Hid (Mix a d (rot l s m e) (rot l s m e)) := hid (Mix.refl _ _ _)
                have HSS2 : Hid (Srt a d (rot l s m e)) := hid (by
                  have h := HQ2.out
                  have ea : a = s := by omega
                  intro i j x y g1 g2 g3
                  exact h i j x y (by omega) g2 g3)
                have HL2 : Hid ((rot l s m e).length = N) := hid (by rw [HM2.out.len]; exact HL1.out)
                go_wp2_with fail
                refine (HIH.out _ _ d e b hde heb (by omega) hbN HL2.out HR2.out (HQ3.out.out HM2.out (.inr (Nat.le_refl _))) (HQ4.out.out HM2.out (.inr (by omega)))).mono ?_
                rintro er w3 ⟨rfl, l3, R3, m3, s3⟩
                have HM3 := hid m3
                have HSS3 := hid s3
                have HR3 := hid R3
                clear m3 s3 R3
                go_wp2
                go_end0
                exact ⟨rfl, _, HR3.out, merge_end HM1.out HC1.out HM2.out HSS2.out HM3.out HSS3.out (Nat.le_of_lt had) (Nat.le_of_lt hdb)⟩
              · have heb1 : ¬ (e : Int) < (b : Int) := by omega
                go_wp2_with fail
                refine (rot_call HN.out hNm hsm hme (by omega) HRR.out _).mono ?_
                rintro er w1 ⟨rfl, R1⟩
                have HR1 := hid R1
                clear R1
                have HR2 := HR1
                have HM2 : Hid (Mix a d (rot l s m e) (rot l s m e)) := hid (Mix.refl _ _ _)
                have HSS2 : Hid (Srt a d (rot l s m e)) := hid (by
                  have h := HQ2.out
                  have ea : a = s := by omega
                  intro i j x y g1 g2 g3
                  exact h i j x y (by omega) g2 g3)
                have R3 := HR2.out
                have m3 : Mix d b (rot l s m e) (rot l s m e) := Mix.refl _ _ _
                have s3 : Srt d b (rot l s m e) := by
                  have h := HQ3.out.out HM2.out (.inr (Nat.le_refl _))
                  intro i j x y g1 g2 g3
                  exact h i j x y g1 g2 (by omega)
                have HM3 := hid m3
                have HSS3 := hid s3
                have HR3 := hid R3
                clear m3 s3 R3
                go_wp2
                go_end0
                exact ⟨rfl, _, HR3.out, merge_end HM1.out HC1.out HM2.out HSS2.out HM3.out HSS3.out (Nat.le_of_lt had) (Nat.le_of_lt hdb)⟩
          · have hmeN : ¬ m < e := by have := HKD.out; omega
            have hsd1 : ¬ (s : Int) < (d : Int) := by omega
            have hme1 : ¬ (m : Int) < (e : Int) := by omega
            by_cases has : a < s
            · have has1 : (a : Int) < (s : Int) := by omega
              by_cases heb : e < b
              · have heb1 : (e : Int) < (b : Int) := by omega
                have HR1 : Hid (Rw w0 wr B g tl (rot l s m e)) := hid (by rw [rot_none ksm kme (by omega)]; exact HRR.out)
                have HR2 := HR1
                have HM2 : Hid (Mix a d (rot l s m e) (rot l s m e)) := hid (Mix.refl _ _ _)
                have HSS2 : Hid (Srt a d (rot l s m e)) := hid (by
                  have h := HQ1.out
                  have ed : d = s := by omega
                  rw [ed]
                  exact h)
                have HL2 : Hid ((rot l s m e).length = N) := hid (by rw [HM2.out.len]; exact HL1.out)
                go_wp2_with fail
                refine (HIH.out _ _ d e b hde heb (by omega) hbN HL2.out HR2.out (HQ3.out.out HM2.out (.inr (Nat.le_refl _))) (HQ4.out.out HM2.out (.inr (by omega)))).mono ?_
                rintro er w3 ⟨rfl, l3, R3, m3, s3⟩
                have HM3 := hid m3
                have HSS3 := hid s3
                have HR3 := hid R3
                clear m3 s3 R3
                go_wp2
                go_end0
                exact ⟨rfl, _, HR3.out, merge_end HM1.out HC1.out HM2.out HSS2.out HM3.out HSS3.out (Nat.le_of_lt had) (Nat.le_of_lt hdb)⟩
              · have heb1 : ¬ (e : Int) < (b : Int) := by omega
                have HR1 : Hid (Rw w0 wr B g tl (rot l s m e)) := hid (by rw [rot_none ksm kme (by omega)]; exact HRR.out)
                have HR2 := HR1
                have HM2 : Hid (Mix a d (rot l s m e) (rot l s m e)) := hid (Mix.refl _ _ _)
                have HSS2 : Hid (Srt a d (rot l s m e)) := hid (by
                  have h := HQ1.out
                  have ed : d = s := by omega
                  rw [ed]
                  exact h)
                have R3 := HR2.out
                have m3 : Mix d b (rot l s m e) (rot l s m e) := Mix.refl _ _ _
                have s3 : Srt d b (rot l s m e) := by
                  have h := HQ3.out.out HM2.out (.inr (Nat.le_refl _))
                  intro i j x y g1 g2 g3
                  exact h i j x y g1 g2 (by omega)
                have HM3 := hid m3
                have HSS3 := hid s3
                have HR3 := hid R3
                clear m3 s3 R3
                go_wp2
                go_end0
                exact ⟨rfl, _, HR3.out, merge_end HM1.out HC1.out HM2.out HSS2.out HM3.out HSS3.out (Nat.le_of_lt had) (Nat.le_of_lt hdb)⟩
            · have has1 : ¬ (a : Int) < (s : Int) := by omega
              by_cases heb : e < b
              · have heb1 : (e : Int) < (b : Int) := by omega
                have HR1 : Hid (Rw w0 wr B g tl (rot l s m e)) := hid (by rw [rot_none ksm kme (by omega)]; exact HRR.out)
                have HR2 := HR1
                have HM2 : Hid (Mix a d (rot l s m e) (rot l s m e)) := hid (Mix.refl _ _ _)
                have HSS2 : Hid (Srt a d (rot l s m e)) := hid (by
                  have h := HQ2.out
                  have ea : a = s := by omega
                  intro i j x y g1 g2 g3
                  exact h i j x y (by omega) g2 g3)
                have HL2 : Hid ((rot l s m e).length = N) := hid (by rw [HM2.out.len]; exact HL1.out)
                go_wp2_with fail
                refine (HIH.out _ _ d e b hde heb (by omega) hbN HL2.out HR2.out (HQ3.out.out HM2.out (.inr (Nat.le_refl _))) (HQ4.out.out HM2.out (.inr (by omega)))).mono ?_
                rintro er w3 ⟨rfl, l3, R3, m3, s3⟩
                have HM3 := hid m3
                have HSS3 := hid s3
                have HR3 := hid R3
                clear m3 s3 R3
                go_wp2
                go_end0
                exact ⟨rfl, _, HR3.out, merge_end HM1.out HC1.out HM2.out HSS2.out HM3.out HSS3.out (Nat.le_of_lt had) (Nat.le_of_lt hdb)⟩
              · have heb1 : ¬ (e : Int) < (b : Int) := by omega
                have HR1 : Hid (Rw w0 wr B g tl (rot l s m e)) := hid (by rw [rot_none ksm kme (by omega)]; exact HRR.out)
                have HR2 := HR1
                have HM2 : Hid (Mix a d (rot l s m e) (rot l s m e)) := hid (Mix.refl _ _ _)
                have HSS2 : Hid (Srt a d (rot l s m e)) := hid (by
                  have h := HQ2.out
                  have ea : a = s := by omega
                  intro i j x y g1 g2 g3
                  exact h i j x y (by omega) g2 g3)
                have R3 := HR2.out
                have m3 : Mix d b (rot l s m e) (rot l s m e) := Mix.refl _ _ _
                have s3 : Srt d b (rot l s m e) := by
                  have h := HQ3.out.out HM2.out (.inr (Nat.le_refl _))
                  intro i j x y g1 g2 g3
                  exact h i j x y g1 g2 (by omega)
                have HM3 := hid m3
                have HSS3 := hid s3
                have HR3 := hid R3
                clear m3 s3 R3
                go_wp2
                go_end0
                exact ⟨rfl, _, HR3.out, merge_end HM1.out HC1.out HM2.out HSS2.out HM3.out HSS3.out (Nat.le_of_lt had) (Nat.le_of_lt hdb)⟩
        · have hdeN : ¬ d < e := by have := HKD.out; omega
          have hsm1 : ¬ (s : Int) < (m : Int) := by omega
          have hde1 : ¬ (d : Int) < (e : Int) := by omega
          by_cases hsd : s < d
          · have hme : m < e := by have := HKD.out; omega
            have hsd1 : (s : Int) < (d : Int) := by omega
            have hme1 : (m : Int) < (e : Int) := by omega
            by_cases has : a < s
            · have has1 : (a : Int) < (s : Int) := by omega
              have HR1 : Hid (Rw w0 wr B g tl (rot l s m e)) := hid (by rw [rot_none ksm kme (by omega)]; exact HRR.out)
              go_wp2_with fail
              refine (HIH.out _ _ a s d has hsd (by omega) (by omega) HL1.out HR1.out HQ1.out HQ2.out).mono ?_
              rintro er w2 ⟨rfl, l2, R2, m2, s2⟩
              have HR2 := hid R2
              have HM2 := hid m2
              have HSS2 := hid s2
              clear R2 m2 s2
              have R3 := HR2.out
              have m3 : Mix d b l2 l2 := Mix.refl _ _ _
              have s3 : Srt d b l2 := by
                have h := HQ4.out.out HM2.out (.inr (by omega))
                intro i j x y g1 g2 g3
                exact h i j x y (by omega) g2 g3
              have HM3 := hid m3
              have HSS3 := hid s3
              have HR3 := hid R3
              clear m3 s3 R3
              go_wp2
              go_end0
              exact ⟨rfl, _, HR3.out, merge_end HM1.out HC1.out HM2.out HSS2.out HM3.out HSS3.out (Nat.le_of_lt had) (Nat.le_of_lt hdb)⟩
            · have has1 : ¬ (a : Int) < (s : Int) := by omega
              have HR1 : Hid (Rw w0 wr B g tl (rot l s m e)) := hid (by rw [rot_none ksm kme (by omega)]; exact HRR.out)
              have HR2 := HR1
              have HM2 : Hid (Mix a d (rot l s m e) (rot l s m e)) := hid (Mix.refl _ _ _)
              have HSS2 : Hid (Srt a d (rot l s m e)) := hid (by
                have h := HQ2.out
                have ea : a = s := by omega
                intro i j x y g1 g2 g3
                exact h i j x y (by omega) g2 g3)
              have R3 := HR2.out
              have m3 : Mix d b (rot l s m e) (rot l s m e) := Mix.refl _ _ _
              have s3 : Srt d b (rot l s m e) := by
                have h := HQ4.out.out HM2.out (.inr (by omega))
                intro i j x y g1 g2 g3
                exact h i j x y (by omega) g2 g3
              have HM3 := hid m3
              have HSS3 := hid s3
              have HR3 := hid R3
              clear m3 s3 R3
              go_wp2
              go_end0
              exact ⟨rfl, _, HR3.out, merge_end HM1.out HC1.out HM2.out HSS2.out HM3.out HSS3.out (Nat.le_of_lt had) (Nat.le_of_lt hdb)⟩
          · have hmeN : ¬ m < e := by have := HKD.out; omega
            have hsd1 : ¬ (s : Int) < (d : Int) := by omega
            have hme1 : ¬ (m : Int) < (e : Int) := by omega
            by_cases has : a < s
            · have has1 : (a : Int) < (s : Int) := by omega
              have HR1 : Hid (Rw w0 wr B g tl (rot l s m e)) := hid (by rw [rot_none ksm kme (by omega)]; exact HRR.out)
              have HR2 := HR1
              have HM2 : Hid (Mix a d (rot l s m e) (rot l s m e)) := hid (Mix.refl _ _ _)
              have HSS2 : Hid (Srt a d (rot l s m e)) := hid (by
                have h := HQ1.out
                have ed : d = s := by omega
                rw [ed]
                exact h)
              have R3 := HR2.out
              have m3 : Mix d b (rot l s m e) (rot l s m e) := Mix.refl _ _ _
              have s3 : Srt d b (rot l s m e) := by
                have h := HQ4.out.out HM2.out (.inr (by omega))
                intro i j x y g1 g2 g3
                exact h i j x y (by omega) g2 g3
              have HM3 := hid m3
              have HSS3 := hid s3
              have HR3 := hid R3
              clear m3 s3 R3
              go_wp2
              go_end0
              exact ⟨rfl, _, HR3.out, merge_end HM1.out HC1.out HM2.out HSS2.out HM3.out HSS3.out (Nat.le_of_lt had) (Nat.le_of_lt hdb)⟩
            · have has1 : ¬ (a : Int) < (s : Int) := by omega
              have HR1 : Hid (Rw w0 wr B g tl (rot l s m e)) := hid (by rw [rot_none ksm kme (by omega)]; exact HRR.out)
              have HR2 := HR1
              have HM2 : Hid (Mix a d (rot l s m e) (rot l s m e)) := hid (Mix.refl _ _ _)
              have HSS2 : Hid (Srt a d (rot l s m e)) := hid (by
                have h := HQ2.out
                have ea : a = s := by omega
                intro i j x y g1 g2 g3
                exact h i j x y (by omega) g2 g3)
              have R3 := HR2.out
              have m3 : Mix d b (rot l s m e) (rot l s m e) := Mix.refl _ _ _
              have s3 : Srt d b (rot l s m e) := by
                have h := HQ4.out.out HM2.out (.inr (by omega))
                intro i j x y g1 g2 g3
                exact h i j x y (by omega) g2 g3
              have HM3 := hid m3
              have HSS3 := hid s3
              have HR3 := hid R3
              clear m3 s3 R3
              go_wp2
              go_end0
              exact ⟨rfl, _, HR3.out, merge_end HM1.out HC1.out HM2.out HSS2.out HM3.out HSS3.out (Nat.le_of_lt had) (Nat.le_of_lt hdb)⟩
  · have hmid' : ¬ (d : Int) < (m : Int) := by omega
    have HD := hid hd
    have HNN := hid hn
    have HP := hid hp
    clear hd hn hp
    go_enter Try.func66, Try.ntmps66
    go_wp2
    go_loopw [20, 21] (fun vi vj wr => ∃ (s r : Nat), vi = .int .i64 s ∧ vj = .int .i64 r ∧ a ≤ s ∧ s ≤ r ∧ r ≤ m ∧ Rw w0 wr B g tl l ∧ Hid (s = a ∨ ∃ u v, l[s - 1]? = some u ∧ l[n - s]? = some v ∧ bef v u = false) ∧ Hid (r = m ∨ ∃ u v, l[r]? = some u ∧ l[p - r]? = some v ∧ bef v u = true)) (fun vi vj _ => (intOf vj).toNat - (intOf vi).toNat)
    case atStart => exact ⟨a, m, by first | rfl | rw [hs0'] | simp [hs0'], rfl, Nat.le_refl _, by omega, Nat.le_refl _, HR.out, hid (.inl rfl), hid (.inl rfl)⟩
    case round =>
      obtain ⟨s, r, rfl, rfl, hs, hsr, hr, R, HI, HJ⟩ := hrel
      by_cases hlt : s < r
      · have hlt' : (s : Int) < (r : Int) := by omega
        have hb1 : (r : Int) ≤ 1000000000 := by omega
        have hb2 : (s : Int) ≤ 1000000000 := by omega
        obtain ⟨q, hq⟩ : ∃ q, (s + r) / 2 = q := ⟨_, rfl⟩
        have hq' : ((s : Int) + (r : Int)) / 2 = (q : Int) := by omega
        have hqi : s ≤ q := by omega
        have hqj : q < r := by omega
        obtain ⟨k, hk⟩ : ∃ k, k + q = p := ⟨p - q, by have := HNN.out; have := HP.out; omega⟩
        have hk' : (p : Int) - (q : Int) = (k : Int) := by omega
        have hqN : (q : Int) < (N : Int) := by have := HNN.out; have := HP.out; omega
        have hkN : (k : Int) < (N : Int) := by have := HNN.out; have := HP.out; omega
        have wq := wrap_in (q : Int) (by omega)
        have wk := wrap_in (k : Int) (by omega)
        have aq := addr_row g (q * 9)
        have ak := addr_row g (k * 9)
        obtain ⟨u, hu⟩ : ∃ y, l[q]? = some y := ⟨_, List.getElem?_eq_getElem (by rw [HN.out]; omega)⟩
        obtain ⟨v, hv⟩ : ∃ y, l[k]? = some y := ⟨_, List.getElem?_eq_getElem (by rw [HN.out]; omega)⟩
        obtain ⟨c, hc⟩ : ∃ c, cmpI v u = c := ⟨_, rfl⟩
        obtain ⟨bb, hbb⟩ : ∃ b, bef v u = b := ⟨_, rfl⟩
        have hcb : decide (c < 0) = bb := by rw [← hc, cmpI_neg, hbb]
        have HCMP : Hid (∀ W, Calls Try.prog 56 #[.agg v.cells.toArray, .agg u.cells.toArray] W fun e w' => e = .returned (.int .i64 c) ∧ Below W.heap.size W w') := hid (fun W => hc ▸ cmpC_any v u W)
        have HB := hid hbb
        have HU := hid hu
        have HV := hid hv
        have HK := hid hk
        have HR1 := hid R.drew
        clear hc hbb hu hv hq R hk
        go_wp2_with fail
        refine wp_region_held_drew (S := (fun W => W.rangeAt g (k * 9) v.cells ∧ W.rangeAt g (q * 9) u.cells)) (by kernel_rfl) (⟨HR1.out.row.range HV.out, HR1.out.row.range HU.out⟩) (fun hHeld => ?_)
        refine wpAnyH_take (i := 0) (oi := ({ dst := some 158, op := Op.move (Operand.tmp 4), type := 84, pos := "zsortanyfunc.go:441", after := #[], guard := none } : Oper)) (v := (.func (.func 56) #[] #[])) rfl (by kernel_rfl) (by kernel_rfl) (by kernel_rfl) (fun _ _ _ h => h) (Or.inl ⟨by rfl, by intro w _; go_simp⟩) hHeld ?_
        simp only [Act.put, List.setIfInBounds_toArray, List.set_cons_zero, List.set_cons_succ]
        refine wpAnyH_take (i := 1) (oi := ({ dst := some 159, op := Op.move (Operand.tmp 0), type := 34, pos := "zsortanyfunc.go:441", after := #[], guard := none } : Oper)) (v := (.slice (some ⟨g, 0, none⟩) N C)) rfl (by kernel_rfl) (by kernel_rfl) (by kernel_rfl) (fun _ _ _ h => h) (Or.inl ⟨by rfl, by intro w _; go_simp⟩) hHeld ?_
        simp only [Act.put, List.setIfInBounds_toArray, List.set_cons_zero, List.set_cons_succ]
        refine wpAnyH_take (i := 2) (oi := ({ dst := some 160, op := Op.move (Operand.tmp 22), type := 3, pos := "zsortanyfunc.go:441", after := #[], guard := none } : Oper)) (v := (.int .i64 (p : Int))) rfl (by kernel_rfl) (by kernel_rfl) (by kernel_rfl) (fun _ _ _ h => h) (Or.inl ⟨by rfl, by intro w _; go_simp⟩) hHeld ?_
        simp only [Act.put, List.setIfInBounds_toArray, List.set_cons_zero, List.set_cons_succ]
        refine wpAnyH_take (i := 3) (oi := ({ dst := some 161, op := Op.move (Operand.tmp 23), type := 3, pos := "zsortanyfunc.go:441", after := #[], guard := none } : Oper)) (v := (.int .i64 (q : Int))) rfl (by kernel_rfl) (by kernel_rfl) (by kernel_rfl) (fun _ _ _ h => h) (Or.inl ⟨by rfl, by intro w _; go_simp⟩) hHeld ?_
        simp only [Act.put, List.setIfInBounds_toArray, List.set_cons_zero, List.set_cons_succ]
        refine wpAnyH_take (i := 4) (oi := ({ dst := some 162, op := Op.binOp BinOp.sub 3 (Operand.tmp 160) (Operand.tmp 161) 3, type := 3, pos := "zsortanyfunc.go:441", after := #[{ on := 2, ground := Ground.data }, { on := 3, ground := Ground.data }], guard := none } : Oper)) (v := (.int .i64 (k : Int))) rfl (by kernel_rfl) (by kernel_rfl) (by kernel_rfl) (fun _ _ _ h => h) (Or.inl ⟨by rfl, by intro w _; go_simp⟩) hHeld ?_
        simp only [Act.put, List.setIfInBounds_toArray, List.set_cons_zero, List.set_cons_succ]
        refine wpAnyH_take (i := 5) (oi := ({ dst := some 163, op := Op.indexAddr 34 (Operand.tmp 159) (Operand.tmp 162), type := 0, pos := "zsortanyfunc.go:441", after := #[{ on := 1, ground := Ground.data }, { on := 4, ground := Ground.data }], guard := none } : Oper)) (v := (.pointer (some ⟨g, k * 9, none⟩))) rfl (by kernel_rfl) (by kernel_rfl) (by kernel_rfl) (fun _ _ _ h => h) (Or.inl ⟨by rfl, by intro w _; go_simp⟩) hHeld ?_
        simp only [Act.put, List.setIfInBounds_toArray, List.set_cons_zero, List.set_cons_succ]
        refine wpAnyH_take (i := 6) (oi := ({ dst := some 164, op := Op.load 53 (Operand.tmp 163), type := 53, pos := "zsortanyfunc.go:441", after := #[{ on := 5, ground := Ground.data }], guard := none } : Oper)) (v := .agg v.cells.toArray) rfl (by kernel_rfl) (by kernel_rfl) (by kernel_rfl) (fun _ _ _ h => h) (yieldsIf_load_mid (by rfl) 53 (.tmp 163) rfl g (k * 9) rfl v.cells _ (fun _ h => h.1) Try.underlying53 rfl (info_credL _)) hHeld ?_
        simp only [Act.put, List.setIfInBounds_toArray, List.set_cons_zero, List.set_cons_succ]
        refine wpAnyH_take (i := 7) (oi := ({ dst := some 165, op := Op.move (Operand.tmp 0), type := 34, pos := "zsortanyfunc.go:441", after := #[], guard := none } : Oper)) (v := (.slice (some ⟨g, 0, none⟩) N C)) rfl (by kernel_rfl) (by kernel_rfl) (by kernel_rfl) (fun _ _ _ h => h) (Or.inl ⟨by rfl, by intro w _; go_simp⟩) hHeld ?_
        simp only [Act.put, List.setIfInBounds_toArray, List.set_cons_zero, List.set_cons_succ]
        refine wpAnyH_take (i := 8) (oi := ({ dst := some 166, op := Op.move (Operand.tmp 23), type := 3, pos := "zsortanyfunc.go:441", after := #[], guard := none } : Oper)) (v := (.int .i64 (q : Int))) rfl (by kernel_rfl) (by kernel_rfl) (by kernel_rfl) (fun _ _ _ h => h) (Or.inl ⟨by rfl, by intro w _; go_simp⟩) hHeld ?_
        simp only [Act.put, List.setIfInBounds_toArray, List.set_cons_zero, List.set_cons_succ]
        refine wpAnyH_take (i := 9) (oi := ({ dst := some 167, op := Op.indexAddr 34 (Operand.tmp 165) (Operand.tmp 166), type := 0, pos := "zsortanyfunc.go:441", after := #[{ on := 7, ground := Ground.data }, { on := 8, ground := Ground.data }], guard := none } : Oper)) (v := (.pointer (some ⟨g, q * 9, none⟩))) rfl (by kernel_rfl) (by kernel_rfl) (by kernel_rfl) (fun _ _ _ h => h) (Or.inl ⟨by rfl, by intro w _; go_simp⟩) hHeld ?_
        simp only [Act.put, List.setIfInBounds_toArray, List.set_cons_zero, List.set_cons_succ]
        refine wpAnyH_take (i := 10) (oi := ({ dst := some 168, op := Op.load 53 (Operand.tmp 167), type := 53, pos := "zsortanyfunc.go:441", after := #[{ on := 9, ground := Ground.data }], guard := none } : Oper)) (v := .agg u.cells.toArray) rfl (by kernel_rfl) (by kernel_rfl) (by kernel_rfl) (fun _ _ _ h => h) (yieldsIf_load_mid (by rfl) 53 (.tmp 167) rfl g (q * 9) rfl u.cells _ (fun _ h => h.2) Try.underlying53 rfl (info_credL _)) hHeld ?_
        simp only [Act.put, List.setIfInBounds_toArray, List.set_cons_zero, List.set_cons_succ]
        refine wpAnyH_ready (rs := [11]) (by kernel_rfl) (by simp) ?_
        refine AllReadyH.cons (o := ({ dst := some 169, op := Op.call { callee := Callee.value (Operand.tmp 158), args := #[Operand.tmp 164, Operand.tmp 168], argTypes := #[53, 53] }, type := 3, pos := "zsortanyfunc.go:441", after := #[{ on := 0, ground := Ground.data }, { on := 6, ground := Ground.data }, { on := 10, ground := Ground.data }], guard := none } : Oper)) rfl (fun K hK => ?_) AllReadyH.nil
        rw [if_pos (by rfl)]
        go_simp
        refine (HCMP.out _).mono ?_
        rintro er w2 ⟨rfl, bl⟩
        have HR2 := hid (HR1.out.kept bl)
        clear bl
        refine hK.out _ _ (⟨HR2.out.row.range HV.out, HR2.out.row.range HU.out⟩) (fun hHeld2 => ?_)
        clear hK K hHeld
        try simp only [Act.put, List.setIfInBounds_toArray, List.set_cons_zero, List.set_cons_succ]
        refine wpAnyH_take (i := 12) (oi := ({ dst := some 170, op := Op.binOp BinOp.lss 3 (Operand.tmp 169) (Operand.const (Value.int IntKind.i64 0)) 3, type := 4, pos := "zsortanyfunc.go:441", after := #[{ on := 11, ground := Ground.data }], guard := none } : Oper)) (v := (.bool bb)) rfl (by kernel_rfl) (by kernel_rfl) (by kernel_rfl) (fun _ _ _ h => h) (Or.inl ⟨by rfl, by intro w _; go_simp⟩) hHeld2 ?_
        simp only [Act.put, List.setIfInBounds_toArray, List.set_cons_zero, List.set_cons_succ]
        refine wpAnyH_take (i := 13) (oi := ({ dst := some 171, op := Op.unOp UnOp.not 4 (Operand.tmp 170), type := 4, pos := "zsortanyfunc.go:441", after := #[{ on := 12, ground := Ground.data }], guard := none } : Oper)) (v := (.bool (!bb))) rfl (by kernel_rfl) (by kernel_rfl) (by kernel_rfl) (fun _ _ _ h => h) (Or.inl ⟨by rfl, by intro w _; go_simp⟩) hHeld2 ?_
        simp only [Act.put, List.setIfInBounds_toArray, List.set_cons_zero, List.set_cons_succ]
        refine wpAnyH_done (by kernel_rfl) ?_ _
        clear hHeld2
        cases bb with
        | false =>
          have HI2 : Hid (q + 1 = a ∨ ∃ u v, l[q + 1 - 1]? = some u ∧ l[n - (q + 1)]? = some v ∧ bef v u = false) := hid (.inr ⟨u, v, HU.out, by rw [show n - (q + 1) = k by have := HP.out; have := HK.out; omega]; exact HV.out, HB.out⟩)
          go_wp2
          go_roundw
          case rel => exact ⟨q + 1, r, by go_num, rfl, by omega, by omega, hr, HR2.out, HI2, HJ⟩
          case measure => simp [intOf]; omega
        | true =>
          have HJ2 : Hid (q = m ∨ ∃ u v, l[q]? = some u ∧ l[p - q]? = some v ∧ bef v u = true) := hid (.inr ⟨u, v, HU.out, by rw [show p - q = k by have := HK.out; omega]; exact HV.out, HB.out⟩)
          go_wp2
          go_roundw
          case rel => exact ⟨s, q, rfl, rfl, hs, hqi, by omega, HR2.out, HI, HJ2⟩
          case measure => simp [intOf]; omega
      · obtain rfl : s = r := by omega
        obtain ⟨e, he⟩ : ∃ e, e + s = n := ⟨n - s, by have := HNN.out; omega⟩
        have he' : (n : Int) - (s : Int) = (e : Int) := by omega
        have kas : a ≤ s := by omega
        have ksm : s ≤ m := by omega
        have ksd : s ≤ d := by omega
        have kme : m ≤ e := by have := HNN.out; omega
        have keb : e ≤ b := by have := HNN.out; omega
        have kd : s + (e - m) = d := by have := HNN.out; omega
        have hF : Found l a m b s e := ⟨by
          rcases HI.out with h | ⟨u, v, hu, hv, hb⟩
          · exact .inl h
          · rw [show n - s = e by omega] at hv
            exact .inr (.inr ⟨u, v, hu, hv, hb⟩), by
          rcases HJ.out with h | ⟨u, v, hu, hv, hb⟩
          · exact .inl h
          · rw [show p - s = e - 1 by have := HP.out; omega] at hv
            exact .inr (.inr ⟨u, v, hu, hv, hb⟩)⟩
        have HM1 := hid (rot_mix hF HS1.out HS2.out kas ksm kme keb (by rw [HN.out]; exact hbN))
        have HC1 := hid (rot_cross hF HS1.out HS2.out kas ksm kme keb (by rw [HN.out]; exact hbN) kd)
        obtain ⟨q1, q2, q3, q4⟩ := rot_srt HS1.out HS2.out kas ksm kme keb (by rw [HN.out]; exact hbN) kd
        have HQ1 := hid q1
        have HQ2 := hid q2
        have HQ3 := hid q3
        have HQ4 := hid q4
        have hl1 : (rot l s m e).length = N := by rw [HM1.out.len, HN.out]
        have HL1 := hid hl1
        have HRR := hid R
        have HE := hid he
        have HKD := hid kd
        clear q1 q2 q3 q4 hl1 R hF HI HJ hlt hsr he kd
        by_cases hsm : s < m
        · have hde : d < e := by have := HKD.out; omega
          have hsm1 : (s : Int) < (m : Int) := by omega
          have hde1 : (d : Int) < (e : Int) := by omega
          by_cases hsd : s < d
          · have hme : m < e := by have := HKD.out; omega
            have hsd1 : (s : Int) < (d : Int) := by omega
            have hme1 : (m : Int) < (e : Int) := by omega
            by_cases has : a < s
            · have has1 : (a : Int) < (s : Int) := by omega
              by_cases heb : e < b
              · have heb1 : (e : Int) < (b : Int) := by omega
                go_wp2_with fail
                refine (rot_call HN.out hNm hsm hme (by omega) HRR.out _).mono ?_
                rintro er w1 ⟨rfl, R1⟩
                have HR1 := hid R1
                clear R1
                go_wp2_with fail
                refine (HIH.out _ _ a s d has hsd (by omega) (by omega) HL1.out HR1.out HQ1.out HQ2.out).mono ?_
                rintro er w2 ⟨rfl, l2, R2, m2, s2⟩
                have HR2 := hid R2
                have HM2 := hid m2
                have HSS2 := hid s2
                clear R2 m2 s2
                have HL2 : Hid (l2.length = N) := hid (by rw [HM2.out.len]; exact HL1.out)
                go_wp2_with fail
                refine (HIH.out _ _ d e b hde heb (by omega) hbN HL2.out HR2.out (HQ3.out.out HM2.out (.inr (Nat.le_refl _))) (HQ4.out.out HM2.out (.inr (by omega)))).mono ?_
                rintro er w3 ⟨rfl, l3, R3, m3, s3⟩
                have HM3 := hid m3
                have HSS3 := hid s3
                have HR3 := hid R3
                clear m3 s3 R3
                go_wp2
                go_end0
                exact ⟨rfl, _, HR3.out, merge_end HM1.out HC1.out HM2.out HSS2.out HM3.out HSS3.out (Nat.le_of_lt had) (Nat.le_of_lt hdb)⟩
              · have heb1 : ¬ (e : Int) < (b : Int) := by omega
                go_wp2_with fail
                refine (rot_call HN.out hNm hsm hme (by omega) HRR.out _).mono ?_
                rintro er w1 ⟨rfl, R1⟩
                have HR1 := hid R1
                clear R1
                go_wp2_with fail
                refine (HIH.out _ _ a s d has hsd (by omega) (by omega) HL1.out HR1.out HQ1.out HQ2.out).mono ?_
                rintro er w2 ⟨rfl, l2, R2, m2, s2⟩
                have HR2 := hid R2
                have HM2 := hid m2
                have HSS2 := hid s2
                clear R2 m2 s2
                have R3 := HR2.out
                have m3 : Mix d b l2 l2 := Mix.refl _ _ _
                have s3 : Srt d b l2 := by
                  have h := HQ3.out.out HM2.out (.inr (Nat.le_refl _))
                  intro i j x y g1 g2 g3
                  exact h i j x y g1 g2 (by omega)
                have HM3 := hid m3
                have HSS3 := hid s3
                have HR3 := hid R3
                clear m3 s3 R3
                go_wp2
                go_end0
                exact ⟨rfl, _, HR3.out, merge_end HM1.out HC1.out HM2.out HSS2.out HM3.out HSS3.out (Nat.le_of_lt had) (Nat.le_of_lt hdb)⟩
            · have has1 : ¬ (a : Int) < (s : Int) := by omega
              by_cases heb : e < b
              · have heb1 : (e : Int) < (b : Int) := by omega
                go_wp2_with fail
                refine (rot_call HN.out hNm hsm hme (by omega) HRR.out _).mono ?_
                rintro er w1 ⟨rfl, R1⟩
                have HR1 := hid R1
                clear R1
                have HR2 := HR1
                have HM2 : Hid (Mix a d (rot l s m e) (rot l s m e)) := hid (Mix.refl _ _ _)
                have HSS2 : Hid (Srt a d (rot l s m e)) := hid (by
                  have h := HQ2.out
                  have ea : a = s := by omega
                  intro i j x y g1 g2 g3
                  exact h i j x y (by omega) g2 g3)
                have HL2 : Hid ((rot l s m e).length = N) := hid (by rw [HM2.out.len]; exact HL1.out)
                go_wp2_with fail
                refine (HIH.out _ _ d e b hde heb (by omega) hbN HL2.out HR2.out (HQ3.out.out HM2.out (.inr (Nat.le_refl _))) (HQ4.out.out HM2.out (.inr (by omega)))).mono ?_
                rintro er w3 ⟨rfl, l3, R3, m3, s3⟩
                have HM3 := hid m3
                have HSS3 := hid s3
                have HR3 := hid R3
                clear m3 s3 R3
                go_wp2
                go_end0
                exact ⟨rfl, _, HR3.out, merge_end HM1.out HC1.out HM2.out HSS2.out HM3.out HSS3.out (Nat.le_of_lt had) (Nat.le_of_lt hdb)⟩
              · have heb1 : ¬ (e : Int) < (b : Int) := by omega
                go_wp2_with fail
                refine (rot_call HN.out hNm hsm hme (by omega) HRR.out _).mono ?_
                rintro er w1 ⟨rfl, R1⟩
                have HR1 := hid R1
                clear R1
                have HR2 := HR1
                have HM2 : Hid (Mix a d (rot l s m e) (rot l s m e)) := hid (Mix.refl _ _ _)
                have HSS2 : Hid (Srt a d (rot l s m e)) := hid (by
                  have h := HQ2.out
                  have ea : a = s := by omega
                  intro i j x y g1 g2 g3
                  exact h i j x y (by omega) g2 g3)
                have R3 := HR2.out
                have m3 : Mix d b (rot l s m e) (rot l s m e) := Mix.refl _ _ _
                have s3 : Srt d b (rot l s m e) := by
                  have h := HQ3.out.out HM2.out (.inr (Nat.le_refl _))
                  intro i j x y g1 g2 g3
                  exact h i j x y g1 g2 (by omega)
                have HM3 := hid m3
                have HSS3 := hid s3
                have HR3 := hid R3
                clear m3 s3 R3
                go_wp2
                go_end0
                exact ⟨rfl, _, HR3.out, merge_end HM1.out HC1.out HM2.out HSS2.out HM3.out HSS3.out (Nat.le_of_lt had) (Nat.le_of_lt hdb)⟩
          · have hmeN : ¬ m < e := by have := HKD.out; omega
            have hsd1 : ¬ (s : Int) < (d : Int) := by omega
            have hme1 : ¬ (m : Int) < (e : Int) := by omega
            by_cases has : a < s
            · have has1 : (a : Int) < (s : Int) := by omega
              by_cases heb : e < b
              · have heb1 : (e : Int) < (b : Int) := by omega
                have HR1 : Hid (Rw w0 wr B g tl (rot l s m e)) := hid (by rw [rot_none ksm kme (by omega)]; exact HRR.out)
                have HR2 := HR1
                have HM2 : Hid (Mix a d (rot l s m e) (rot l s m e)) := hid (Mix.refl _ _ _)
                have HSS2 : Hid (Srt a d (rot l s m e)) := hid (by
                  have h := HQ1.out
                  have ed : d = s := by omega
                  rw [ed]
                  exact h)
                have HL2 : Hid ((rot l s m e).length = N) := hid (by rw [HM2.out.len]; exact HL1.out)
                go_wp2_with fail
                refine (HIH.out _ _ d e b hde heb (by omega) hbN HL2.out HR2.out (HQ3.out.out HM2.out (.inr (Nat.le_refl _))) (HQ4.out.out HM2.out (.inr (by omega)))).mono ?_
                rintro er w3 ⟨rfl, l3, R3, m3, s3⟩
                have HM3 := hid m3
                have HSS3 := hid s3
                have HR3 := hid R3
                clear m3 s3 R3
                go_wp2
                go_end0
                exact ⟨rfl, _, HR3.out, merge_end HM1.out HC1.out HM2.out HSS2.out HM3.out HSS3.out (Nat.le_of_lt had) (Nat.le_of_lt hdb)⟩
              · have heb1 : ¬ (e : Int) < (b : Int) := by omega
                have HR1 : Hid (Rw w0 wr B g tl (rot l s m e)) := hid (by rw [rot_none ksm kme (by omega)]; exact HRR.out)
                have HR2 := HR1
                have HM2 : Hid (Mix a d (rot l s m e) (rot l s m e)) := hid (Mix.refl _ _ _)
                have HSS2 : Hid (Srt a d (rot l s m e)) := hid (by
                  have h := HQ1.out
                  have ed : d = s := by omega
                  rw [ed]
                  exact h)
                have R3 := HR2.out
                have m3 : Mix d b (rot l s m e) (rot l s m e) := Mix.refl _ _ _
                have s3 : Srt d b (rot l s m e) := by
                  have h := HQ3.out.out HM2.out (.inr (Nat.le_refl _))
                  intro i j x y g1 g2 g3
                  exact h i j x y g1 g2 (by omega)
                have HM3 := hid m3
                have HSS3 := hid s3
                have HR3 := hid R3
                clear m3 s3 R3
                go_wp2
                go_end0
                exact ⟨rfl, _, HR3.out, merge_end HM1.out HC1.out HM2.out HSS2.out HM3.out HSS3.out (Nat.le_of_lt had) (Nat.le_of_lt hdb)⟩
            · have has1 : ¬ (a : Int) < (s : Int) := by omega
              by_cases heb : e < b
              · have heb1 : (e : Int) < (b : Int) := by omega
                have HR1 : Hid (Rw w0 wr B g tl (rot l s m e)) := hid (by rw [rot_none ksm kme (by omega)]; exact HRR.out)
                have HR2 := HR1
                have HM2 : Hid (Mix a d (rot l s m e) (rot l s m e)) := hid (Mix.refl _ _ _)
                have HSS2 : Hid (Srt a d (rot l s m e)) := hid (by
                  have h := HQ2.out
                  have ea : a = s := by omega
                  intro i j x y g1 g2 g3
                  exact h i j x y (by omega) g2 g3)
                have HL2 : Hid ((rot l s m e).length = N) := hid (by rw [HM2.out.len]; exact HL1.out)
                go_wp2_with fail
                refine (HIH.out _ _ d e b hde heb (by omega) hbN HL2.out HR2.out (HQ3.out.out HM2.out (.inr (Nat.le_refl _))) (HQ4.out.out HM2.out (.inr (by omega)))).mono ?_
                rintro er w3 ⟨rfl, l3, R3, m3, s3⟩
                have HM3 := hid m3
                have HSS3 := hid s3
                have HR3 := hid R3
                clear m3 s3 R3
                go_wp2
                go_end0
                exact ⟨rfl, _, HR3.out, merge_end HM1.out HC1.out HM2.out HSS2.out HM3.out HSS3.out (Nat.le_of_lt had) (Nat.le_of_lt hdb)⟩
              · have heb1 : ¬ (e : Int) < (b : Int) := by omega
                have HR1 : Hid (Rw w0 wr B g tl (rot l s m e)) := hid (by rw [rot_none ksm kme (by omega)]; exact HRR.out)
                have HR2 := HR1
                have HM2 : Hid (Mix a d (rot l s m e) (rot l s m e)) := hid (Mix.refl _ _ _)
                have HSS2 : Hid (Srt a d (rot l s m e)) := hid (by
                  have h := HQ2.out
                  have ea : a = s := by omega
                  intro i j x y g1 g2 g3
                  exact h i j x y (by omega) g2 g3)
                have R3 := HR2.out
                have m3 : Mix d b (rot l s m e) (rot l s m e) := Mix.refl _ _ _
                have s3 : Srt d b (rot l s m e) := by
                  have h := HQ3.out.out HM2.out (.inr (Nat.le_refl _))
                  intro i j x y g1 g2 g3
                  exact h i j x y g1 g2 (by omega)
                have HM3 := hid m3
                have HSS3 := hid s3
                have HR3 := hid R3
                clear m3 s3 R3
                go_wp2
                go_end0
                exact ⟨rfl, _, HR3.out, merge_end HM1.out HC1.out HM2.out HSS2.out HM3.out HSS3.out (Nat.le_of_lt had) (Nat.le_of_lt hdb)⟩
        · have hdeN : ¬ d < e := by have := HKD.out; omega
          have hsm1 : ¬ (s : Int) < (m : Int) := by omega
          have hde1 : ¬ (d : Int) < (e : Int) := by omega
          by_cases hsd : s < d
          · have hme : m < e := by have := HKD.out; omega
            have hsd1 : (s : Int) < (d : Int) := by omega
            have hme1 : (m : Int) < (e : Int) := by omega
            by_cases has : a < s
            · have has1 : (a : Int) < (s : Int) := by omega
              have HR1 : Hid (Rw w0 wr B g tl (rot l s m e)) := hid (by rw [rot_none ksm kme (by omega)]; exact HRR.out)
              go_wp2_with fail
              refine (HIH.out _ _ a s d has hsd (by omega) (by omega) HL1.out HR1.out HQ1.out HQ2.out).mono ?_
              rintro er w2 ⟨rfl, l2, R2, m2, s2⟩
              have HR2 := hid R2
              have HM2 := hid m2
              have HSS2 := hid s2
              clear R2 m2 s2
              have R3 := HR2.out
              have m3 : Mix d b l2 l2 := Mix.refl _ _ _
              have s3 : Srt d b l2 := by
                have h := HQ4.out.out HM2.out (.inr (by omega))
                intro i j x y g1 g2 g3
                exact h i j x y (by omega) g2 g3
              have HM3 := hid m3
              have HSS3 := hid s3
              have HR3 := hid R3
              clear m3 s3 R3
              go_wp2
              go_end0
              exact ⟨rfl, _, HR3.out, merge_end HM1.out HC1.out HM2.out HSS2.out HM3.out HSS3.out (Nat.le_of_lt had) (Nat.le_of_lt hdb)⟩
            · have has1 : ¬ (a : Int) < (s : Int) := by omega
              have HR1 : Hid (Rw w0 wr B g tl (rot l s m e)) := hid (by rw [rot_none ksm kme (by omega)]; exact HRR.out)
              have HR2 := HR1
              have HM2 : Hid (Mix a d (rot l s m e) (rot l s m e)) := hid (Mix.refl _ _ _)
              have HSS2 : Hid (Srt a d (rot l s m e)) := hid (by
                have h := HQ2.out
                have ea : a = s := by omega
                intro i j x y g1 g2 g3
                exact h i j x y (by omega) g2 g3)
              have R3 := HR2.out
              have m3 : Mix d b (rot l s m e) (rot l s m e) := Mix.refl _ _ _
              have s3 : Srt d b (rot l s m e) := by
                have h := HQ4.out.out HM2.out (.inr (by omega))
                intro i j x y g1 g2 g3
                exact h i j x y (by omega) g2 g3
              have HM3 := hid m3
              have HSS3 := hid s3
              have HR3 := hid R3
              clear m3 s3 R3
              go_wp2
              go_end0
              exact ⟨rfl, _, HR3.out, merge_end HM1.out HC1.out HM2.out HSS2.out HM3.out HSS3.out (Nat.le_of_lt had) (Nat.le_of_lt hdb)⟩
          · have hmeN : ¬ m < e := by have := HKD.out; omega
            have hsd1 : ¬ (s : Int) < (d : Int) := by omega
            have hme1 : ¬ (m : Int) < (e : Int) := by omega
            by_cases has : a < s
            · have has1 : (a : Int) < (s : Int) := by omega
              have HR1 : Hid (Rw w0 wr B g tl (rot l s m e)) := hid (by rw [rot_none ksm kme (by omega)]; exact HRR.out)
              have HR2 := HR1
              have HM2 : Hid (Mix a d (rot l s m e) (rot l s m e)) := hid (Mix.refl _ _ _)
              have HSS2 : Hid (Srt a d (rot l s m e)) := hid (by
                have h := HQ1.out
                have ed : d = s := by omega
                rw [ed]
                exact h)
              have R3 := HR2.out
              have m3 : Mix d b (rot l s m e) (rot l s m e) := Mix.refl _ _ _
              have s3 : Srt d b (rot l s m e) := by
                have h := HQ4.out.out HM2.out (.inr (by omega))
                intro i j x y g1 g2 g3
                exact h i j x y (by omega) g2 g3
              have HM3 := hid m3
              have HSS3 := hid s3
              have HR3 := hid R3
              clear m3 s3 R3
              go_wp2
              go_end0
              exact ⟨rfl, _, HR3.out, merge_end HM1.out HC1.out HM2.out HSS2.out HM3.out HSS3.out (Nat.le_of_lt had) (Nat.le_of_lt hdb)⟩
            · have has1 : ¬ (a : Int) < (s : Int) := by omega
              have HR1 : Hid (Rw w0 wr B g tl (rot l s m e)) := hid (by rw [rot_none ksm kme (by omega)]; exact HRR.out)
              have HR2 := HR1
              have HM2 : Hid (Mix a d (rot l s m e) (rot l s m e)) := hid (Mix.refl _ _ _)
              have HSS2 : Hid (Srt a d (rot l s m e)) := hid (by
                have h := HQ2.out
                have ea : a = s := by omega
                intro i j x y g1 g2 g3
                exact h i j x y (by omega) g2 g3)
              have R3 := HR2.out
              have m3 : Mix d b (rot l s m e) (rot l s m e) := Mix.refl _ _ _
              have s3 : Srt d b (rot l s m e) := by
                have h := HQ4.out.out HM2.out (.inr (by omega))
                intro i j x y g1 g2 g3
                exact h i j x y (by omega) g2 g3
              have HM3 := hid m3
              have HSS3 := hid s3
              have HR3 := hid R3
              clear m3 s3 R3
              go_wp2
              go_end0
              exact ⟨rfl, _, HR3.out, merge_end HM1.out HC1.out HM2.out HSS2.out HM3.out HSS3.out (Nat.le_of_lt had) (Nat.le_of_lt hdb)⟩

theorem symMerge_any {w0 : World} {B g C N : Nat} {tl : List Value} (hNm : N ≤ 1000000000) : ∀ (k : Nat) (W : World) (l : List Crd) (a m b : Nat), b - a ≤ k → a < m → m < b → b ≤ N → l.length = N → Rw w0 W B g tl l → Srt a m l → Srt m b l → Merges w0 B g C N tl W l a m b := by
  intro k
  induction k with
  | zero => intro W l a m b h1 h2 h3; omega
  | succ k ih =>
    intro W l a m b h1 h2 h3 h4 h5 h6 h7 h8
    by_cases c1 : m = a + 1
    · exact sym_one l N a m b h5 hNm c1 h3 h4 h6 h8
    · by_cases c2 : b = m + 1
      · exact sym_last l N a m b h5 hNm (by omega) c2 h4 h6 h7
      · exact sym_gen l N a m b h5 hNm (by omega) (by omega) h4 h6 h7 h8 (fun W' l' a' m' b' g1 g2 g3 g4 g5 g6 g7 g8 => ih W' l' a' m' b' (by omega) g1 g2 g4 g5 g6 g7 g8)
end Go.Proofs.Ytkimhdcngagmaaa.Sh
