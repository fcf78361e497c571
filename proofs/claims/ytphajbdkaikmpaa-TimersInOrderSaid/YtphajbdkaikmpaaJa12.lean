/-
  The document's queue of timers: Set, by contract. Written by mk_tmref.py.
-/
import Derived.Test.YtphajbdkaikmpaaJa7
import Derived.Test.YtphajbdkaikmpaaJa11
set_option linter.unusedVariables false
set_option linter.unusedSimpArgs false
namespace Go.Proofs.Ytphajbdkaikmpaa.Sh
open Go Go.RowKit

set_option linter.unusedSimpArgs false
set_option linter.unusedVariables false
set_option maxHeartbeats 8000000 in
theorem refSet_any {w : World} {P : Nat → Prop} {q : Nat} {L : List Tm} (e : QueR w P q L) (hL : L.length ≤ 100) (kd due : Int) : Calls Try.prog 19 #[.pointer (some ⟨q, 0, none⟩), .int .i64 kd, .int .i64 due] w fun er w' => er = .returned (.int .i64 (setT kd due L).1) ∧ QueR w' (plusT P w.heap.size w'.heap.size) q (setT kd due L).2 ∧ Grew w w' P := by
  have HC0 := hid (refNo_any e (by omega) kd)
  have HP := hid (fun (w9 : World) (A : Option Addr) (n c : Nat) (l : List Tm) hb (ho : Own (E := encT) w9 w.heap.size 53 (.slice A n c) l) hn => e.put hb ho hn)
  have HEE := hid e
  obtain ⟨LA, lc, h1, h2, h3⟩ := e.e
  have HX := hid (fun W hb => (h3 W hb).1)
  have HF := hid (fun W hb => (h3 W hb).2.1)
  have HNL := hid (noT_le kd L)
  clear e h3
  obtain ⟨n, hn⟩ : ∃ n, L.length = n := ⟨_, rfl⟩
  rw [hn] at HX hL HNL
  have HN := hid hn
  clear hn h1
  go_enter Try.func19, Try.ntmps19
  go_wp2_with fail
  refine HC0.out.mono ?_
  rintro er w3 ⟨A3, n3, c3, rfl, hn3, o3, b3⟩
  have hle3 : n3 ≤ n := by rw [← hn3]; exact HNL.out
  have cq := HX.out w3 b3
  obtain ⟨rl, hrl⟩ : ∃ rl, noT kd L = rl := ⟨_, rfl⟩
  have HRL := hid hrl
  rw [hrl] at o3 hn3
  have HR3 := hid hn3
  have HB3 := hid b3
  have HY := hid (fun W (hW : Below w3.heap.size w3 W) => (own_els o3).below hW)
  have HLT0 : Hid (w.heap.size ≤ w3.heap.size) := hid b3.size
  clear hrl hn3 o3 b3
  by_cases hful : n3 = n ∧ n = 64
  · obtain ⟨rfl, rfl⟩ := hful
    have HST : Hid (setT kd due L = (12, L)) := hid (by unfold setT; rw [if_pos ⟨by rw [HRL.out, HR3.out, HN.out], HN.out⟩])
    have HG : Hid (QueR w3 (plusT P w.heap.size w3.heap.size) q L ∧ Grew w w3 P) := hid ⟨(HEE.out.below HB3.out).plus, Grew.of_below HB3.out⟩
    go_wp2_with fail
    go_ret
    exact ⟨by rw [HST.out]; rfl, by rw [HST.out]; exact HG.out.1, HG.out.2⟩
  have HST : Hid (setT kd due L = (0, insT (due, kd) rl)) := hid (by unfold setT; rw [if_neg (by rw [HRL.out, HR3.out, HN.out]; exact hful), HRL.out])
  have HSTART := hid (Below.refl w3.heap.size w3)
  have goal : True := trivial
  by_cases hnn : n3 = n
  · have hn64 : ¬ n = 64 := fun h => hful ⟨hnn, h⟩
    have hnn1 : ((n3 : Int) == (n : Int)) = true := by simp [hnn]
    have hnn2 : ((n : Int) == 64) = false := beq_eq_false_iff_ne.2 (by omega)
    subst hnn
    clear hful
    go_wp2_with fail
    go_loopw [8, 9, 10] (fun v b i wr => ∃ (A : Option Addr) (m c k : Nat) (lo : List Tm) (pb : Bool), v = .slice A m c ∧ b = .bool pb ∧ i = .int .i64 (k : Int) ∧ k ≤ n3 ∧ m ≤ 2 * k ∧ Hid (lo.length = m) ∧ Hid (Own (E := encT) wr w3.heap.size 53 (.slice A m c) lo) ∧ Hid (OutT (due, kd) (rl.take k) pb lo) ∧ Hid (Below w3.heap.size w3 wr)) (fun _ _ i _ => n3 - (intOf i).toNat)
    case atStart => exact ⟨none, 0, 0, 0, [], false, rfl, rfl, rfl, Nat.zero_le _, Nat.zero_le _, hid rfl, hid (Own.nil _ _ _), hid (OutT.nil _), HSTART⟩
    case round =>
      obtain ⟨wj, hwj⟩ : ∃ x, x = wr := ⟨_, rfl⟩
      subst hwj
      obtain ⟨A, m', c, k, lo, pb, rfl, rfl, rfl, hk, hmk, HL, HO, HT, HB⟩ := hrel
      have hk0 : (0 : Int) ≤ (k : Int) := Int.natCast_nonneg _
      by_cases hlt : k < n3
      · obtain ⟨⟨xd, xu⟩, hx⟩ : ∃ x, rl[k]? = some x := ⟨_, List.getElem?_eq_getElem (by rw [HR3.out]; exact hlt)⟩
        obtain ⟨ad, aj, rfl, ea, HC⟩ := els_at HY.out hx wj HB.out
        obtain ⟨d0, d1⟩ := HC wj HB.out
        have HX2 := hid (take_snoc_of hx)
        simp only at d0 d1 HC
        have hk1 : (k : Int) < (n3 : Int) := by omega
        clear hx cq
        cases pb with
        | true =>
            have HOA9 := hid (HO.out.alloc (.cells #[.int .i64 xd, .int .i64 xu] 53))
            have HRD9 := hid (reads_new wj #[.int .i64 xd, .int .i64 xu] 53 (0, 0))
            have HBA9 := hid (HB.out.alloc HB.out.size (.cells #[.int .i64 xd, .int .i64 xu] 53))
            have hbs9 : w3.heap.size ≤ (wj.alloc (.cells #[.int .i64 xd, .int .i64 xu] 53)).heap.size := HBA9.out.size
            have hfl : lo.length ≤ 1000000000000 := by rw [HL.out]; omega
            go_wp2_with (first | (at_builtin; refine wpList_app1 (E := encT) rfl slU (.tmp 71) (.tmp 76) rfl (B := w3.heap.size) (v := .slice A m' c) (l := lo) HOA9.out rfl (ad := ⟨wj.heap.size, 0, none⟩) (c := 1) (xd, xu) rfl HRD9.out hfl (by omega) hbs9 ?_; intro A9 c9 w9 ho9 hg9 he9; have HO9 := hid ho9; have HB9 := hid (HBA9.out.grown hg9 hbs9 (fun g e => (World.ownsRow.lt HOA9.out g e).1)); clear ho9 hg9 he9) | go_in)
            rw [HL.out] at HO9 ⊢
            go_roundw
            case rel => exact ⟨A9, m' + 1, c9, k + 1, _, true, rfl, rfl, by go_num, by omega, by omega, hid (by rw [List.length_append, HL.out]; rfl), HO9, hid (by rw [HX2.out]; exact HT.out.more), HB9⟩
            case measure => simp [intOf]; omega
        | false =>
          rcases Int.lt_trichotomy due xd with h5 | h5 | h5
          · have HLT : Hid (ltT (due, kd) (xd, xu)) := hid (.inl h5)
            have HOA8 := hid (HO.out.alloc (.cells #[.int .i64 due, .int .i64 kd] 53))
            have HRD8 := hid (reads_new wj #[.int .i64 due, .int .i64 kd] 53 (0, 0))
            have HBA8 := hid (HB.out.alloc HB.out.size (.cells #[.int .i64 due, .int .i64 kd] 53))
            have hbs8 : w3.heap.size ≤ (wj.alloc (.cells #[.int .i64 due, .int .i64 kd] 53)).heap.size := HBA8.out.size
            have hfl : lo.length ≤ 1000000000000 := by rw [HL.out]; omega
            have hfl8 : (lo ++ [(due, kd)]).length ≤ 1000000000000 := by rw [List.length_append, HL.out]; show m' + 1 ≤ _; omega
            have HC9 := hid HC
            clear HC
            go_wp2_with (first | (at_builtin; refine wpList_app1 (E := encT) rfl slU (.tmp 65) (.tmp 69) rfl (B := w3.heap.size) (v := .slice A m' c) (l := lo) HOA8.out rfl (ad := ⟨wj.heap.size, 0, none⟩) (c := 1) (due, kd) rfl HRD8.out hfl (by omega) hbs8 ?_; intro A8 c8 w8 ho8 hg8 he8; have HO8 := hid ho8; have HB8 := hid (HBA8.out.grown hg8 hbs8 (fun g e => (World.ownsRow.lt HOA8.out g e).1)); have cA := (HC9.out w8 HB8.out).1; have cB := (HC9.out w8 HB8.out).2; have HOA9 := hid (HO8.out.alloc (.cells #[.int .i64 xd, .int .i64 xu] 53)); have HRD9 := hid (reads_new w8 #[.int .i64 xd, .int .i64 xu] 53 (0, 0)); have HBA9 := hid (HB8.out.alloc HB8.out.size (.cells #[.int .i64 xd, .int .i64 xu] 53)); have hbs9 : w3.heap.size ≤ (w8.alloc (.cells #[.int .i64 xd, .int .i64 xu] 53)).heap.size := HBA9.out.size; clear ho8 hg8 he8) | (at_builtin; refine wpList_app1 (E := encT) rfl slU (.tmp 71) (.tmp 76) rfl (B := w3.heap.size) (v := .slice A8 (lo.length + 1) c8) (l := lo ++ [(due, kd)]) HOA9.out rfl (ad := ⟨w8.heap.size, 0, none⟩) (c := 1) (xd, xu) rfl HRD9.out hfl8 (by omega) hbs9 ?_; intro A9 c9 w9 ho9 hg9 he9; have HO9 := hid ho9; have HB9 := hid (HBA9.out.grown hg9 hbs9 (fun g e => (World.ownsRow.lt HOA9.out g e).1)); clear ho9 hg9 he9) | go_in)
            have HLO : Hid ((lo ++ [(due, kd)]).length = m' + 1) := hid (by rw [List.length_append, HL.out]; rfl)
            rw [HLO.out] at HO9
            rw [HL.out]
            go_roundw
            case rel => exact ⟨A9, m' + 1 + 1, c9, k + 1, _, true, rfl, rfl, by go_num, by omega, by omega, hid (by rw [List.length_append, HLO.out]; rfl), HO9, hid (by rw [HX2.out]; exact HT.out.here HLT.out), HB9⟩
            case measure => simp [intOf]; omega
          · subst h5
            have heq : (due == due) = true := by simp
            have h5b : ¬ due < due := by omega
            by_cases h6 : kd < xu
            · have HLT : Hid (ltT (due, kd) (due, xu)) := hid (.inr ⟨rfl, h6⟩)
              have HOA8 := hid (HO.out.alloc (.cells #[.int .i64 due, .int .i64 kd] 53))
              have HRD8 := hid (reads_new wj #[.int .i64 due, .int .i64 kd] 53 (0, 0))
              have HBA8 := hid (HB.out.alloc HB.out.size (.cells #[.int .i64 due, .int .i64 kd] 53))
              have hbs8 : w3.heap.size ≤ (wj.alloc (.cells #[.int .i64 due, .int .i64 kd] 53)).heap.size := HBA8.out.size
              have hfl : lo.length ≤ 1000000000000 := by rw [HL.out]; omega
              have hfl8 : (lo ++ [(due, kd)]).length ≤ 1000000000000 := by rw [List.length_append, HL.out]; show m' + 1 ≤ _; omega
              have HC9 := hid HC
              clear HC
              go_wp2_with (first | (at_builtin; refine wpList_app1 (E := encT) rfl slU (.tmp 65) (.tmp 69) rfl (B := w3.heap.size) (v := .slice A m' c) (l := lo) HOA8.out rfl (ad := ⟨wj.heap.size, 0, none⟩) (c := 1) (due, kd) rfl HRD8.out hfl (by omega) hbs8 ?_; intro A8 c8 w8 ho8 hg8 he8; have HO8 := hid ho8; have HB8 := hid (HBA8.out.grown hg8 hbs8 (fun g e => (World.ownsRow.lt HOA8.out g e).1)); have cA := (HC9.out w8 HB8.out).1; have cB := (HC9.out w8 HB8.out).2; have HOA9 := hid (HO8.out.alloc (.cells #[.int .i64 due, .int .i64 xu] 53)); have HRD9 := hid (reads_new w8 #[.int .i64 due, .int .i64 xu] 53 (0, 0)); have HBA9 := hid (HB8.out.alloc HB8.out.size (.cells #[.int .i64 due, .int .i64 xu] 53)); have hbs9 : w3.heap.size ≤ (w8.alloc (.cells #[.int .i64 due, .int .i64 xu] 53)).heap.size := HBA9.out.size; clear ho8 hg8 he8) | (at_builtin; refine wpList_app1 (E := encT) rfl slU (.tmp 71) (.tmp 76) rfl (B := w3.heap.size) (v := .slice A8 (lo.length + 1) c8) (l := lo ++ [(due, kd)]) HOA9.out rfl (ad := ⟨w8.heap.size, 0, none⟩) (c := 1) (due, xu) rfl HRD9.out hfl8 (by omega) hbs9 ?_; intro A9 c9 w9 ho9 hg9 he9; have HO9 := hid ho9; have HB9 := hid (HBA9.out.grown hg9 hbs9 (fun g e => (World.ownsRow.lt HOA9.out g e).1)); clear ho9 hg9 he9) | go_in)
              have HLO : Hid ((lo ++ [(due, kd)]).length = m' + 1) := hid (by rw [List.length_append, HL.out]; rfl)
              rw [HLO.out] at HO9
              rw [HL.out]
              go_roundw
              case rel => exact ⟨A9, m' + 1 + 1, c9, k + 1, _, true, rfl, rfl, by go_num, by omega, by omega, hid (by rw [List.length_append, HLO.out]; rfl), HO9, hid (by rw [HX2.out]; exact HT.out.here HLT.out), HB9⟩
              case measure => simp [intOf]; omega
            · have HLT : Hid (¬ ltT (due, kd) (due, xu)) := hid (by unfold ltT; simp only; omega)
              clear HC
              have HOA9 := hid (HO.out.alloc (.cells #[.int .i64 due, .int .i64 xu] 53))
              have HRD9 := hid (reads_new wj #[.int .i64 due, .int .i64 xu] 53 (0, 0))
              have HBA9 := hid (HB.out.alloc HB.out.size (.cells #[.int .i64 due, .int .i64 xu] 53))
              have hbs9 : w3.heap.size ≤ (wj.alloc (.cells #[.int .i64 due, .int .i64 xu] 53)).heap.size := HBA9.out.size
              have hfl : lo.length ≤ 1000000000000 := by rw [HL.out]; omega
              go_wp2_with (first | (at_builtin; refine wpList_app1 (E := encT) rfl slU (.tmp 71) (.tmp 76) rfl (B := w3.heap.size) (v := .slice A m' c) (l := lo) HOA9.out rfl (ad := ⟨wj.heap.size, 0, none⟩) (c := 1) (due, xu) rfl HRD9.out hfl (by omega) hbs9 ?_; intro A9 c9 w9 ho9 hg9 he9; have HO9 := hid ho9; have HB9 := hid (HBA9.out.grown hg9 hbs9 (fun g e => (World.ownsRow.lt HOA9.out g e).1)); clear ho9 hg9 he9) | go_in)
              rw [HL.out] at HO9 ⊢
              go_roundw
              case rel => exact ⟨A9, m' + 1, c9, k + 1, _, false, rfl, rfl, by go_num, by omega, by omega, hid (by rw [List.length_append, HL.out]; rfl), HO9, hid (by rw [HX2.out]; exact HT.out.past HLT.out), HB9⟩
              case measure => simp [intOf]; omega
          · have h5b : ¬ due < xd := by omega
            have heq : (due == xd) = false := beq_eq_false_iff_ne.2 (by omega)
            have HLT : Hid (¬ ltT (due, kd) (xd, xu)) := hid (by unfold ltT; simp only; omega)
            clear HC
            have HOA9 := hid (HO.out.alloc (.cells #[.int .i64 xd, .int .i64 xu] 53))
            have HRD9 := hid (reads_new wj #[.int .i64 xd, .int .i64 xu] 53 (0, 0))
            have HBA9 := hid (HB.out.alloc HB.out.size (.cells #[.int .i64 xd, .int .i64 xu] 53))
            have hbs9 : w3.heap.size ≤ (wj.alloc (.cells #[.int .i64 xd, .int .i64 xu] 53)).heap.size := HBA9.out.size
            have hfl : lo.length ≤ 1000000000000 := by rw [HL.out]; omega
            go_wp2_with (first | (at_builtin; refine wpList_app1 (E := encT) rfl slU (.tmp 71) (.tmp 76) rfl (B := w3.heap.size) (v := .slice A m' c) (l := lo) HOA9.out rfl (ad := ⟨wj.heap.size, 0, none⟩) (c := 1) (xd, xu) rfl HRD9.out hfl (by omega) hbs9 ?_; intro A9 c9 w9 ho9 hg9 he9; have HO9 := hid ho9; have HB9 := hid (HBA9.out.grown hg9 hbs9 (fun g e => (World.ownsRow.lt HOA9.out g e).1)); clear ho9 hg9 he9) | go_in)
            rw [HL.out] at HO9 ⊢
            go_roundw
            case rel => exact ⟨A9, m' + 1, c9, k + 1, _, false, rfl, rfl, by go_num, by omega, by omega, hid (by rw [List.length_append, HL.out]; rfl), HO9, hid (by rw [HX2.out]; exact HT.out.past HLT.out), HB9⟩
            case measure => simp [intOf]; omega
      · obtain rfl : k = n3 := by omega
        have HTK : Hid (rl.take k = rl) := hid (List.take_of_length_le (by rw [HR3.out]; exact Nat.le_refl _))
        rw [HTK.out] at HT
        cases pb with
        | true =>
          have cqj := HX.out wj (HB3.out.trans (HB.out.mono HB3.out.size))
          have fqj := HF.out wj (HB3.out.trans (HB.out.mono HB3.out.size))
          have HE := hid (HP.out wj A m' c lo (HB3.out.trans (HB.out.mono HB3.out.size)) (ownBase HO.out HLT0.out) HL.out)
          have HD := hid HT.out.done
          go_wp2_with fail
          go_ret
          rw [HST.out, ← HD.out]
          exact ⟨rfl, HE.out⟩
        | false =>
          have HD := hid HT.out.last
          clear cq
          have HOA9 := hid (HO.out.alloc (.cells #[.int .i64 due, .int .i64 kd] 53))
          have HRD9 := hid (reads_new wj #[.int .i64 due, .int .i64 kd] 53 (0, 0))
          have HBA9 := hid (HB.out.alloc HB.out.size (.cells #[.int .i64 due, .int .i64 kd] 53))
          have hbs9 : w3.heap.size ≤ (wj.alloc (.cells #[.int .i64 due, .int .i64 kd] 53)).heap.size := HBA9.out.size
          have hfl : lo.length ≤ 1000000000000 := by rw [HL.out]; omega
          go_wp2_with (first | (at_builtin; refine wpList_app1 (E := encT) rfl slU (.tmp 80) (.tmp 84) rfl (B := w3.heap.size) (v := .slice A m' c) (l := lo) HOA9.out rfl (ad := ⟨wj.heap.size, 0, none⟩) (c := 1) (due, kd) rfl HRD9.out hfl (by omega) hbs9 ?_; intro A9 c9 w9 ho9 hg9 he9; have HO9 := hid ho9; have HB9 := hid (HBA9.out.grown hg9 hbs9 (fun g e => (World.ownsRow.lt HOA9.out g e).1)); have cq9 := HX.out w9 (HB3.out.trans (HB9.out.mono HB3.out.size)); have fq9 := HF.out w9 (HB3.out.trans (HB9.out.mono HB3.out.size)); clear ho9 hg9 he9) | go_in)
          go_wp2_with fail
          go_ret
          have hfin := HP.out w9 A9 (lo.length + 1) c9 _ (HB3.out.trans (HB9.out.mono HB3.out.size)) (ownBase HO9.out HLT0.out) (by rw [List.length_append]; rfl)
          rw [HST.out, ← HD.out]
          exact ⟨rfl, hfin⟩
  · have hnn1 : ((n3 : Int) == (n : Int)) = false := beq_eq_false_iff_ne.2 (by omega)
    clear hful
    go_wp2_with fail
    go_loopw [8, 9, 10] (fun v b i wr => ∃ (A : Option Addr) (m c k : Nat) (lo : List Tm) (pb : Bool), v = .slice A m c ∧ b = .bool pb ∧ i = .int .i64 (k : Int) ∧ k ≤ n3 ∧ m ≤ 2 * k ∧ Hid (lo.length = m) ∧ Hid (Own (E := encT) wr w3.heap.size 53 (.slice A m c) lo) ∧ Hid (OutT (due, kd) (rl.take k) pb lo) ∧ Hid (Below w3.heap.size w3 wr)) (fun _ _ i _ => n3 - (intOf i).toNat)
    case atStart => exact ⟨none, 0, 0, 0, [], false, rfl, rfl, rfl, Nat.zero_le _, Nat.zero_le _, hid rfl, hid (Own.nil _ _ _), hid (OutT.nil _), HSTART⟩
    case round =>
      obtain ⟨wj, hwj⟩ : ∃ x, x = wr := ⟨_, rfl⟩
      subst hwj
      obtain ⟨A, m', c, k, lo, pb, rfl, rfl, rfl, hk, hmk, HL, HO, HT, HB⟩ := hrel
      have hk0 : (0 : Int) ≤ (k : Int) := Int.natCast_nonneg _
      by_cases hlt : k < n3
      · obtain ⟨⟨xd, xu⟩, hx⟩ : ∃ x, rl[k]? = some x := ⟨_, List.getElem?_eq_getElem (by rw [HR3.out]; exact hlt)⟩
        obtain ⟨ad, aj, rfl, ea, HC⟩ := els_at HY.out hx wj HB.out
        obtain ⟨d0, d1⟩ := HC wj HB.out
        have HX2 := hid (take_snoc_of hx)
        simp only at d0 d1 HC
        have hk1 : (k : Int) < (n3 : Int) := by omega
        clear hx cq
        cases pb with
        | true =>
            have HOA9 := hid (HO.out.alloc (.cells #[.int .i64 xd, .int .i64 xu] 53))
            have HRD9 := hid (reads_new wj #[.int .i64 xd, .int .i64 xu] 53 (0, 0))
            have HBA9 := hid (HB.out.alloc HB.out.size (.cells #[.int .i64 xd, .int .i64 xu] 53))
            have hbs9 : w3.heap.size ≤ (wj.alloc (.cells #[.int .i64 xd, .int .i64 xu] 53)).heap.size := HBA9.out.size
            have hfl : lo.length ≤ 1000000000000 := by rw [HL.out]; omega
            go_wp2_with (first | (at_builtin; refine wpList_app1 (E := encT) rfl slU (.tmp 71) (.tmp 76) rfl (B := w3.heap.size) (v := .slice A m' c) (l := lo) HOA9.out rfl (ad := ⟨wj.heap.size, 0, none⟩) (c := 1) (xd, xu) rfl HRD9.out hfl (by omega) hbs9 ?_; intro A9 c9 w9 ho9 hg9 he9; have HO9 := hid ho9; have HB9 := hid (HBA9.out.grown hg9 hbs9 (fun g e => (World.ownsRow.lt HOA9.out g e).1)); clear ho9 hg9 he9) | go_in)
            rw [HL.out] at HO9 ⊢
            go_roundw
            case rel => exact ⟨A9, m' + 1, c9, k + 1, _, true, rfl, rfl, by go_num, by omega, by omega, hid (by rw [List.length_append, HL.out]; rfl), HO9, hid (by rw [HX2.out]; exact HT.out.more), HB9⟩
            case measure => simp [intOf]; omega
        | false =>
          rcases Int.lt_trichotomy due xd with h5 | h5 | h5
          · have HLT : Hid (ltT (due, kd) (xd, xu)) := hid (.inl h5)
            have HOA8 := hid (HO.out.alloc (.cells #[.int .i64 due, .int .i64 kd] 53))
            have HRD8 := hid (reads_new wj #[.int .i64 due, .int .i64 kd] 53 (0, 0))
            have HBA8 := hid (HB.out.alloc HB.out.size (.cells #[.int .i64 due, .int .i64 kd] 53))
            have hbs8 : w3.heap.size ≤ (wj.alloc (.cells #[.int .i64 due, .int .i64 kd] 53)).heap.size := HBA8.out.size
            have hfl : lo.length ≤ 1000000000000 := by rw [HL.out]; omega
            have hfl8 : (lo ++ [(due, kd)]).length ≤ 1000000000000 := by rw [List.length_append, HL.out]; show m' + 1 ≤ _; omega
            have HC9 := hid HC
            clear HC
            go_wp2_with (first | (at_builtin; refine wpList_app1 (E := encT) rfl slU (.tmp 65) (.tmp 69) rfl (B := w3.heap.size) (v := .slice A m' c) (l := lo) HOA8.out rfl (ad := ⟨wj.heap.size, 0, none⟩) (c := 1) (due, kd) rfl HRD8.out hfl (by omega) hbs8 ?_; intro A8 c8 w8 ho8 hg8 he8; have HO8 := hid ho8; have HB8 := hid (HBA8.out.grown hg8 hbs8 (fun g e => (World.ownsRow.lt HOA8.out g e).1)); have cA := (HC9.out w8 HB8.out).1; have cB := (HC9.out w8 HB8.out).2; have HOA9 := hid (HO8.out.alloc (.cells #[.int .i64 xd, .int .i64 xu] 53)); have HRD9 := hid (reads_new w8 #[.int .i64 xd, .int .i64 xu] 53 (0, 0)); have HBA9 := hid (HB8.out.alloc HB8.out.size (.cells #[.int .i64 xd, .int .i64 xu] 53)); have hbs9 : w3.heap.size ≤ (w8.alloc (.cells #[.int .i64 xd, .int .i64 xu] 53)).heap.size := HBA9.out.size; clear ho8 hg8 he8) | (at_builtin; refine wpList_app1 (E := encT) rfl slU (.tmp 71) (.tmp 76) rfl (B := w3.heap.size) (v := .slice A8 (lo.length + 1) c8) (l := lo ++ [(due, kd)]) HOA9.out rfl (ad := ⟨w8.heap.size, 0, none⟩) (c := 1) (xd, xu) rfl HRD9.out hfl8 (by omega) hbs9 ?_; intro A9 c9 w9 ho9 hg9 he9; have HO9 := hid ho9; have HB9 := hid (HBA9.out.grown hg9 hbs9 (fun g e => (World.ownsRow.lt HOA9.out g e).1)); clear ho9 hg9 he9) | go_in)
            have HLO : Hid ((lo ++ [(due, kd)]).length = m' + 1) := hid (by rw [List.length_append, HL.out]; rfl)
            rw [HLO.out] at HO9
            rw [HL.out]
            go_roundw
            case rel => exact ⟨A9, m' + 1 + 1, c9, k + 1, _, true, rfl, rfl, by go_num, by omega, by omega, hid (by rw [List.length_append, HLO.out]; rfl), HO9, hid (by rw [HX2.out]; exact HT.out.here HLT.out), HB9⟩
            case measure => simp [intOf]; omega
          · subst h5
            have heq : (due == due) = true := by simp
            have h5b : ¬ due < due := by omega
            by_cases h6 : kd < xu
            · have HLT : Hid (ltT (due, kd) (due, xu)) := hid (.inr ⟨rfl, h6⟩)
              have HOA8 := hid (HO.out.alloc (.cells #[.int .i64 due, .int .i64 kd] 53))
              have HRD8 := hid (reads_new wj #[.int .i64 due, .int .i64 kd] 53 (0, 0))
              have HBA8 := hid (HB.out.alloc HB.out.size (.cells #[.int .i64 due, .int .i64 kd] 53))
              have hbs8 : w3.heap.size ≤ (wj.alloc (.cells #[.int .i64 due, .int .i64 kd] 53)).heap.size := HBA8.out.size
              have hfl : lo.length ≤ 1000000000000 := by rw [HL.out]; omega
              have hfl8 : (lo ++ [(due, kd)]).length ≤ 1000000000000 := by rw [List.length_append, HL.out]; show m' + 1 ≤ _; omega
              have HC9 := hid HC
              clear HC
              go_wp2_with (first | (at_builtin; refine wpList_app1 (E := encT) rfl slU (.tmp 65) (.tmp 69) rfl (B := w3.heap.size) (v := .slice A m' c) (l := lo) HOA8.out rfl (ad := ⟨wj.heap.size, 0, none⟩) (c := 1) (due, kd) rfl HRD8.out hfl (by omega) hbs8 ?_; intro A8 c8 w8 ho8 hg8 he8; have HO8 := hid ho8; have HB8 := hid (HBA8.out.grown hg8 hbs8 (fun g e => (World.ownsRow.lt HOA8.out g e).1)); have cA := (HC9.out w8 HB8.out).1; have cB := (HC9.out w8 HB8.out).2; have HOA9 := hid (HO8.out.alloc (.cells #[.int .i64 due, .int .i64 xu] 53)); have HRD9 := hid (reads_new w8 #[.int .i64 due, .int .i64 xu] 53 (0, 0)); have HBA9 := hid (HB8.out.alloc HB8.out.size (.cells #[.int .i64 due, .int .i64 xu] 53)); have hbs9 : w3.heap.size ≤ (w8.alloc (.cells #[.int .i64 due, .int .i64 xu] 53)).heap.size := HBA9.out.size; clear ho8 hg8 he8) | (at_builtin; refine wpList_app1 (E := encT) rfl slU (.tmp 71) (.tmp 76) rfl (B := w3.heap.size) (v := .slice A8 (lo.length + 1) c8) (l := lo ++ [(due, kd)]) HOA9.out rfl (ad := ⟨w8.heap.size, 0, none⟩) (c := 1) (due, xu) rfl HRD9.out hfl8 (by omega) hbs9 ?_; intro A9 c9 w9 ho9 hg9 he9; have HO9 := hid ho9; have HB9 := hid (HBA9.out.grown hg9 hbs9 (fun g e => (World.ownsRow.lt HOA9.out g e).1)); clear ho9 hg9 he9) | go_in)
              have HLO : Hid ((lo ++ [(due, kd)]).length = m' + 1) := hid (by rw [List.length_append, HL.out]; rfl)
              rw [HLO.out] at HO9
              rw [HL.out]
              go_roundw
              case rel => exact ⟨A9, m' + 1 + 1, c9, k + 1, _, true, rfl, rfl, by go_num, by omega, by omega, hid (by rw [List.length_append, HLO.out]; rfl), HO9, hid (by rw [HX2.out]; exact HT.out.here HLT.out), HB9⟩
              case measure => simp [intOf]; omega
            · have HLT : Hid (¬ ltT (due, kd) (due, xu)) := hid (by unfold ltT; simp only; omega)
              clear HC
              have HOA9 := hid (HO.out.alloc (.cells #[.int .i64 due, .int .i64 xu] 53))
              have HRD9 := hid (reads_new wj #[.int .i64 due, .int .i64 xu] 53 (0, 0))
              have HBA9 := hid (HB.out.alloc HB.out.size (.cells #[.int .i64 due, .int .i64 xu] 53))
              have hbs9 : w3.heap.size ≤ (wj.alloc (.cells #[.int .i64 due, .int .i64 xu] 53)).heap.size := HBA9.out.size
              have hfl : lo.length ≤ 1000000000000 := by rw [HL.out]; omega
              go_wp2_with (first | (at_builtin; refine wpList_app1 (E := encT) rfl slU (.tmp 71) (.tmp 76) rfl (B := w3.heap.size) (v := .slice A m' c) (l := lo) HOA9.out rfl (ad := ⟨wj.heap.size, 0, none⟩) (c := 1) (due, xu) rfl HRD9.out hfl (by omega) hbs9 ?_; intro A9 c9 w9 ho9 hg9 he9; have HO9 := hid ho9; have HB9 := hid (HBA9.out.grown hg9 hbs9 (fun g e => (World.ownsRow.lt HOA9.out g e).1)); clear ho9 hg9 he9) | go_in)
              rw [HL.out] at HO9 ⊢
              go_roundw
              case rel => exact ⟨A9, m' + 1, c9, k + 1, _, false, rfl, rfl, by go_num, by omega, by omega, hid (by rw [List.length_append, HL.out]; rfl), HO9, hid (by rw [HX2.out]; exact HT.out.past HLT.out), HB9⟩
              case measure => simp [intOf]; omega
          · have h5b : ¬ due < xd := by omega
            have heq : (due == xd) = false := beq_eq_false_iff_ne.2 (by omega)
            have HLT : Hid (¬ ltT (due, kd) (xd, xu)) := hid (by unfold ltT; simp only; omega)
            clear HC
            have HOA9 := hid (HO.out.alloc (.cells #[.int .i64 xd, .int .i64 xu] 53))
            have HRD9 := hid (reads_new wj #[.int .i64 xd, .int .i64 xu] 53 (0, 0))
            have HBA9 := hid (HB.out.alloc HB.out.size (.cells #[.int .i64 xd, .int .i64 xu] 53))
            have hbs9 : w3.heap.size ≤ (wj.alloc (.cells #[.int .i64 xd, .int .i64 xu] 53)).heap.size := HBA9.out.size
            have hfl : lo.length ≤ 1000000000000 := by rw [HL.out]; omega
            go_wp2_with (first | (at_builtin; refine wpList_app1 (E := encT) rfl slU (.tmp 71) (.tmp 76) rfl (B := w3.heap.size) (v := .slice A m' c) (l := lo) HOA9.out rfl (ad := ⟨wj.heap.size, 0, none⟩) (c := 1) (xd, xu) rfl HRD9.out hfl (by omega) hbs9 ?_; intro A9 c9 w9 ho9 hg9 he9; have HO9 := hid ho9; have HB9 := hid (HBA9.out.grown hg9 hbs9 (fun g e => (World.ownsRow.lt HOA9.out g e).1)); clear ho9 hg9 he9) | go_in)
            rw [HL.out] at HO9 ⊢
            go_roundw
            case rel => exact ⟨A9, m' + 1, c9, k + 1, _, false, rfl, rfl, by go_num, by omega, by omega, hid (by rw [List.length_append, HL.out]; rfl), HO9, hid (by rw [HX2.out]; exact HT.out.past HLT.out), HB9⟩
            case measure => simp [intOf]; omega
      · obtain rfl : k = n3 := by omega
        have HTK : Hid (rl.take k = rl) := hid (List.take_of_length_le (by rw [HR3.out]; exact Nat.le_refl _))
        rw [HTK.out] at HT
        cases pb with
        | true =>
          have cqj := HX.out wj (HB3.out.trans (HB.out.mono HB3.out.size))
          have fqj := HF.out wj (HB3.out.trans (HB.out.mono HB3.out.size))
          have HE := hid (HP.out wj A m' c lo (HB3.out.trans (HB.out.mono HB3.out.size)) (ownBase HO.out HLT0.out) HL.out)
          have HD := hid HT.out.done
          go_wp2_with fail
          go_ret
          rw [HST.out, ← HD.out]
          exact ⟨rfl, HE.out⟩
        | false =>
          have HD := hid HT.out.last
          clear cq
          have HOA9 := hid (HO.out.alloc (.cells #[.int .i64 due, .int .i64 kd] 53))
          have HRD9 := hid (reads_new wj #[.int .i64 due, .int .i64 kd] 53 (0, 0))
          have HBA9 := hid (HB.out.alloc HB.out.size (.cells #[.int .i64 due, .int .i64 kd] 53))
          have hbs9 : w3.heap.size ≤ (wj.alloc (.cells #[.int .i64 due, .int .i64 kd] 53)).heap.size := HBA9.out.size
          have hfl : lo.length ≤ 1000000000000 := by rw [HL.out]; omega
          go_wp2_with (first | (at_builtin; refine wpList_app1 (E := encT) rfl slU (.tmp 80) (.tmp 84) rfl (B := w3.heap.size) (v := .slice A m' c) (l := lo) HOA9.out rfl (ad := ⟨wj.heap.size, 0, none⟩) (c := 1) (due, kd) rfl HRD9.out hfl (by omega) hbs9 ?_; intro A9 c9 w9 ho9 hg9 he9; have HO9 := hid ho9; have HB9 := hid (HBA9.out.grown hg9 hbs9 (fun g e => (World.ownsRow.lt HOA9.out g e).1)); have cq9 := HX.out w9 (HB3.out.trans (HB9.out.mono HB3.out.size)); have fq9 := HF.out w9 (HB3.out.trans (HB9.out.mono HB3.out.size)); clear ho9 hg9 he9) | go_in)
          go_wp2_with fail
          go_ret
          have hfin := HP.out w9 A9 (lo.length + 1) c9 _ (HB3.out.trans (HB9.out.mono HB3.out.size)) (ownBase HO9.out HLT0.out) (by rw [List.length_append]; rfl)
          rw [HST.out, ← HD.out]
          exact ⟨rfl, hfin⟩
end Go.Proofs.Ytphajbdkaikmpaa.Sh
