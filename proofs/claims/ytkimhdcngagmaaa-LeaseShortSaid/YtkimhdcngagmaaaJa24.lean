/-
  slices.SortStableFunc at credentials, and the program's own Sorted, by contract.
-/
import Derived.Test.YtkimhdcngagmaaaJa18
import Derived.Test.YtkimhdcngagmaaaJa23
set_option linter.unusedVariables false
set_option linter.unusedSimpArgs false
namespace Go.Proofs.Ytkimhdcngagmaaa.Sh
open Go Go.RowKit

/-- Blocks of z sorted: the first K; from the K-th on. -/
def Done (z K : Nat) (l : List Crd) : Prop := ∀ k, k < K → Srt (k * z) (k * z + z) l
def Rest (z K : Nat) (l : List Crd) : Prop := ∀ k, K ≤ k → Srt (k * z) (k * z + z) l
theorem blk_le {z k K : Nat} (h : k < K) : k * z + z ≤ K * z := by
  have := Nat.mul_le_mul_right z (show k + 1 ≤ K from h)
  rwa [Nat.succ_mul] at this
theorem done_zero (z : Nat) (l : List Crd) : Done z 0 l := fun k hk => absurd hk (by omega)
theorem done_step {z K a b : Nat} {l l' : List Crd} (h : Done z K l) (ha : K * z = a) (hb : a + z = b) (hm : Mix a b l l') (hs : Srt a b l') : Done z (K + 1) l' := fun k hk => by
  rcases Nat.lt_or_ge k K with hlt | hge
  · exact (h k hlt).out hm (.inl (by have := blk_le (z := z) hlt; omega))
  · obtain rfl : k = K := by omega
    rw [ha, hb]; exact hs
theorem rest_step {z K a b : Nat} {l l' : List Crd} (h : Rest z (2 * K) l) (ha : K * (2 * z) = a) (hb : a + 2 * z = b) (hm : Mix a b l l') : Rest z (2 * (K + 1)) l' := fun k hk => by
  refine (h k (by omega)).out hm (.inr ?_)
  have h1 : (2 * (K + 1)) * z ≤ k * z := Nat.mul_le_mul_right z hk
  have h2 : (2 * (K + 1)) * z = K * (2 * z) + 2 * z := by
    rw [show 2 * (K + 1) = 2 * K + 2 by omega, Nat.add_mul, Nat.mul_comm 2 K, Nat.mul_assoc]
  omega
theorem rest_two {z K a : Nat} {l : List Crd} (h : Rest z (2 * K) l) (ha : K * (2 * z) = a) : Srt a (a + z) l ∧ Srt (a + z) (a + z + z) l := by
  have e1 : (2 * K) * z = a := by rw [← ha, Nat.mul_comm 2 K, Nat.mul_assoc]
  have e2 : (2 * K + 1) * z = a + z := by rw [Nat.add_mul, e1, Nat.one_mul]
  have h1 := h (2 * K) (Nat.le_refl _)
  have h2 := h (2 * K + 1) (by omega)
  rw [e1] at h1
  rw [e2] at h2
  exact ⟨h1, h2⟩
theorem Srt.past {a b : Nat} {l : List Crd} (h : l.length ≤ a) : Srt a b l := fun i j x y h1 _ _ hx _ => by
  have := (List.getElem?_eq_some_iff.1 hx).1; omega
theorem Srt.upto {a b n : Nat} {l : List Crd} (hn : l.length = n) (h : Srt a n l) : Srt a b l := fun i j x y h1 h2 h3 hx hy => by
  have := (List.getElem?_eq_some_iff.1 hy).1
  exact h i j x y h1 h2 (by omega) hx hy
/-- All blocks are sorted when the last, short one is. -/
theorem rest_all {z K a n : Nat} {l : List Crd} (hn : l.length = n) (h : Done z K l) (ha : K * z = a) (hb : n < a + z) (hs : Srt a n l) : Rest z 0 l := fun k _ => by
  rcases Nat.lt_trichotomy k K with hlt | rfl | hgt
  · exact h k hlt
  · rw [ha]; exact hs.upto hn
  · refine Srt.past ?_
    have := blk_le (z := z) hgt
    omega
theorem rest_last {z K a n : Nat} {l : List Crd} (h : Rest z (2 * K) l) (ha : K * (2 * z) = a) (hb : n ≤ a + z) : Srt a n l := fun i j x y h1 h2 h3 hx hy =>
  (rest_two h ha).1 i j x y h1 h2 (by omega) hx hy

theorem insertion_nil (v cv : Value) (w : World) : Calls Try.prog 65 #[v, .int .i64 0, .int .i64 0, cv] w fun e w' => e = .returned (.tuple #[]) ∧ w = w' := by
  go_enter Try.func65, Try.ntmps65
  go_wp2
  refine wp_loop_rounds 1 ?_
  rw [rounds_succ]
  go_wp2
  go_end0
  exact ⟨rfl, rfl⟩
theorem stable_nil (v cv : Value) (w : World) : Calls Try.prog 63 #[v, .int .i64 0, cv] w fun e w' => e = .returned (.tuple #[]) ∧ w = w' := by
  go_enter Try.func63, Try.ntmps63
  go_wp2
  refine wp_loop_rounds 1 ?_
  rw [rounds_succ]
  go_wp2_with fail
  refine (insertion_nil _ _ _).mono ?_
  rintro er w2 ⟨rfl, rfl⟩
  go_wp2
  refine wp_loop_rounds 1 ?_
  rw [rounds_succ]
  go_wp2
  go_end0
  exact ⟨rfl, rfl⟩

set_option maxRecDepth 100000 in
set_option maxHeartbeats 16000000 in
theorem stable_any {w0 w : World} {B g C : Nat} {tl : List Value} (l : List Crd) (N : Nat) (hN : l.length = N) (hNm : N ≤ 100000000) (h : Rw w0 w B g tl l) :
    Calls Try.prog 63 #[.slice (some ⟨g, 0, none⟩) N C, .int .i64 N, .func (.func 56) #[] #[]] w fun e w' => e = .returned (.tuple #[]) ∧ ∃ l', Rw w0 w' B g tl l' ∧ Mix 0 N l l' ∧ Srt 0 N l' := by
  have HN := hid hN
  have HR := hid h
  have HINS : Hid (∀ (W : World) (cur : List Crd) (a b : Nat), cur.length = N → a ≤ b → b ≤ N → Rw w0 W B g tl cur → Calls Try.prog 65 #[.slice (some ⟨g, 0, none⟩) N C, .int .i64 (a : Int), .int .i64 (b : Int), .func (.func 56) #[] #[]] W fun e w' => e = .returned (.tuple #[]) ∧ ∃ l', Rw w0 w' B g tl l' ∧ Mix a b cur l' ∧ Srt a b l') := hid (fun W cur a b h1 h2 h3 h4 => insertion_any cur N a b h1 (by omega) h2 h3 h4)
  have HMER : Hid (∀ (W : World) (cur : List Crd) (a m b : Nat), cur.length = N → a < m → m < b → b ≤ N → Rw w0 W B g tl cur → Srt a m cur → Srt m b cur → Calls Try.prog 66 #[.slice (some ⟨g, 0, none⟩) N C, .int .i64 (a : Int), .int .i64 (m : Int), .int .i64 (b : Int), .func (.func 56) #[] #[]] W fun e w' => e = .returned (.tuple #[]) ∧ ∃ l', Rw w0 w' B g tl l' ∧ Mix a b cur l' ∧ Srt a b l') := hid (fun W cur a m b h1 h2 h3 h4 h5 h6 h7 => symMerge_any (C := C) (by omega) (b - a) W cur a m b (Nat.le_refl _) h2 h3 h4 h1 h5 h6 h7)
  clear hN h
  go_enter Try.func63, Try.ntmps63
  go_wp2
  go_loopw [7, 8] (fun va vb wr => ∃ (K a b : Nat) (cur : List Crd), va = .int .i64 a ∧ vb = .int .i64 b ∧ a ≤ N ∧ b ≤ 200000000 ∧ Hid (K * 20 = a) ∧ Hid (a + 20 = b) ∧ Rw w0 wr B g tl cur ∧ Hid (Mix 0 N l cur) ∧ Hid (Done 20 K cur)) (fun _ vb _ => N + 20 - (intOf vb).toNat)
  case atStart => exact ⟨0, 0, 20, l, rfl, rfl, Nat.zero_le _, by omega, hid rfl, hid rfl, HR.out, hid (Mix.refl _ _ _), hid (done_zero _ _)⟩
  case round =>
    obtain ⟨K, a, b, cur, rfl, rfl, haN, hb2, HA, HB, R, HM, HD⟩ := hrel
    have hab : a ≤ b := by have := HB.out; omega
    by_cases hle : b ≤ N
    · have hle' : (b : Int) ≤ (N : Int) := by omega
      have HRR := hid R
      clear R
      go_wp2_with fail
      refine (HINS.out _ cur a b (by rw [HM.out.len, HN.out]) hab hle HRR.out).mono ?_
      rintro er w2 ⟨rfl, c2, R2, m2, s2⟩
      have HM2 : Hid (Mix 0 N l c2) := hid (HM.out.trans (m2.wide (Nat.zero_le _) hle))
      have HD2 : Hid (Done 20 (K + 1) c2) := hid (done_step HD.out HA.out HB.out m2 s2)
      have HA2 : Hid ((K + 1) * 20 = b) := hid (by have := HA.out; have := HB.out; omega)
      clear m2 s2
      go_wp2
      go_roundw
      case rel => exact ⟨K + 1, b, b + 20, c2, rfl, by go_num, hle, by omega, HA2, hid rfl, R2, HM2, HD2⟩
      case measure => simp [intOf]; omega
    · have hle' : ¬ (b : Int) ≤ (N : Int) := by omega
      have HRR := hid R
      clear R
      go_wp2_with fail
      refine (HINS.out _ cur a N (by rw [HM.out.len, HN.out]) haN (Nat.le_refl _) HRR.out).mono ?_
      rintro er w2 ⟨rfl, c2, R2, m2, s2⟩
      have HM2 : Hid (Mix 0 N l c2) := hid (HM.out.trans (m2.wide (Nat.zero_le _) (Nat.le_refl _)))
      have HD2 : Hid (Rest 20 0 c2) := hid (by
        have hd := done_step HD.out HA.out HB.out (m2.wide (Nat.le_refl _) (show N ≤ b by omega)) (s2.upto (by rw [m2.len, HM.out.len, HN.out]))
        have hl : c2.length = N := by rw [m2.len, HM.out.len, HN.out]
        exact rest_all hl (fun k hk => hd k (by omega)) HA.out (by have := HB.out; omega) s2)
      have HR2 := hid R2
      clear m2 s2 R2
      go_wp2
      go_loopw [6] (fun vz wo => ∃ (z : Nat) (c : List Crd), vz = .int .i64 z ∧ 1 ≤ z ∧ z ≤ 400000000 ∧ Rw w0 wo B g tl c ∧ Hid (Mix 0 N l c) ∧ Hid (Rest z 0 c)) (fun vz _ => N - (intOf vz).toNat)
      case atStart => exact ⟨20, c2, rfl, by omega, by omega, HR2.out, HM2, HD2⟩
      case round =>
        clear HR2 HM2 HD2 HM HD HA HB HRR hab
        obtain ⟨z, c, rfl, hz1, hz2, R, HM, HD⟩ := hrel
        by_cases hlt : z < N
        · have hlt' : (z : Int) < (N : Int) := by omega
          obtain ⟨y, hy⟩ : ∃ y, 2 * z = y := ⟨_, rfl⟩
          have hy' : 2 * (z : Int) = (y : Int) := by omega
          have hy2 : (z : Int) * 2 = (y : Int) := by omega
          have hyi : (y : Int) ≤ 400000000 := by omega
          have hzi : (z : Int) ≤ 400000000 := by omega
          have HY := hid hy
          have HRo := hid R
          have HD0 : Hid (Rest z (2 * 0) c) := hid HD.out
          obtain ⟨wo, hwo⟩ : ∃ x, x = wr := ⟨_, rfl⟩
          subst hwo
          clear R hy
          go_wp2
          go_loopw [7, 8] (fun va vb wi => ∃ (K a b : Nat) (cur : List Crd), va = .int .i64 a ∧ vb = .int .i64 b ∧ a ≤ N ∧ Hid (K * y = a) ∧ Hid (a + y = b) ∧ Rw w0 wi B g tl cur ∧ Hid (Mix 0 N l cur) ∧ Hid (Done y K cur) ∧ Hid (Rest z (2 * K) cur)) (fun _ vb _ => N + y - (intOf vb).toNat)
          case atStart => exact ⟨0, 0, y, c, rfl, by first | rfl | rw [hy'] | simp [hy'], Nat.zero_le _, hid (Nat.zero_mul _), hid (Nat.zero_add _), HRo.out, HM, hid (done_zero _ _), HD0⟩
          case round =>
            clear HM HD HD0 HRo
            obtain ⟨K, a, b, cur, rfl, rfl, haN, HA, HB, R, HM, HD, HE⟩ := hrel
            have hcl : cur.length = N := by rw [HM.out.len, HN.out]
            have hAz : K * (2 * z) = a := by rw [HY.out]; exact HA.out
            obtain ⟨t1, t2⟩ := rest_two HE.out hAz
            have hbi : (b : Int) ≤ 600000000 := by have := HB.out; omega
            have hai : (a : Int) ≤ 100000000 := by omega
            obtain ⟨m, hm⟩ : ∃ m, a + z = m := ⟨_, rfl⟩
            have hm' : (a : Int) + (z : Int) = (m : Int) := by omega
            have hmb : m + z = b := by have := HB.out; have := HY.out; omega
            rw [hm] at t1 t2
            rw [hmb] at t2
            have HT1 := hid t1
            have HT2 := hid t2
            have HMM := hid hm
            have HMB := hid hmb
            have HAZ := hid hAz
            have HRR := hid R
            have HCL := hid hcl
            clear t1 t2 hm hmb hAz R hcl
            by_cases hle : b ≤ N
            · have hle' : (b : Int) ≤ (N : Int) := by omega
              go_wp2_with fail
              refine (HMER.out _ cur a m b HCL.out (by have := HMM.out; omega) (by have := HMB.out; omega) hle HRR.out HT1.out HT2.out).mono ?_
              rintro er w2 ⟨rfl, c2, R2, m2, s2⟩
              have HM2 : Hid (Mix 0 N l c2) := hid (HM.out.trans (m2.wide (Nat.zero_le _) hle))
              have HD2 : Hid (Done y (K + 1) c2) := hid (done_step HD.out HA.out HB.out m2 s2)
              have HE2 : Hid (Rest z (2 * (K + 1)) c2) := hid (rest_step HE.out HAZ.out (by rw [HY.out]; exact HB.out) m2)
              have HA2 : Hid ((K + 1) * y = b) := hid (by rw [Nat.add_mul, Nat.one_mul, HA.out]; exact HB.out)
              obtain ⟨b2, hb2⟩ : ∃ b2, b + y = b2 := ⟨_, rfl⟩
              have hby : (b : Int) + (y : Int) = (b2 : Int) := by omega
              have HB2 := hid hb2
              clear m2 s2 hb2
              go_wp2
              go_roundw
              case rel => exact ⟨K + 1, b, b2, c2, rfl, by first | rfl | rw [hby] | simp [hby], hle, HA2, HB2, R2, HM2, HD2, HE2⟩
              case measure => simp [intOf]; have := HY.out; have := HB2.out; omega
            · have hle' : ¬ (b : Int) ≤ (N : Int) := by omega
              by_cases hmn : m < N
              · have hmn' : (m : Int) < (N : Int) := by omega
                go_wp2_with fail
                refine (HMER.out _ cur a m N HCL.out (by have := HMM.out; omega) hmn (Nat.le_refl _) HRR.out HT1.out (HT2.out.less (Nat.le_refl _) (by omega))).mono ?_
                rintro er w2 ⟨rfl, c2, R2, m2, s2⟩
                have HM2 : Hid (Mix 0 N l c2) := hid (HM.out.trans (m2.wide (Nat.zero_le _) (Nat.le_refl _)))
                have HE2 : Hid (Rest y 0 c2) := hid (by
                  have hl : c2.length = N := by rw [m2.len, HCL.out]
                  refine rest_all hl (fun k hk => (HD.out k hk).out m2 (.inl ?_)) HA.out (by have := HB.out; omega) s2
                  have := blk_le (z := y) hk
                  have := HA.out
                  omega)
                clear m2 s2
                go_wp2
                go_roundw
                case rel => exact ⟨y, c2, by first | rfl | rw [hy2] | simp [hy2], by have := HY.out; omega, by omega, R2, HM2, HE2⟩
                case measure => simp [intOf]; have := HY.out; omega
              · have hmn' : ¬ (m : Int) < (N : Int) := by omega
                have HE2 : Hid (Rest y 0 cur) := hid (rest_all HCL.out HD.out HA.out (by have := HB.out; omega) (rest_last HE.out HAZ.out (by have := HMM.out; omega)))
                go_wp2
                go_roundw
                case rel => exact ⟨y, cur, by first | rfl | rw [hy2] | simp [hy2], by have := HY.out; omega, by omega, HRR.out, HM, HE2⟩
                case measure => simp [intOf]; have := HY.out; omega
        · have hlt' : ¬ (z : Int) < (N : Int) := by omega
          have HS : Hid (Srt 0 N c) := hid (by
            have := HD.out 0 (Nat.le_refl _)
            rw [Nat.zero_mul, Nat.zero_add] at this
            exact this.less (Nat.le_refl _) (by omega))
          go_wp2
          go_end0
          exact ⟨rfl, c, R, HM.out, HS.out⟩
theorem sortStable_any {w0 w : World} {B g C : Nat} {tl : List Value} (l : List Crd) (N : Nat) (hN : l.length = N) (hNm : N ≤ 100000000) (h : Rw w0 w B g tl l) :
    Calls Try.prog 55 #[.slice (some ⟨g, 0, none⟩) N C, .func (.func 56) #[] #[]] w fun e w' => e = .returned (.tuple #[]) ∧ ∃ l', Rw w0 w' B g tl l' ∧ Mix 0 N l l' ∧ Srt 0 N l' := by
  have HC := hid (stable_any (C := C) l N hN hNm h)
  clear hN h
  go_enter Try.func55, Try.ntmps55
  go_wp2_with fail
  refine HC.out.mono ?_
  rintro er w2 ⟨rfl, h2⟩
  go_wp2
  go_end0
  exact ⟨rfl, h2⟩
theorem sortStable_nil (A : Option Addr) (C : Nat) (cv : Value) (w : World) :
    Calls Try.prog 55 #[.slice A 0 C, cv] w fun e w' => e = .returned (.tuple #[]) ∧ w = w' := by
  go_enter Try.func55, Try.ntmps55
  go_wp2_with fail
  refine (stable_nil _ _ _).mono ?_
  rintro er w2 ⟨rfl, rfl⟩
  go_wp2
  go_end0
  exact ⟨rfl, rfl⟩

/-- What is owned, as a row; and back. -/
theorem OwnC.row {w : World} {B n c : Nat} {A : Option Addr} {l : List Crd} (h : OwnC w B (.slice A n c) n l) (hn : 0 < n) : ∃ g tl, A = some ⟨g, 0, none⟩ ∧ B ≤ g ∧ RowL w g tl l ∧ ∀ W l', RowL W g tl l' → l'.length = l.length → OwnC W B (.slice A n c) n l' := by
  have hl := h.len
  rcases h.2 with ⟨_, h0⟩ | ⟨g, cap, cur, hv, hb, hg, hc, hm, hs, ht⟩
  · omega
  · simp only [Value.slice.injEq, true_and] at hv
    obtain ⟨rfl, rfl⟩ := hv
    have e : cur = (cv l ++ cur.toList.drop (n * 9)).toArray := by
      rw [← ht, List.take_append_drop]
    refine ⟨g, cur.toList.drop (n * 9), rfl, hb, ?_, fun W l' hr hll => ?_⟩
    · show w.heap[g]? = _
      rw [← e]; exact hg
    · refine ⟨by rw [cv_length]; omega, .inr ⟨g, c, _, rfl, hb, hr, hc, hm, ?_, ?_⟩⟩
      · have := congrArg Array.size e
        rw [← hs, this]
        simp only [List.size_toArray, List.length_append, cv_length, hll]
      · rw [List.take_append_of_le_length (by rw [cv_length]; omega), List.take_of_length_le (by rw [cv_length]; omega)]

set_option maxHeartbeats 2000000 in
theorem sorted_any (A : Option Addr) (all : List Crd) (n c : Nat) (hn : all.length = n) (hc : n ≤ c) (_hc2 : c ≤ 9223372036854775807) (hm : n ≤ 100000000) (w : World) (h : Crs w w.heap.size A all) :
    Calls Try.prog 46 #[.slice A n c] w fun e w' => ∃ A' c' out, e = .returned (.slice A' n c') ∧ OwnC w' w.heap.size (.slice A' n c') n out ∧ SortOf out all ∧ Below w.heap.size w w' := by
  have HN := hid hn
  have hr := h.reads
  have Q1 : Hid (0 + n ≤ 1000000000000) := hid (by omega)
  have Q2 : Hid (0 + n = n) := hid (by omega)
  clear hn h
  go_enter Try.func46, Try.ntmps46
  go_wp2_with (at_builtin; refine wpList_appC rfl _ (.tmp 4) rfl w.heap.size (.slice none 0 0) 0 [] (OwnC.nil _ _) rfl A n c all rfl HN.out hr Q1.out (Nat.le_refl _) w (Below.refl _ _) n Q2.out ?_; intro A2 c2 w2 o2 _ b2 _; have HO2 := hid o2; have HB2 := hid b2; clear o2 b2)
  by_cases h0 : n = 0
  · subst h0
    go_wp2_with fail
    refine (sortStable_nil _ _ _ _).mono ?_
    rintro er w3 ⟨rfl, rfl⟩
    go_wp2
    go_ret
    have hnil : all = [] := List.eq_nil_of_length_eq_zero HN.out
    subst hnil
    exact ⟨_, _, [], rfl, HO2.out, ⟨List.Pairwise.nil, fun _ _ => rfl⟩, HB2.out⟩
  · obtain ⟨g, tl, rfl, hg, hrow, hback⟩ := HO2.out.row (by omega)
    have HW : Hid (Rw w w2 w.heap.size g tl all) := hid ⟨by simpa using hrow, HB2.out, hg⟩
    have HBK := hid hback
    have HC := hid (sortStable_any (C := c2) all n HN.out hm HW.out)
    clear hrow hback
    go_wp2_with fail
    refine HC.out.mono ?_
    rintro er w3 ⟨rfl, l', R3, m3, s3⟩
    have HR3 := hid R3
    have HM3 := hid m3
    have HS3 := hid s3
    clear R3 m3 s3
    go_wp2
    go_ret
    refine ⟨_, _, l', rfl, HBK.out _ _ HR3.out.row (by rw [HM3.out.len]; simp), ?_, HR3.out.bel⟩
    have hs := HS3.out
    have hmx := HM3.out
    rw [← HN.out] at hs hmx
    exact hmx.sorts hs
end Go.Proofs.Ytkimhdcngagmaaa.Sh
