/-
  The document's set: in, Has, Row, Begins, may, by contract.
-/
import Derived.Test.YtifoppnpgljphaaReMem
import Derived.Test.YtifoppnpgljphaaVeRef2
namespace Go.Proofs.Ytifoppnpgljphaa.Sh
open Go Go.RowKit

set_option linter.unusedSimpArgs false
set_option linter.unusedVariables false
theorem in11_any (A : Option Addr) (l : List Int) (n c : Nat) (z : Int) (hn : l.length = n) (hm : n ≤ 1099511627776) (w : World) (h : Els encN w w.heap.size A l) :
    Calls Try.prog 34 #[.slice A n c, .int .i64 z] w fun e w' => e = .returned (.bool (decide (z ∈ l))) ∧ w = w' := by
  have HN := hid hn
  have HX := hid h
  clear h hn
  go_enter Try.func34, Try.ntmps34
  go_wp2_with fail
  go_loopw [5] (fun i wr => ∃ k : Nat, k ≤ n ∧ i = .int .i64 (k : Int) ∧ Hid (z ∉ l.take k) ∧ wr = w) (fun i _ => n - (intOf i).toNat)
  case atStart => exact ⟨0, Nat.zero_le _, rfl, hid (by simp), rfl⟩
  case round =>
    obtain ⟨k, hk, rfl, HP, hw⟩ := hrel
    have hw2 : w = wr := hw.symm
    subst hw2
    have hk0 : (0 : Int) ≤ (k : Int) := Int.natCast_nonneg _
    by_cases hlt : k < n
    · obtain ⟨x, hx⟩ : ∃ x, l[k]? = some x := ⟨_, List.getElem?_eq_getElem (by rw [HN.out]; exact hlt)⟩
      obtain ⟨ad, rfl, hab, ha⟩ := HX.out.num hx
      have HXX := hid hx
      have hk1 : (k : Int) < (n : Int) := by omega
      clear hx hab hw
      by_cases he : x = z
      · subst he
        have HE : Hid (decide (x ∈ l) = true) := hid (decide_eq_true (List.mem_of_getElem? HXX.out))
        go_wp2_with fail
        go_ret
        exact ⟨by rw [HE.out]; rfl, rfl⟩
      · have h1 : (x == z) = false := beq_eq_false_iff_ne.2 he
        have HT : Hid (z ∉ l.take (k + 1)) := hid (by
          rw [take_snoc_of HXX.out, List.mem_append, not_or]
          exact ⟨HP.out, by simpa using fun e : z = x => he e.symm⟩)
        go_wp2_with fail
        go_roundw
        case rel => exact ⟨k + 1, by omega, by go_num, HT, by first | rfl | trivial⟩
        case measure => simp [intOf]; omega
    · obtain rfl : k = n := by omega
      have HE : Hid (decide (z ∈ l) = false) := hid (decide_eq_false (by have := HP.out; rwa [List.take_of_length_le (by rw [HN.out]; exact Nat.le_refl _)] at this))
      go_wp2_with fail
      go_ret
      exact ⟨by rw [HE.out]; rfl, rfl⟩
theorem hasS_far {S : Nat → List Int} {d q : Int} (h : d < 1 ∨ 16 < d) : ¬ hasS S d q := fun ⟨a, b, _⟩ => by omega
theorem hasS_at {S : Nat → List Int} {k : Nat} {q : Int} (hk : k < 16) : hasS S ((k : Int) + 1) q ↔ q ∈ S k := by
  unfold hasS
  rw [show ((k : Int) + 1 - 1).toNat = k by omega]
  constructor
  · exact fun h => h.2.2
  · exact fun h => ⟨by omega, by omega, h⟩
open Classical in
set_option maxHeartbeats 2000000 in
theorem refHas11_any {w : World} {P : Nat → Prop} {g gL : Nat} {S : Nat → List Int} (h : SetR w P g gL S) (d q : Int) :
    Calls Try.prog 13 #[.pointer (some ⟨g, 0, none⟩), .agg #[.int .i64 d, .int .i64 q]] w fun e w' => e = .returned (.bool (decide (hasS S d q))) ∧ Below w.heap.size w w' := by
  have HB := hid ((Below.refl w.heap.size w).alloc (Nat.le_refl _) (.cells #[.int .i64 d, .int .i64 q] 29))
  have HD : Hid (∀ k, Below w.heap.size w ((w.alloc (.cells #[.int .i64 d, .int .i64 q] 29)).drewN k)) := hid (fun k => below_drewN HB.out k)
  by_cases h1 : d < 1
  · have HE : Hid (decide (hasS S d q) = false) := hid (decide_eq_false (hasS_far (.inl h1)))
    have h1' : ¬ (1 : Int) ≤ d := by omega
    have hd : decide ((1 : Int) ≤ d) = false := decide_eq_false h1'
    clear h
    go_enter Try.func13, Try.ntmps13
    go_wp2_with fail
    go_quiet (fail)
    go_wp2_with fail
    go_ret
    exact ⟨by rw [HE.out]; rfl, HD.out _⟩
  by_cases h2 : 16 < d
  · have HE : Hid (decide (hasS S d q) = false) := hid (decide_eq_false (hasS_far (.inr h2)))
    have h1' : (1 : Int) ≤ d := by omega
    have h2' : ¬ d ≤ (16 : Int) := by omega
    have hd : decide (d ≤ (16 : Int)) = false := decide_eq_false h2'
    clear h
    go_enter Try.func13, Try.ntmps13
    go_wp2_with fail
    go_quiet (fail)
    go_wp2_with fail
    go_ret
    exact ⟨by rw [HE.out]; rfl, HD.out _⟩
  obtain ⟨k, hk⟩ : ∃ k : Nat, d = (k : Int) + 1 := ⟨(d - 1).toNat, by omega⟩
  subst hk
  have hk16 : k < 16 := by omega
  have hB := (Below.refl w.heap.size w).alloc (Nat.le_refl _) (.cells #[.int .i64 ((k : Int) + 1), .int .i64 q] 29)
  obtain ⟨c, n, kc, A, hc1, hc2, ha, hb, r⟩ := (h.below hB).at hk16
  have HI := hid (fun j => in11_any A (S k) n kc q r.len (by have := (h.ok k).len; have := r.len; simp only at this; omega) ((w.alloc (.cells #[.int .i64 ((k : Int) + 1), .int .i64 q] 29)).drewN j) r.els)
  have HE : Hid (decide (hasS S ((k : Int) + 1) q) = decide (q ∈ S k)) := hid (decide_eq_decide.2 (hasS_at hk16))
  have h1' : (1 : Int) ≤ (k : Int) + 1 := by omega
  have h2' : (k : Int) + 1 ≤ (16 : Int) := by omega
  have e1 : (k : Int) + 1 - 1 = (k : Int) := by omega
  have hk0 : (0 : Int) ≤ (k : Int) := Int.natCast_nonneg _
  have hk1 : (k : Int) < 16 := by omega
  obtain ⟨b, hbb⟩ : ∃ b, decide (q ∈ S k) = b := ⟨_, rfl⟩
  have hbb' : @decide (q ∈ S k) (List.instDecidableMemOfLawfulBEq q (S k)) = b := by rw [← hbb]
  rw [hbb] at HE
  rw [hbb'] at HI
  clear h r hbb hbb' h1 h2
  go_enter Try.func13, Try.ntmps13
  go_wp2_with fail
  go_quiet ((go_at_call 34; with_reducible exact quiet_left (HI.out _)))
  go_wp2_with fail
  go_ret
  exact ⟨by rw [HE.out]; rfl, HD.out _⟩
end Go.Proofs.Ytifoppnpgljphaa.Sh
