/-
  The document's set: Row, Begins, may, SameRows, by contract.
-/
import Derived.Test.YtifoppnpgljphaaReRef1
namespace Go.Proofs.Ytifoppnpgljphaa.Sh
open Go Go.RowKit

set_option linter.unusedSimpArgs false
set_option linter.unusedVariables false
/-- The row of a domain, or none. -/
def rowS (S : Nat → List Int) (d : Int) : List Int := if d < 1 ∨ 16 < d then [] else S (d - 1).toNat
theorem rowS_far {S : Nat → List Int} {d : Int} (h : d < 1 ∨ 16 < d) : rowS S d = [] := if_pos h
theorem rowS_at {S : Nat → List Int} {k : Nat} (hk : k < 16) : rowS S ((k : Int) + 1) = S k := by
  unfold rowS; rw [if_neg (by omega)]; congr 1; omega
theorem rowS_ok {S : Nat → List Int} (h : OkS S) (d : Int) : OkR (rowS S d) := by
  unfold rowS; split
  · exact OkR.nil
  · exact h _
theorem refRow11_any {w : World} {P : Nat → Prop} {g gL : Nat} {S : Nat → List Int} (h : SetR w P g gL S) (d : Int) :
    Calls Try.prog 30 #[.pointer (some ⟨g, 0, none⟩), .int .i64 d] w fun e w' => ∃ (A : Option Addr) (n c : Nat), e = .returned (.slice A n c) ∧ RowAt w P ⟨A, n, c⟩ (rowS S d) ∧ w = w' := by
  by_cases h1 : d < 1
  · have HE : Hid (RowAt w P ⟨none, 0, 0⟩ (rowS S d)) := hid (by rw [rowS_far (.inl h1)]; exact RowAt.nil _ _)
    clear h
    go_enter Try.func30, Try.ntmps30
    go_wp2_with fail
    go_ret
    exact ⟨_, _, _, rfl, HE.out, rfl⟩
  by_cases h2 : 16 < d
  · have HE : Hid (RowAt w P ⟨none, 0, 0⟩ (rowS S d)) := hid (by rw [rowS_far (.inr h2)]; exact RowAt.nil _ _)
    clear h
    go_enter Try.func30, Try.ntmps30
    go_wp2_with fail
    go_ret
    exact ⟨_, _, _, rfl, HE.out, rfl⟩
  obtain ⟨k, hk⟩ : ∃ k : Nat, d = (k : Int) + 1 := ⟨(d - 1).toNat, by omega⟩
  subst hk
  have hk16 : k < 16 := by omega
  obtain ⟨c, n, kc, A, hc1, hc2, ha, hb, r⟩ := h.at hk16
  have HE : Hid (RowAt w P ⟨A, n, kc⟩ (rowS S ((k : Int) + 1))) := hid (by rw [rowS_at hk16]; exact r)
  have e1 : (k : Int) + 1 - 1 = (k : Int) := by omega
  have hk0 : (0 : Int) ≤ (k : Int) := Int.natCast_nonneg _
  have hk1 : (k : Int) < 16 := by omega
  clear h r
  go_enter Try.func30, Try.ntmps30
  go_wp2_with fail
  go_ret
  exact ⟨_, _, _, rfl, HE.out, rfl⟩
theorem begins11_any (A B : Option Addr) (xs ys : List Int) (n m c d : Nat) (hn : xs.length = n) (hm : ys.length = m) (hc : n ≤ c) (hcm : c ≤ 9223372036854775807) (hs : n ≤ 1099511627776) (hs2 : m ≤ 1099511627776) (w : World) (h : Els encN w w.heap.size A xs) (h' : Els encN w w.heap.size B ys) :
    Calls Try.prog 22 #[.slice A n c, .slice B m d] w fun e w' => e = .returned (.bool (decide (ys <+: xs))) ∧ ∃ k, w' = w.drewN k := by
  by_cases hle : m ≤ n
  · have HS := hid (sameN_any A B (xs.take m) ys m m c d (by rw [List.length_take]; omega) hm (by omega) hs2 w h.head h')
    have HE : Hid (decide (ys <+: xs) = decide (xs.take m = ys)) := hid (decide_eq_decide.2 ⟨fun hp => by rw [List.prefix_iff_eq_take] at hp; rw [hp, hm], fun e => by rw [← e]; exact List.take_prefix _ _⟩)
    have h1 : (m : Int) ≤ (n : Int) := by omega
    have h2 : (0 : Int) ≤ (m : Int) := Int.natCast_nonneg _
    have h3 : (m : Int) ≤ (c : Int) := by omega
    clear h h' hn hm
    go_enter Try.func22, Try.ntmps22
    go_wp2_with fail
    refine HS.out.mono ?_
    rintro er w1 ⟨rfl, hw⟩
    go_wp2_with fail
    go_ret
    exact ⟨by rw [HE.out]; rfl, hw⟩
  · have HE : Hid (decide (ys <+: xs) = false) := hid (decide_eq_false fun hp => by have := hp.length_le; omega)
    have h1 : ¬ (m : Int) ≤ (n : Int) := by omega
    clear h h' hn hm
    go_enter Try.func22, Try.ntmps22
    go_wp2_with fail
    go_ret
    exact ⟨by rw [HE.out]; rfl, 0, rfl⟩
open Classical in
set_option maxHeartbeats 2000000 in
theorem may11_any (A : Option Addr) (l : List Int) (n c : Nat) (hn : l.length = n) (hc : n ≤ c) (hcm : c ≤ 9223372036854775807) (hm : n ≤ 1099511627776) (w : World) (h : Els encN w w.heap.size A l) :
    Calls Try.prog 41 #[.slice A n c] w fun e w' => e = .returned (.bool (decide (OkR l))) ∧ ∃ k, w' = w.drewN k := by
  have HN := hid hn
  by_cases h32 : 32 < n
  · have HE : Hid (decide (OkR l) = false) := hid (decide_eq_false fun hp => by have := hp.len; omega)
    have h1 : (32 : Int) < (n : Int) := by omega
    clear h hn
    go_enter Try.func41, Try.ntmps41
    go_wp2_with fail
    go_ret
    exact ⟨by rw [HE.out]; rfl, 0, rfl⟩
  have h1 : ¬ (32 : Int) < (n : Int) := by omega
  have HX := hid (fun W (hW : Below w.heap.size w W) => (h.below hW).more hW.size)
  clear h hn
  go_enter Try.func41, Try.ntmps41
  go_wp2_with fail
  go_loopw [3] (fun i wr => ∃ k : Nat, k ≤ n ∧ i = .int .i64 (k : Int) ∧ Hid (OkR (l.take k)) ∧ Hid (∃ q, wr = w.drewN q)) (fun i _ => n - (intOf i).toNat)
  case atStart => exact ⟨0, Nat.zero_le _, rfl, hid OkR.nil, hid ⟨0, rfl⟩⟩
  case round =>
    obtain ⟨k, hk, rfl, HP, hw⟩ := hrel
    have hwr : Below w.heap.size w wr := by obtain ⟨q, rfl⟩ := hw.out; exact below_drewN (Below.refl _ _) q
    have hk0 : (0 : Int) ≤ (k : Int) := Int.natCast_nonneg _
    by_cases hlt : k < n
    · obtain ⟨x, hx⟩ : ∃ x, l[k]? = some x := ⟨_, List.getElem?_eq_getElem (by rw [HN.out]; exact hlt)⟩
      obtain ⟨ad, rfl, hab, ha⟩ := (HX.out _ hwr).num hx
      have HXX := hid hx
      have hk1 : (k : Int) < (n : Int) := by omega
      have hk2 : (k : Int) ≤ (c : Int) := by omega
      have hkt : (l.take k).length = k := by rw [List.length_take, HN.out]; omega
      have HI := hid (fun j => in11_any (some ad) (l.take k) k c x hkt (by omega) (wr.drewN j) (((HX.out _ hwr).head (hi := k))))
      have HT : Hid (l.take (k + 1) = l.take k ++ [x]) := hid (take_snoc_of hx)
      have HD : Hid (∀ j, ∃ q, wr.drewN j = w.drewN q) := hid (fun j => by obtain ⟨q, rfl⟩ := hw.out; exact ⟨_, World.drewN_drewN _ _ _⟩)
      have HPX : Hid (x ∈ l) := hid (List.mem_of_getElem? hx)
      clear hx hab hwr hkt
      by_cases hx1 : x < 1
      · have HE : Hid (decide (OkR l) = false) := hid (decide_eq_false fun hp => by have := hp.rng x HPX.out; omega)
        have hd1 : decide (x < (1 : Int)) = true := decide_eq_true hx1
        go_wp2_with fail
        go_quiet (fail)
        go_wp2_with fail
        go_ret
        exact ⟨by rw [HE.out]; rfl, HD.out _⟩
      have hd1 : decide (x < (1 : Int)) = false := decide_eq_false hx1
      by_cases hx2 : 4000 < x
      · have HE : Hid (decide (OkR l) = false) := hid (decide_eq_false fun hp => by have := hp.rng x HPX.out; omega)
        have hd2 : decide ((4000 : Int) < x) = true := decide_eq_true hx2
        go_wp2_with fail
        go_quiet (fail)
        go_wp2_with fail
        go_ret
        exact ⟨by rw [HE.out]; rfl, HD.out _⟩
      have hd2 : decide ((4000 : Int) < x) = false := decide_eq_false hx2
      by_cases hin : x ∈ l.take k
      · have HE : Hid (decide (OkR l) = false) := hid (decide_eq_false fun hp => by
          have h3 := (hp.take (k + 1)).nod
          rw [HT.out, List.nodup_append] at h3
          exact h3.2.2 x hin x (by simp) rfl)
        rw [show @decide (x ∈ l.take k) (List.instDecidableMemOfLawfulBEq x (l.take k)) = true from decide_eq_true hin] at HI
        go_wp2_with fail
        go_quiet ((go_at_call 34; with_reducible exact quiet_left (HI.out _)))
        go_wp2_with fail
        go_ret
        exact ⟨by rw [HE.out]; rfl, HD.out _⟩
      · rw [show @decide (x ∈ l.take k) (List.instDecidableMemOfLawfulBEq x (l.take k)) = false from decide_eq_false hin] at HI
        have HO : Hid (OkR (l.take (k + 1))) := hid (by
          rw [HT.out]
          exact HP.out.snoc (by rw [List.length_take, HN.out]; omega) (by omega) (by omega) hin)
        go_wp2_with fail
        go_quiet ((go_at_call 34; with_reducible exact quiet_left (HI.out _)))
        go_wp2_with fail
        go_roundw
        case rel => exact ⟨k + 1, by omega, by go_num, HO, hid (HD.out _)⟩
        case measure => simp [intOf]; omega
    · obtain rfl : k = n := by omega
      have HE : Hid (decide (OkR l) = true) := hid (decide_eq_true (by have := HP.out; rwa [List.take_of_length_le (by rw [HN.out]; exact Nat.le_refl _)] at this))
      go_wp2_with fail
      go_ret
      exact ⟨by rw [HE.out]; rfl, hw.out⟩
set_option maxHeartbeats 2000000 in
theorem sameRows_any (A B : Option Addr) (xs ys : List (List Int)) (n m c d : Nat) (hn : xs.length = n) (hm : ys.length = m) (hnb : n ≤ 1099511627776) (hs : ∀ l ∈ xs, l.length ≤ 1099511627776) (hs2 : ∀ l ∈ ys, l.length ≤ 1099511627776) (w : World) (h : Lls w w.heap.size A xs) (h' : Lls w w.heap.size B ys) :
    Calls Try.prog 15 #[.slice A n c, .slice B m d] w fun e w' => e = .returned (.bool (decide (xs = ys))) ∧ ∃ k, w' = w.drewN k := by
  have HN := hid hn
  have HM := hid hm
  have HS := hid hs
  have HS2 := hid hs2
  have HX := hid (fun W (hW : Below w.heap.size w W) => (h.below hW).more hW.size)
  have HY := hid (fun W (hW : Below w.heap.size w W) => (h'.below hW).more hW.size)
  by_cases hlen : n = m
  · subst hlen
    clear h h' hn hm hs hs2
    go_enter Try.func15, Try.ntmps15
    go_wp2_with fail
    go_loopw [5] (fun i wr => ∃ k : Nat, k ≤ n ∧ i = .int .i64 (k : Int) ∧ Hid (xs.take k = ys.take k) ∧ Hid (∃ q, wr = w.drewN q)) (fun i _ => n - (intOf i).toNat)
    case atStart => exact ⟨0, Nat.zero_le _, rfl, hid rfl, hid ⟨0, rfl⟩⟩
    case round =>
      obtain ⟨k, hk, rfl, hpre, hw⟩ := hrel
      have hwr : Below w.heap.size w wr := by obtain ⟨q, rfl⟩ := hw.out; exact below_drewN (Below.refl _ _) q
      have hk0 : (0 : Int) ≤ (k : Int) := Int.natCast_nonneg _
      by_cases hlt : k < n
      · obtain ⟨x, hx⟩ : ∃ x, xs[k]? = some x := ⟨_, List.getElem?_eq_getElem (by rw [HN.out]; exact hlt)⟩
        obtain ⟨y, hy⟩ : ∃ y, ys[k]? = some y := ⟨_, List.getElem?_eq_getElem (by rw [HM.out]; exact hlt)⟩
        obtain ⟨ad, A1, n1, c1, rfl, hab, ha, hl1, _, _, e1⟩ := (HX.out _ hwr).row hx
        obtain ⟨bd, A2, n2, c2, rfl, hbb, hb, hl2, _, _, e2⟩ := (HY.out _ hwr).row hy
        have HC := hid (fun j => sameN_any A1 A2 x y n1 n2 c1 c2 hl1 hl2 (by rw [← hl1]; exact HS.out x (List.mem_of_getElem? hx)) (by rw [← hl2]; exact HS2.out y (List.mem_of_getElem? hy)) (wr.drewN j) e1 e2)
        have HXX := hid hx
        have HYY := hid hy
        have hk1 : (k : Int) < (n : Int) := by omega
        have HD : Hid (∀ j, ∃ q, wr.drewN j = w.drewN q) := hid (fun j => by obtain ⟨q, rfl⟩ := hw.out; exact ⟨_, World.drewN_drewN _ _ _⟩)
        clear hx hy hab hbb hwr e1 e2 hl1 hl2
        by_cases he : x = y
        · subst he
          have HT : Hid (xs.take (k + 1) = ys.take (k + 1)) := hid (by rw [take_snoc_of HXX.out, take_snoc_of HYY.out, hpre.out])
          rw [show decide (x = x) = true from decide_eq_true rfl] at HC
          go_wp2_with fail
          go_quiet ((go_at_call 27; with_reducible exact quiet_dr (HC.out _)))
          go_wp2_with fail
          go_roundw
          case rel => exact ⟨k + 1, by omega, by go_num, HT, hid (HD.out _)⟩
          case measure => simp [intOf]; omega
        · rw [show decide (x = y) = false from decide_eq_false he] at HC
          have HE : Hid (decide (xs = ys) = false) := hid (decide_eq_false (by
            rintro rfl
            have h3 := HXX.out
            rw [HYY.out] at h3
            exact he (by injection h3 with h3; exact h3.symm)))
          go_wp2_with fail
          go_quiet ((go_at_call 27; with_reducible exact quiet_dr (HC.out _)))
          go_wp2_with fail
          go_ret
          exact ⟨by rw [HE.out]; rfl, HD.out _⟩
      · obtain rfl : k = n := by omega
        have HE : Hid (decide (xs = ys) = true) := hid (decide_eq_true (by
          have := hpre.out
          rwa [List.take_of_length_le (by rw [HN.out]; omega), List.take_of_length_le (by rw [HM.out]; omega)] at this))
        go_wp2_with fail
        go_ret
        exact ⟨by rw [HE.out]; rfl, hw.out⟩
  · have HE : Hid (decide (xs = ys) = false) := hid (decide_eq_false (by
      rintro rfl
      exact hlen (by rw [← HN.out, ← HM.out])))
    have h1 : ¬ (n : Int) = (m : Int) := by omega
    have h2 : ((n : Int) == (m : Int)) = false := beq_eq_false_iff_ne.2 h1
    clear h h' hn hm hs hs2
    go_enter Try.func15, Try.ntmps15
    go_wp2_with fail
    go_ret
    exact ⟨by rw [HE.out]; rfl, 0, rfl⟩
end Go.Proofs.Ytifoppnpgljphaa.Sh
