/-
  The program's own tokens: within, isTick, mayID; the library's IndexFunc and ContainsFunc with each of the program's closures; all and ascending, by contract. Written by mk_tkpga.py.
-/
import Derived.Test.YtaadmgbmaekicaaGreatDoorJn30
import Derived.Test.YtaadmgbmaekicaaGreatDoorJn31
set_option linter.unusedVariables false
set_option linter.unusedSimpArgs false
namespace Go.Proofs.YtaadmgbmaekicaaGreatDoor.Sh
open Go Go.RowKit

set_option linter.unusedSimpArgs false
set_option linter.unusedVariables false
def allN (q : Nat → Bool) : Nat → Bool
  | 0 => true
  | n + 1 => allN q n && q n
theorem allN_iff (q : Nat → Bool) (n : Nat) : allN q n = true ↔ ∀ j, j < n → q j = true := by
  induction n with
  | zero => exact ⟨fun _ j h => absurd h (by omega), fun _ => rfl⟩
  | succ n ih =>
    unfold allN
    rw [Bool.and_eq_true, ih]
    constructor
    · rintro ⟨h1, h2⟩ j hj
      rcases Nat.lt_or_ge j n with h | h
      · exact h1 j h
      · rw [show j = n by omega]; exact h2
    · intro h
      exact ⟨fun j hj => h j (by omega), h n (by omega)⟩
theorem allN_false {q : Nat → Bool} {n j : Nat} (hj : j < n) (h : q j = false) : allN q n = false := by
  rw [Bool.eq_false_iff]
  intro h2
  rw [(allN_iff q n).1 h2 j hj] at h
  cases h
theorem allN_congr {p q : Nat → Bool} {n : Nat} (h : ∀ j, j < n → p j = q j) : allN p n = allN q n := by
  rw [Bool.eq_iff_iff, allN_iff, allN_iff]
  exact ⟨fun k j hj => by rw [← h j hj]; exact k j hj, fun k j hj => by rw [h j hj]; exact k j hj⟩
/-- Is it true of some number below n? -/
def anyN (p : Nat → Bool) (n : Nat) : Bool := !allN (fun j => !p j) n
theorem anyN_true {p : Nat → Bool} {n j : Nat} (hj : j < n) (h : p j = true) : anyN p n = true := by
  unfold anyN
  rw [allN_false hj (by rw [h]; rfl)]; rfl
theorem anyN_none {p : Nat → Bool} {n : Nat} (h : ∀ j, j < n → p j = false) : anyN p n = false := by
  unfold anyN
  rw [(allN_iff _ n).2 (fun j hj => by rw [h j hj]; rfl)]; rfl
theorem anyN_iff (p : Nat → Bool) (n : Nat) : anyN p n = true ↔ ∃ j, j < n ∧ p j = true := by
  constructor
  · intro h
    by_cases hx : ∃ j, j < n ∧ p j = true
    · exact hx
    · rw [anyN_none (fun j hj => by
        cases hp : p j
        · rfl
        · exact absurd ⟨j, hj, hp⟩ hx)] at h
      cases h
  · rintro ⟨j, hj, hp⟩
    exact anyN_true hj hp
/-- The first number below n of which it is true, or -1. -/
def FirstN (p : Nat → Bool) (n : Nat) (i : Int) : Prop := (i = -1 ∧ ∀ j, j < n → p j = false) ∨ ∃ j, j < n ∧ i = (j : Int) ∧ p j = true ∧ ∀ k, k < j → p k = false
theorem FirstN.any {p : Nat → Bool} {n : Nat} {i : Int} (h : FirstN p n i) : decide (0 ≤ i) = anyN p n := by
  rcases h with ⟨rfl, h⟩ | ⟨j, hj, rfl, hp, _⟩
  · rw [anyN_none h]; rfl
  · rw [anyN_true hj hp]; exact decide_eq_true (Int.natCast_nonneg _)
def ltN {α : Type} (f : α → α → Bool) (l : List α) (j : Nat) : Bool :=
  match l[j]?, l[j + 1]? with
  | some a, some b => f a b
  | _, _ => true
theorem ltN_at {α : Type} {f : α → α → Bool} {l : List α} {j : Nat} {a b : α} (ha : l[j]? = some a) (hb : l[j + 1]? = some b) : ltN f l j = f a b := by unfold ltN; rw [ha, hb]
theorem ltN_iff {α : Type} (f : α → α → Bool) (l : List α) : allN (ltN f l) (l.length - 1) = true ↔ ∀ (i : Nat) (a b : α), l[i]? = some a → l[i + 1]? = some b → f a b = true := by
  rw [allN_iff]
  constructor
  · intro h i a b ha hb
    have hi := (List.getElem?_eq_some_iff.1 hb).1
    rw [← ltN_at (f := f) ha hb]
    exact h i (by omega)
  · intro h j hj
    obtain ⟨a, ha⟩ : ∃ x, l[j]? = some x := ⟨_, List.getElem?_eq_getElem (by omega)⟩
    obtain ⟨b, hb⟩ : ∃ x, l[j + 1]? = some x := ⟨_, List.getElem?_eq_getElem (by omega)⟩
    rw [ltN_at ha hb]
    exact h j a b ha hb
theorem pwithin_any (z a b : Int) (w : World) : Calls Tryz.prog 27 #[.int .i64 z, .int .i64 a, .int .i64 b] w fun e w' => e = .returned (.bool (decide (a ≤ z ∧ z ≤ b))) ∧ w = w' := by
  by_cases h : a ≤ z
  · by_cases h2 : z ≤ b
    · rw [show decide (a ≤ z ∧ z ≤ b) = true by simp [h, h2]]
      go_enter Tryz.func27, Tryz.ntmps27
      go_wp2_with fail
      go_ret
      exact ⟨rfl, rfl⟩
    · rw [show decide (a ≤ z ∧ z ≤ b) = false by simp; omega]
      go_enter Tryz.func27, Tryz.ntmps27
      go_wp2_with fail
      go_ret
      exact ⟨rfl, rfl⟩
  · rw [show decide (a ≤ z ∧ z ≤ b) = false by simp; omega]
    go_enter Tryz.func27, Tryz.ntmps27
    go_wp2_with fail
    go_ret
    exact ⟨rfl, rfl⟩
theorem pisTick_any (z : Int) (w : World) : Calls Tryz.prog 30 #[.int .i64 z] w fun e w' => e = .returned (.bool (decide (0 ≤ z ∧ z ≤ 1099511627776))) ∧ w = w' := by
  have HW := hid (pwithin_any z 0 1099511627776 w)
  obtain ⟨V, hV⟩ : ∃ b, decide (0 ≤ z ∧ z ≤ 1099511627776) = b := ⟨_, rfl⟩
  rw [hV] at HW ⊢
  clear hV
  go_enter Tryz.func30, Tryz.ntmps30
  go_wp2_with fail
  refine HW.out.mono ?_
  rintro er w1 ⟨rfl, rfl⟩
  go_wp2_with fail
  go_ret
  exact ⟨rfl, rfl⟩
def idB (x : Int × Int) : Bool := decide (1 ≤ x.1 ∧ x.1 ≤ 16) && decide (1 ≤ x.2 ∧ x.2 ≤ 4000)
theorem idB_iff (x : Int × Int) : idB x = true ↔ 1 ≤ x.1 ∧ x.1 ≤ 16 ∧ 1 ≤ x.2 ∧ x.2 ≤ 4000 := by
  unfold idB; rw [Bool.and_eq_true, decide_eq_true_eq, decide_eq_true_eq]; omega
theorem pmayID_any (d q : Int) (w : World) : Calls Tryz.prog 70 #[.agg #[.int .i64 d, .int .i64 q]] w fun e w' => e = .returned (.bool (idB (d, q))) ∧ Below w.heap.size w w' := by
  obtain ⟨w1, hw1⟩ : ∃ y, y = w.alloc (.cells #[.int .i64 d, .int .i64 q] 65) := ⟨_, rfl⟩
  have HB1 : Hid (Below w.heap.size w w1) := hid (by rw [hw1]; exact (Below.refl _ _).alloc (Nat.le_refl _) _)
  have hc : w1.heap[w.heap.size]? = some (.cells #[.int .i64 d, .int .i64 q] 65 (0, 0)) := by rw [hw1]; exact heap_alloc_new w _
  have c0 : w1.cell? ⟨w.heap.size, 0, none⟩ = some (.int .i64 d) := by rw [cell_of_row _ _ 0 _ _ (0, 0) hc]; rfl
  have c1 : w1.cell? ⟨w.heap.size, 1, none⟩ = some (.int .i64 q) := by rw [cell_of_row _ _ 1 _ _ (0, 0) hc]; rfl
  have HW1 := hid (pwithin_any d 1 16 w1)
  have HW2 := hid (pwithin_any q 1 4000 w1)
  have HE : Hid (idB (d, q) = (decide (1 ≤ d ∧ d ≤ 16) && decide (1 ≤ q ∧ q ≤ 4000))) := hid rfl
  obtain ⟨b1, h1⟩ : ∃ b, decide (1 ≤ d ∧ d ≤ 16) = b := ⟨_, rfl⟩
  obtain ⟨b2, h2⟩ : ∃ b, decide (1 ≤ q ∧ q ≤ 4000) = b := ⟨_, rfl⟩
  rw [h1] at HW1 HE
  rw [h2] at HW2 HE
  have HH := hid hw1
  clear h1 h2 hw1 hc
  go_enter Tryz.func70, Tryz.ntmps70
  go_upto_region 1 with fail
  rw [← HH.out]
  go_wp2_with fail
  refine HW1.out.mono ?_
  rintro er w2 ⟨rfl, hw⟩
  have hw2 : w1 = w2 := hw
  subst hw2
  clear hw
  cases b1
  · go_wp2_with fail
    go_ret
    exact ⟨by rw [HE.out]; rfl, HB1.out⟩
  · go_wp2_with fail
    refine HW2.out.mono ?_
    rintro er w2 ⟨rfl, hw⟩
    have hw2 : w1 = w2 := hw
    subst hw2
    clear hw
    go_wp2_with fail
    go_ret
    exact ⟨by rw [HE.out]; rfl, HB1.out⟩
set_option maxHeartbeats 4000000 in
theorem pidxR1_any (g : Nat) (A : Option Addr) (l : List Ro) (n c : Nat) (hn : l.length = n) (hm : n ≤ 1000000000) (w : World) (h : Els encR w w.heap.size A l) (p : Nat → Bool)
    (hp : ∀ (j : Nat) (x : Ro), l[j]? = some x → ∀ W, Below w.heap.size w W → Calls Tryz.prog 109 #[.agg (encR.cells x).toArray, .pointer (some ⟨g, 0, none⟩)] W fun e W' => e = .returned (.bool (p j)) ∧ Below W.heap.size W W') :
    Calls Tryz.prog 115 #[.slice A n c, .func (.func 109) #[] #[.pointer (some ⟨g, 0, none⟩)]] w fun e w' => ∃ i : Int, e = .returned (.int .i64 i) ∧ FirstN p n i ∧ Below w.heap.size w w' := by
  have HN := hid hn
  have HP := hid hp
  have HY := hid (fun W (hW : Below w.heap.size w W) => h.below hW)
  clear hn h hp
  go_enter Tryz.func115, Tryz.ntmps115
  go_wp2_with fail
  go_loopw [8] (fun i wr => ∃ j : Nat, j ≤ n ∧ i = .int .i64 j ∧ Hid (∀ k, k < j → p k = false) ∧ Hid (Below w.heap.size w wr)) (fun i _ => n - (intOf i).toNat)
  case atStart => exact ⟨0, Nat.zero_le _, rfl, hid (fun k hk => absurd hk (by omega)), hid (Below.refl _ _)⟩
  case round =>
    obtain ⟨j, hj, rfl, HNI, HB⟩ := hrel
    by_cases hlt : j < n
    · obtain ⟨x, hx⟩ : ∃ x, l[j]? = some x := ⟨_, List.getElem?_eq_getElem (by rw [HN.out]; exact hlt)⟩
      obtain ⟨ad, aj, hA, -, ea, -, a0, a1s⟩ := (HY.out wr HB.out).get hx
      subst hA
      have ea : ad.add (j * 2) = aj := ea
      have c0 := a0 _ rfl
      have c1 := a1s 1 _ (by omega) rfl
      have hk0 : (0 : Int) ≤ (j : Int) := Int.natCast_nonneg _
      have hk1 : (j : Int) < (n : Int) := by omega
      have HF := hid (HP.out j x hx wr HB.out)
      obtain ⟨b, hb⟩ : ∃ b, p j = b := ⟨_, rfl⟩
      rw [hb] at HF
      have HBJ := hid hb
      obtain ⟨x0, x1⟩ := x
      simp only [encR] at c0 c1 HF
      clear hx hb a0 a1s
      go_wp2_with fail
      refine HF.out.mono ?_
      rintro er w2 ⟨rfl, q2⟩
      have HB2 := hid (HB.out.trans (q2.mono HB.out.size))
      clear q2 c0 c1
      cases b
      · have HNX : Hid (∀ k, k < j + 1 → p k = false) := hid (fun k hk => by
          rcases Nat.lt_or_ge k j with h1 | h1
          · exact HNI.out k h1
          · rw [show k = j by omega]; exact HBJ.out)
        go_wp2_with fail
        go_roundw
        case rel => exact ⟨j + 1, by omega, by go_num, HNX, HB2⟩
        case measure => simp [intOf]; omega
      · have HT : Hid (FirstN p n (j : Int)) := hid (.inr ⟨j, hlt, rfl, HBJ.out, HNI.out⟩)
        go_wp2_with fail
        go_ret
        exact ⟨_, rfl, HT.out, HB2.out⟩
    · obtain rfl : j = n := by omega
      have HT : Hid (FirstN p j (-1 : Int)) := hid (.inl ⟨rfl, HNI.out⟩)
      go_wp2_with fail
      go_ret
      exact ⟨_, rfl, HT.out, HB.out⟩
theorem pconR1_any (g : Nat) (A : Option Addr) (l : List Ro) (n c : Nat) (hn : l.length = n) (hm : n ≤ 1000000000) (w : World) (h : Els encR w w.heap.size A l) (p : Nat → Bool)
    (hp : ∀ (j : Nat) (x : Ro), l[j]? = some x → ∀ W, Below w.heap.size w W → Calls Tryz.prog 109 #[.agg (encR.cells x).toArray, .pointer (some ⟨g, 0, none⟩)] W fun e W' => e = .returned (.bool (p j)) ∧ Below W.heap.size W W') :
    Calls Tryz.prog 108 #[.slice A n c, .func (.func 109) #[] #[.pointer (some ⟨g, 0, none⟩)]] w fun e w' => e = .returned (.bool (anyN p n)) ∧ Below w.heap.size w w' := by
  have HC := hid (pidxR1_any g A l n c hn hm w h p hp)
  clear hn hm h hp
  go_enter Tryz.func108, Tryz.ntmps108
  go_wp2_with fail
  refine HC.out.mono ?_
  rintro er w2 ⟨i, rfl, hi, hb⟩
  have HI := hid hi.any
  clear hi
  go_wp2_with fail
  go_ret
  exact ⟨by rw [← HI.out]; rfl, hb⟩
/-- The closure of all at livery/names.Role. -/
theorem pallR1F_any (g : Nat) (x : Ro) (q : Bool) (w : World) (hg : w.cell? ⟨g, 0, none⟩ = some (.func (.func 66) #[] #[]))
    (hq : ∀ W, Below w.heap.size w W → Calls Tryz.prog 66 #[.agg (encR.cells x).toArray] W fun e W' => e = .returned (.bool q) ∧ Below W.heap.size W W') :
    Calls Tryz.prog 109 #[.agg (encR.cells x).toArray, .pointer (some ⟨g, 0, none⟩)] w fun e w' => e = .returned (.bool (!q)) ∧ Below w.heap.size w w' := by
  have hgl : g < w.heap.size := World.block_lt_of_cell? w _ hg
  have HQ := hid hq
  clear hq
  obtain ⟨x0, x1⟩ := x
  simp only [encR] at HQ ⊢
  obtain ⟨w1, hw1⟩ : ∃ y, y = w.alloc (.cells #[.string x0, .string x1] 69) := ⟨_, rfl⟩
  have hb1 : Below w.heap.size w w1 := by rw [hw1]; exact (Below.refl _ _).alloc (Nat.le_refl _) _
  have HB1 := hid hb1
  have hg1 : w1.cell? ⟨g, 0, none⟩ = some (.func (.func 66) #[] #[]) := (hb1.cell (p := ⟨g, 0, none⟩) hgl).trans hg
  have hc : w1.heap[w.heap.size]? = some (.cells #[.string x0, .string x1] 69 (0, 0)) := by rw [hw1]; exact heap_alloc_new w _
  have c0 : w1.cell? ⟨w.heap.size, 0, none⟩ = some (.string x0) := by rw [cell_of_row _ _ 0 _ _ (0, 0) hc]; rfl
  have c1 : w1.cell? ⟨w.heap.size, 1, none⟩ = some (.string x1) := by rw [cell_of_row _ _ 1 _ _ (0, 0) hc]; rfl
  have HW := hid (HQ.out w1 hb1)
  have HH := hid hw1
  clear hw1 hc hb1 hg
  go_enter Tryz.func109, Tryz.ntmps109
  go_upto_region 1 with fail
  rw [← HH.out]
  go_wp2_with fail
  refine HW.out.mono ?_
  rintro er w2 ⟨rfl, q2⟩
  have HB2 := hid (HB1.out.trans (q2.mono HB1.out.size))
  cases q
  all_goals
    go_wp2_with fail
    go_ret
    exact ⟨rfl, HB2.out⟩
theorem pallR1_any (A : Option Addr) (l : List Ro) (n c : Nat) (hn : l.length = n) (hm : n ≤ 1000000000) (w : World) (h : Els encR w w.heap.size A l) (q : Nat → Bool)
    (hq : ∀ (j : Nat) (x : Ro), l[j]? = some x → ∀ W, Below w.heap.size w W → Calls Tryz.prog 66 #[.agg (encR.cells x).toArray] W fun e W' => e = .returned (.bool (q j)) ∧ Below W.heap.size W W') :
    Calls Tryz.prog 65 #[.slice A n c, .func (.func 66) #[] #[]] w fun e w' => e = .returned (.bool (allN q n)) ∧ Below w.heap.size w w' := by
  have hmf : ∀ (fn : Fn) (first cap : Array Value) (w : World), (Instr.makeFunc fn first cap).run Tryz.prog w = .ok (.func fn first cap) w := fun _ _ _ _ => rfl
  have hb1 : Below w.heap.size w (w.alloc (.cells #[.func (.func 66) #[] #[]] 95)) := (Below.refl _ _).alloc (Nat.le_refl _) _
  have HB1 := hid hb1
  have hc : (w.alloc (.cells #[.func (.func 66) #[] #[]] 95)).cell? ⟨w.heap.size, 0, none⟩ = some (.func (.func 66) #[] #[]) := by rw [cell_of_row _ _ 0 _ _ (0, 0) (heap_alloc_new w _)]; rfl
  have HC := hid (pconR1_any w.heap.size A l n c hn hm (w.alloc (.cells #[.func (.func 66) #[] #[]] 95)) ((h.below hb1).more hb1.size) (fun j => !q j) (fun j x hx W hW =>
    pallR1F_any w.heap.size x (q j) W ((hW.cell (p := ⟨w.heap.size, 0, none⟩) (by simp)).trans hc) (fun V hV => hq j x hx V (hb1.trans ((hW.trans (hV.mono hW.size)).mono hb1.size)))))
  have HE : Hid ((!anyN (fun j => !q j) n) = allN q n) := hid (by unfold anyN; simp)
  clear hn hm h hq hb1 hc
  go_enter Tryz.func65, Tryz.ntmps65
  go_wp2_with fail
  refine HC.out.mono ?_
  rintro er w2 ⟨rfl, q2⟩
  have HB2 := hid (HB1.out.trans (q2.mono HB1.out.size))
  obtain ⟨b, hb⟩ : ∃ b, anyN (fun j => !q j) n = b := ⟨_, rfl⟩
  rw [hb] at HE ⊢
  cases b
  all_goals
    go_wp2_with fail
    go_ret
    exact ⟨by rw [← HE.out]; rfl, HB2.out⟩
set_option maxHeartbeats 4000000 in
theorem pidxI1_any (g : Nat) (A : Option Addr) (l : List (Int × Int)) (n c : Nat) (hn : l.length = n) (hm : n ≤ 1000000000) (w : World) (h : Els encI w w.heap.size A l) (p : Nat → Bool)
    (hp : ∀ (j : Nat) (x : (Int × Int)), l[j]? = some x → ∀ W, Below w.heap.size w W → Calls Tryz.prog 111 #[.agg (encI.cells x).toArray, .pointer (some ⟨g, 0, none⟩)] W fun e W' => e = .returned (.bool (p j)) ∧ Below W.heap.size W W') :
    Calls Tryz.prog 130 #[.slice A n c, .func (.func 111) #[] #[.pointer (some ⟨g, 0, none⟩)]] w fun e w' => ∃ i : Int, e = .returned (.int .i64 i) ∧ FirstN p n i ∧ Below w.heap.size w w' := by
  have HN := hid hn
  have HP := hid hp
  have HY := hid (fun W (hW : Below w.heap.size w W) => h.below hW)
  clear hn h hp
  go_enter Tryz.func130, Tryz.ntmps130
  go_wp2_with fail
  go_loopw [8] (fun i wr => ∃ j : Nat, j ≤ n ∧ i = .int .i64 j ∧ Hid (∀ k, k < j → p k = false) ∧ Hid (Below w.heap.size w wr)) (fun i _ => n - (intOf i).toNat)
  case atStart => exact ⟨0, Nat.zero_le _, rfl, hid (fun k hk => absurd hk (by omega)), hid (Below.refl _ _)⟩
  case round =>
    obtain ⟨j, hj, rfl, HNI, HB⟩ := hrel
    by_cases hlt : j < n
    · obtain ⟨x, hx⟩ : ∃ x, l[j]? = some x := ⟨_, List.getElem?_eq_getElem (by rw [HN.out]; exact hlt)⟩
      obtain ⟨ad, aj, hA, -, ea, -, a0, a1s⟩ := (HY.out wr HB.out).get hx
      subst hA
      have ea : ad.add (j * 2) = aj := ea
      have c0 := a0 _ rfl
      have c1 := a1s 1 _ (by omega) rfl
      have hk0 : (0 : Int) ≤ (j : Int) := Int.natCast_nonneg _
      have hk1 : (j : Int) < (n : Int) := by omega
      have HF := hid (HP.out j x hx wr HB.out)
      obtain ⟨b, hb⟩ : ∃ b, p j = b := ⟨_, rfl⟩
      rw [hb] at HF
      have HBJ := hid hb
      obtain ⟨x0, x1⟩ := x
      simp only [encI] at c0 c1 HF
      clear hx hb a0 a1s
      go_wp2_with fail
      refine HF.out.mono ?_
      rintro er w2 ⟨rfl, q2⟩
      have HB2 := hid (HB.out.trans (q2.mono HB.out.size))
      clear q2 c0 c1
      cases b
      · have HNX : Hid (∀ k, k < j + 1 → p k = false) := hid (fun k hk => by
          rcases Nat.lt_or_ge k j with h1 | h1
          · exact HNI.out k h1
          · rw [show k = j by omega]; exact HBJ.out)
        go_wp2_with fail
        go_roundw
        case rel => exact ⟨j + 1, by omega, by go_num, HNX, HB2⟩
        case measure => simp [intOf]; omega
      · have HT : Hid (FirstN p n (j : Int)) := hid (.inr ⟨j, hlt, rfl, HBJ.out, HNI.out⟩)
        go_wp2_with fail
        go_ret
        exact ⟨_, rfl, HT.out, HB2.out⟩
    · obtain rfl : j = n := by omega
      have HT : Hid (FirstN p j (-1 : Int)) := hid (.inl ⟨rfl, HNI.out⟩)
      go_wp2_with fail
      go_ret
      exact ⟨_, rfl, HT.out, HB.out⟩
theorem pconI1_any (g : Nat) (A : Option Addr) (l : List (Int × Int)) (n c : Nat) (hn : l.length = n) (hm : n ≤ 1000000000) (w : World) (h : Els encI w w.heap.size A l) (p : Nat → Bool)
    (hp : ∀ (j : Nat) (x : (Int × Int)), l[j]? = some x → ∀ W, Below w.heap.size w W → Calls Tryz.prog 111 #[.agg (encI.cells x).toArray, .pointer (some ⟨g, 0, none⟩)] W fun e W' => e = .returned (.bool (p j)) ∧ Below W.heap.size W W') :
    Calls Tryz.prog 110 #[.slice A n c, .func (.func 111) #[] #[.pointer (some ⟨g, 0, none⟩)]] w fun e w' => e = .returned (.bool (anyN p n)) ∧ Below w.heap.size w w' := by
  have HC := hid (pidxI1_any g A l n c hn hm w h p hp)
  clear hn hm h hp
  go_enter Tryz.func110, Tryz.ntmps110
  go_wp2_with fail
  refine HC.out.mono ?_
  rintro er w2 ⟨i, rfl, hi, hb⟩
  have HI := hid hi.any
  clear hi
  go_wp2_with fail
  go_ret
  exact ⟨by rw [← HI.out]; rfl, hb⟩
/-- The closure of all at livery/token.mayID. -/
theorem pallI1F_any (g : Nat) (x : (Int × Int)) (q : Bool) (w : World) (hg : w.cell? ⟨g, 0, none⟩ = some (.func (.func 70) #[] #[]))
    (hq : ∀ W, Below w.heap.size w W → Calls Tryz.prog 70 #[.agg (encI.cells x).toArray] W fun e W' => e = .returned (.bool q) ∧ Below W.heap.size W W') :
    Calls Tryz.prog 111 #[.agg (encI.cells x).toArray, .pointer (some ⟨g, 0, none⟩)] w fun e w' => e = .returned (.bool (!q)) ∧ Below w.heap.size w w' := by
  have hgl : g < w.heap.size := World.block_lt_of_cell? w _ hg
  have HQ := hid hq
  clear hq
  obtain ⟨x0, x1⟩ := x
  simp only [encI] at HQ ⊢
  obtain ⟨w1, hw1⟩ : ∃ y, y = w.alloc (.cells #[.int .i64 x0, .int .i64 x1] 65) := ⟨_, rfl⟩
  have hb1 : Below w.heap.size w w1 := by rw [hw1]; exact (Below.refl _ _).alloc (Nat.le_refl _) _
  have HB1 := hid hb1
  have hg1 : w1.cell? ⟨g, 0, none⟩ = some (.func (.func 70) #[] #[]) := (hb1.cell (p := ⟨g, 0, none⟩) hgl).trans hg
  have hc : w1.heap[w.heap.size]? = some (.cells #[.int .i64 x0, .int .i64 x1] 65 (0, 0)) := by rw [hw1]; exact heap_alloc_new w _
  have c0 : w1.cell? ⟨w.heap.size, 0, none⟩ = some (.int .i64 x0) := by rw [cell_of_row _ _ 0 _ _ (0, 0) hc]; rfl
  have c1 : w1.cell? ⟨w.heap.size, 1, none⟩ = some (.int .i64 x1) := by rw [cell_of_row _ _ 1 _ _ (0, 0) hc]; rfl
  have HW := hid (HQ.out w1 hb1)
  have HH := hid hw1
  clear hw1 hc hb1 hg
  go_enter Tryz.func111, Tryz.ntmps111
  go_upto_region 1 with fail
  rw [← HH.out]
  go_wp2_with fail
  refine HW.out.mono ?_
  rintro er w2 ⟨rfl, q2⟩
  have HB2 := hid (HB1.out.trans (q2.mono HB1.out.size))
  cases q
  all_goals
    go_wp2_with fail
    go_ret
    exact ⟨rfl, HB2.out⟩
theorem pallI1_any (A : Option Addr) (l : List (Int × Int)) (n c : Nat) (hn : l.length = n) (hm : n ≤ 1000000000) (w : World) (h : Els encI w w.heap.size A l) (q : Nat → Bool)
    (hq : ∀ (j : Nat) (x : (Int × Int)), l[j]? = some x → ∀ W, Below w.heap.size w W → Calls Tryz.prog 70 #[.agg (encI.cells x).toArray] W fun e W' => e = .returned (.bool (q j)) ∧ Below W.heap.size W W') :
    Calls Tryz.prog 69 #[.slice A n c, .func (.func 70) #[] #[]] w fun e w' => e = .returned (.bool (allN q n)) ∧ Below w.heap.size w w' := by
  have hmf : ∀ (fn : Fn) (first cap : Array Value) (w : World), (Instr.makeFunc fn first cap).run Tryz.prog w = .ok (.func fn first cap) w := fun _ _ _ _ => rfl
  have hb1 : Below w.heap.size w (w.alloc (.cells #[.func (.func 70) #[] #[]] 99)) := (Below.refl _ _).alloc (Nat.le_refl _) _
  have HB1 := hid hb1
  have hc : (w.alloc (.cells #[.func (.func 70) #[] #[]] 99)).cell? ⟨w.heap.size, 0, none⟩ = some (.func (.func 70) #[] #[]) := by rw [cell_of_row _ _ 0 _ _ (0, 0) (heap_alloc_new w _)]; rfl
  have HC := hid (pconI1_any w.heap.size A l n c hn hm (w.alloc (.cells #[.func (.func 70) #[] #[]] 99)) ((h.below hb1).more hb1.size) (fun j => !q j) (fun j x hx W hW =>
    pallI1F_any w.heap.size x (q j) W ((hW.cell (p := ⟨w.heap.size, 0, none⟩) (by simp)).trans hc) (fun V hV => hq j x hx V (hb1.trans ((hW.trans (hV.mono hW.size)).mono hb1.size)))))
  have HE : Hid ((!anyN (fun j => !q j) n) = allN q n) := hid (by unfold anyN; simp)
  clear hn hm h hq hb1 hc
  go_enter Tryz.func69, Tryz.ntmps69
  go_wp2_with fail
  refine HC.out.mono ?_
  rintro er w2 ⟨rfl, q2⟩
  have HB2 := hid (HB1.out.trans (q2.mono HB1.out.size))
  obtain ⟨b, hb⟩ : ∃ b, anyN (fun j => !q j) n = b := ⟨_, rfl⟩
  rw [hb] at HE ⊢
  cases b
  all_goals
    go_wp2_with fail
    go_ret
    exact ⟨by rw [← HE.out]; rfl, HB2.out⟩
set_option maxHeartbeats 4000000 in
theorem pidxC1_any (g : Nat) (A : Option Addr) (l : List CH) (n c : Nat) (hn : l.length = n) (hm : n ≤ 1000000000) (w : World) (h : Els encC w w.heap.size A l) (p : Nat → Bool)
    (hp : ∀ (j : Nat) (x : CH), l[j]? = some x → ∀ W, Below w.heap.size w W → Calls Tryz.prog 112 #[.agg (encC.cells x).toArray, .pointer (some ⟨g, 0, none⟩)] W fun e W' => e = .returned (.bool (p j)) ∧ Below W.heap.size W W') :
    Calls Tryz.prog 116 #[.slice A n c, .func (.func 112) #[] #[.pointer (some ⟨g, 0, none⟩)]] w fun e w' => ∃ i : Int, e = .returned (.int .i64 i) ∧ FirstN p n i ∧ Below w.heap.size w w' := by
  have HN := hid hn
  have HP := hid hp
  have HY := hid (fun W (hW : Below w.heap.size w W) => h.below hW)
  clear hn h hp
  go_enter Tryz.func116, Tryz.ntmps116
  go_wp2_with fail
  go_loopw [8] (fun i wr => ∃ j : Nat, j ≤ n ∧ i = .int .i64 j ∧ Hid (∀ k, k < j → p k = false) ∧ Hid (Below w.heap.size w wr)) (fun i _ => n - (intOf i).toNat)
  case atStart => exact ⟨0, Nat.zero_le _, rfl, hid (fun k hk => absurd hk (by omega)), hid (Below.refl _ _)⟩
  case round =>
    obtain ⟨j, hj, rfl, HNI, HB⟩ := hrel
    by_cases hlt : j < n
    · obtain ⟨x, hx⟩ : ∃ x, l[j]? = some x := ⟨_, List.getElem?_eq_getElem (by rw [HN.out]; exact hlt)⟩
      obtain ⟨ad, aj, hA, -, ea, -, a0, a1s⟩ := (HY.out wr HB.out).get hx
      subst hA
      have ea : ad.add (j * 4) = aj := ea
      have c0 := a0 _ rfl
      have c1 := a1s 1 _ (by omega) rfl
      have c2 := a1s 2 _ (by omega) rfl
      have c3 := a1s 3 _ (by omega) rfl
      have hk0 : (0 : Int) ≤ (j : Int) := Int.natCast_nonneg _
      have hk1 : (j : Int) < (n : Int) := by omega
      have HF := hid (HP.out j x hx wr HB.out)
      obtain ⟨b, hb⟩ : ∃ b, p j = b := ⟨_, rfl⟩
      rw [hb] at HF
      have HBJ := hid hb
      obtain ⟨x0, xA, xn, xc, x2, x3⟩ := x
      simp only [encC, CH.cells] at c0 c1 c2 c3 HF
      clear hx hb a0 a1s
      go_wp2_with fail
      refine HF.out.mono ?_
      rintro er w2 ⟨rfl, q2⟩
      have HB2 := hid (HB.out.trans (q2.mono HB.out.size))
      clear q2 c0 c1 c2 c3
      cases b
      · have HNX : Hid (∀ k, k < j + 1 → p k = false) := hid (fun k hk => by
          rcases Nat.lt_or_ge k j with h1 | h1
          · exact HNI.out k h1
          · rw [show k = j by omega]; exact HBJ.out)
        go_wp2_with fail
        go_roundw
        case rel => exact ⟨j + 1, by omega, by go_num, HNX, HB2⟩
        case measure => simp [intOf]; omega
      · have HT : Hid (FirstN p n (j : Int)) := hid (.inr ⟨j, hlt, rfl, HBJ.out, HNI.out⟩)
        go_wp2_with fail
        go_ret
        exact ⟨_, rfl, HT.out, HB2.out⟩
    · obtain rfl : j = n := by omega
      have HT : Hid (FirstN p j (-1 : Int)) := hid (.inl ⟨rfl, HNI.out⟩)
      go_wp2_with fail
      go_ret
      exact ⟨_, rfl, HT.out, HB.out⟩
theorem pconC1_any (g : Nat) (A : Option Addr) (l : List CH) (n c : Nat) (hn : l.length = n) (hm : n ≤ 1000000000) (w : World) (h : Els encC w w.heap.size A l) (p : Nat → Bool)
    (hp : ∀ (j : Nat) (x : CH), l[j]? = some x → ∀ W, Below w.heap.size w W → Calls Tryz.prog 112 #[.agg (encC.cells x).toArray, .pointer (some ⟨g, 0, none⟩)] W fun e W' => e = .returned (.bool (p j)) ∧ Below W.heap.size W W') :
    Calls Tryz.prog 80 #[.slice A n c, .func (.func 112) #[] #[.pointer (some ⟨g, 0, none⟩)]] w fun e w' => e = .returned (.bool (anyN p n)) ∧ Below w.heap.size w w' := by
  have HC := hid (pidxC1_any g A l n c hn hm w h p hp)
  clear hn hm h hp
  go_enter Tryz.func80, Tryz.ntmps80
  go_wp2_with fail
  refine HC.out.mono ?_
  rintro er w2 ⟨i, rfl, hi, hb⟩
  have HI := hid hi.any
  clear hi
  go_wp2_with fail
  go_ret
  exact ⟨by rw [← HI.out]; rfl, hb⟩
/-- The closure of all at livery/token.mayCaveat. -/
theorem pallC1F_any (g : Nat) (x : CH) (q : Bool) (w : World) (hg : w.cell? ⟨g, 0, none⟩ = some (.func (.func 74) #[] #[]))
    (hq : ∀ W, Below w.heap.size w W → Calls Tryz.prog 74 #[.agg (encC.cells x).toArray] W fun e W' => e = .returned (.bool q) ∧ Below W.heap.size W W') :
    Calls Tryz.prog 112 #[.agg (encC.cells x).toArray, .pointer (some ⟨g, 0, none⟩)] w fun e w' => e = .returned (.bool (!q)) ∧ Below w.heap.size w w' := by
  have hgl : g < w.heap.size := World.block_lt_of_cell? w _ hg
  have HQ := hid hq
  clear hq
  obtain ⟨x0, xA, xn, xc, x2, x3⟩ := x
  simp only [encC, CH.cells] at HQ ⊢
  obtain ⟨w1, hw1⟩ : ∃ y, y = w.alloc (.cells #[.int .i64 x0, .slice xA xn xc, .int .i64 x2, .string x3] 51) := ⟨_, rfl⟩
  have hb1 : Below w.heap.size w w1 := by rw [hw1]; exact (Below.refl _ _).alloc (Nat.le_refl _) _
  have HB1 := hid hb1
  have hg1 : w1.cell? ⟨g, 0, none⟩ = some (.func (.func 74) #[] #[]) := (hb1.cell (p := ⟨g, 0, none⟩) hgl).trans hg
  have hc : w1.heap[w.heap.size]? = some (.cells #[.int .i64 x0, .slice xA xn xc, .int .i64 x2, .string x3] 51 (0, 0)) := by rw [hw1]; exact heap_alloc_new w _
  have c0 : w1.cell? ⟨w.heap.size, 0, none⟩ = some (.int .i64 x0) := by rw [cell_of_row _ _ 0 _ _ (0, 0) hc]; rfl
  have c1 : w1.cell? ⟨w.heap.size, 1, none⟩ = some (.slice xA xn xc) := by rw [cell_of_row _ _ 1 _ _ (0, 0) hc]; rfl
  have c2 : w1.cell? ⟨w.heap.size, 2, none⟩ = some (.int .i64 x2) := by rw [cell_of_row _ _ 2 _ _ (0, 0) hc]; rfl
  have c3 : w1.cell? ⟨w.heap.size, 3, none⟩ = some (.string x3) := by rw [cell_of_row _ _ 3 _ _ (0, 0) hc]; rfl
  have HW := hid (HQ.out w1 hb1)
  have HH := hid hw1
  clear hw1 hc hb1 hg
  go_enter Tryz.func112, Tryz.ntmps112
  go_upto_region 1 with fail
  rw [← HH.out]
  go_wp2_with fail
  refine HW.out.mono ?_
  rintro er w2 ⟨rfl, q2⟩
  have HB2 := hid (HB1.out.trans (q2.mono HB1.out.size))
  cases q
  all_goals
    go_wp2_with fail
    go_ret
    exact ⟨rfl, HB2.out⟩
theorem pallC1_any (A : Option Addr) (l : List CH) (n c : Nat) (hn : l.length = n) (hm : n ≤ 1000000000) (w : World) (h : Els encC w w.heap.size A l) (q : Nat → Bool)
    (hq : ∀ (j : Nat) (x : CH), l[j]? = some x → ∀ W, Below w.heap.size w W → Calls Tryz.prog 74 #[.agg (encC.cells x).toArray] W fun e W' => e = .returned (.bool (q j)) ∧ Below W.heap.size W W') :
    Calls Tryz.prog 73 #[.slice A n c, .func (.func 74) #[] #[]] w fun e w' => e = .returned (.bool (allN q n)) ∧ Below w.heap.size w w' := by
  have hmf : ∀ (fn : Fn) (first cap : Array Value) (w : World), (Instr.makeFunc fn first cap).run Tryz.prog w = .ok (.func fn first cap) w := fun _ _ _ _ => rfl
  have hb1 : Below w.heap.size w (w.alloc (.cells #[.func (.func 74) #[] #[]] 67)) := (Below.refl _ _).alloc (Nat.le_refl _) _
  have HB1 := hid hb1
  have hc : (w.alloc (.cells #[.func (.func 74) #[] #[]] 67)).cell? ⟨w.heap.size, 0, none⟩ = some (.func (.func 74) #[] #[]) := by rw [cell_of_row _ _ 0 _ _ (0, 0) (heap_alloc_new w _)]; rfl
  have HC := hid (pconC1_any w.heap.size A l n c hn hm (w.alloc (.cells #[.func (.func 74) #[] #[]] 67)) ((h.below hb1).more hb1.size) (fun j => !q j) (fun j x hx W hW =>
    pallC1F_any w.heap.size x (q j) W ((hW.cell (p := ⟨w.heap.size, 0, none⟩) (by simp)).trans hc) (fun V hV => hq j x hx V (hb1.trans ((hW.trans (hV.mono hW.size)).mono hb1.size)))))
  have HE : Hid ((!anyN (fun j => !q j) n) = allN q n) := hid (by unfold anyN; simp)
  clear hn hm h hq hb1 hc
  go_enter Tryz.func73, Tryz.ntmps73
  go_wp2_with fail
  refine HC.out.mono ?_
  rintro er w2 ⟨rfl, q2⟩
  have HB2 := hid (HB1.out.trans (q2.mono HB1.out.size))
  obtain ⟨b, hb⟩ : ∃ b, anyN (fun j => !q j) n = b := ⟨_, rfl⟩
  rw [hb] at HE ⊢
  cases b
  all_goals
    go_wp2_with fail
    go_ret
    exact ⟨by rw [← HE.out]; rfl, HB2.out⟩
set_option maxHeartbeats 4000000 in
theorem pidxR2_any (g : Nat) (A : Option Addr) (l : List Ro) (n c : Nat) (hn : l.length = n) (hm : n ≤ 1000000000) (w : World) (h : Els encR w w.heap.size A l) (p : Nat → Bool)
    (hp : ∀ (j : Nat) (x : Ro), l[j]? = some x → ∀ W, Below w.heap.size w W → Calls Tryz.prog 79 #[.agg (encR.cells x).toArray, .pointer (some ⟨g, 0, none⟩)] W fun e W' => e = .returned (.bool (p j)) ∧ Below W.heap.size W W') :
    Calls Tryz.prog 115 #[.slice A n c, .func (.func 79) #[] #[.pointer (some ⟨g, 0, none⟩)]] w fun e w' => ∃ i : Int, e = .returned (.int .i64 i) ∧ FirstN p n i ∧ Below w.heap.size w w' := by
  have HN := hid hn
  have HP := hid hp
  have HY := hid (fun W (hW : Below w.heap.size w W) => h.below hW)
  clear hn h hp
  go_enter Tryz.func115, Tryz.ntmps115
  go_wp2_with fail
  go_loopw [8] (fun i wr => ∃ j : Nat, j ≤ n ∧ i = .int .i64 j ∧ Hid (∀ k, k < j → p k = false) ∧ Hid (Below w.heap.size w wr)) (fun i _ => n - (intOf i).toNat)
  case atStart => exact ⟨0, Nat.zero_le _, rfl, hid (fun k hk => absurd hk (by omega)), hid (Below.refl _ _)⟩
  case round =>
    obtain ⟨j, hj, rfl, HNI, HB⟩ := hrel
    by_cases hlt : j < n
    · obtain ⟨x, hx⟩ : ∃ x, l[j]? = some x := ⟨_, List.getElem?_eq_getElem (by rw [HN.out]; exact hlt)⟩
      obtain ⟨ad, aj, hA, -, ea, -, a0, a1s⟩ := (HY.out wr HB.out).get hx
      subst hA
      have ea : ad.add (j * 2) = aj := ea
      have c0 := a0 _ rfl
      have c1 := a1s 1 _ (by omega) rfl
      have hk0 : (0 : Int) ≤ (j : Int) := Int.natCast_nonneg _
      have hk1 : (j : Int) < (n : Int) := by omega
      have HF := hid (HP.out j x hx wr HB.out)
      obtain ⟨b, hb⟩ : ∃ b, p j = b := ⟨_, rfl⟩
      rw [hb] at HF
      have HBJ := hid hb
      obtain ⟨x0, x1⟩ := x
      simp only [encR] at c0 c1 HF
      clear hx hb a0 a1s
      go_wp2_with fail
      refine HF.out.mono ?_
      rintro er w2 ⟨rfl, q2⟩
      have HB2 := hid (HB.out.trans (q2.mono HB.out.size))
      clear q2 c0 c1
      cases b
      · have HNX : Hid (∀ k, k < j + 1 → p k = false) := hid (fun k hk => by
          rcases Nat.lt_or_ge k j with h1 | h1
          · exact HNI.out k h1
          · rw [show k = j by omega]; exact HBJ.out)
        go_wp2_with fail
        go_roundw
        case rel => exact ⟨j + 1, by omega, by go_num, HNX, HB2⟩
        case measure => simp [intOf]; omega
      · have HT : Hid (FirstN p n (j : Int)) := hid (.inr ⟨j, hlt, rfl, HBJ.out, HNI.out⟩)
        go_wp2_with fail
        go_ret
        exact ⟨_, rfl, HT.out, HB2.out⟩
    · obtain rfl : j = n := by omega
      have HT : Hid (FirstN p j (-1 : Int)) := hid (.inl ⟨rfl, HNI.out⟩)
      go_wp2_with fail
      go_ret
      exact ⟨_, rfl, HT.out, HB.out⟩
set_option maxHeartbeats 4000000 in
theorem pidxC2_any (g : Nat) (A : Option Addr) (l : List CH) (n c : Nat) (hn : l.length = n) (hm : n ≤ 1000000000) (w : World) (h : Els encC w w.heap.size A l) (p : Nat → Bool)
    (hp : ∀ (j : Nat) (x : CH), l[j]? = some x → ∀ W, Below w.heap.size w W → Calls Tryz.prog 81 #[.agg (encC.cells x).toArray, .pointer (some ⟨g, 0, none⟩)] W fun e W' => e = .returned (.bool (p j)) ∧ Below W.heap.size W W') :
    Calls Tryz.prog 116 #[.slice A n c, .func (.func 81) #[] #[.pointer (some ⟨g, 0, none⟩)]] w fun e w' => ∃ i : Int, e = .returned (.int .i64 i) ∧ FirstN p n i ∧ Below w.heap.size w w' := by
  have HN := hid hn
  have HP := hid hp
  have HY := hid (fun W (hW : Below w.heap.size w W) => h.below hW)
  clear hn h hp
  go_enter Tryz.func116, Tryz.ntmps116
  go_wp2_with fail
  go_loopw [8] (fun i wr => ∃ j : Nat, j ≤ n ∧ i = .int .i64 j ∧ Hid (∀ k, k < j → p k = false) ∧ Hid (Below w.heap.size w wr)) (fun i _ => n - (intOf i).toNat)
  case atStart => exact ⟨0, Nat.zero_le _, rfl, hid (fun k hk => absurd hk (by omega)), hid (Below.refl _ _)⟩
  case round =>
    obtain ⟨j, hj, rfl, HNI, HB⟩ := hrel
    by_cases hlt : j < n
    · obtain ⟨x, hx⟩ : ∃ x, l[j]? = some x := ⟨_, List.getElem?_eq_getElem (by rw [HN.out]; exact hlt)⟩
      obtain ⟨ad, aj, hA, -, ea, -, a0, a1s⟩ := (HY.out wr HB.out).get hx
      subst hA
      have ea : ad.add (j * 4) = aj := ea
      have c0 := a0 _ rfl
      have c1 := a1s 1 _ (by omega) rfl
      have c2 := a1s 2 _ (by omega) rfl
      have c3 := a1s 3 _ (by omega) rfl
      have hk0 : (0 : Int) ≤ (j : Int) := Int.natCast_nonneg _
      have hk1 : (j : Int) < (n : Int) := by omega
      have HF := hid (HP.out j x hx wr HB.out)
      obtain ⟨b, hb⟩ : ∃ b, p j = b := ⟨_, rfl⟩
      rw [hb] at HF
      have HBJ := hid hb
      obtain ⟨x0, xA, xn, xc, x2, x3⟩ := x
      simp only [encC, CH.cells] at c0 c1 c2 c3 HF
      clear hx hb a0 a1s
      go_wp2_with fail
      refine HF.out.mono ?_
      rintro er w2 ⟨rfl, q2⟩
      have HB2 := hid (HB.out.trans (q2.mono HB.out.size))
      clear q2 c0 c1 c2 c3
      cases b
      · have HNX : Hid (∀ k, k < j + 1 → p k = false) := hid (fun k hk => by
          rcases Nat.lt_or_ge k j with h1 | h1
          · exact HNI.out k h1
          · rw [show k = j by omega]; exact HBJ.out)
        go_wp2_with fail
        go_roundw
        case rel => exact ⟨j + 1, by omega, by go_num, HNX, HB2⟩
        case measure => simp [intOf]; omega
      · have HT : Hid (FirstN p n (j : Int)) := hid (.inr ⟨j, hlt, rfl, HBJ.out, HNI.out⟩)
        go_wp2_with fail
        go_ret
        exact ⟨_, rfl, HT.out, HB2.out⟩
    · obtain rfl : j = n := by omega
      have HT : Hid (FirstN p j (-1 : Int)) := hid (.inl ⟨rfl, HNI.out⟩)
      go_wp2_with fail
      go_ret
      exact ⟨_, rfl, HT.out, HB.out⟩
theorem pconC2_any (g : Nat) (A : Option Addr) (l : List CH) (n c : Nat) (hn : l.length = n) (hm : n ≤ 1000000000) (w : World) (h : Els encC w w.heap.size A l) (p : Nat → Bool)
    (hp : ∀ (j : Nat) (x : CH), l[j]? = some x → ∀ W, Below w.heap.size w W → Calls Tryz.prog 81 #[.agg (encC.cells x).toArray, .pointer (some ⟨g, 0, none⟩)] W fun e W' => e = .returned (.bool (p j)) ∧ Below W.heap.size W W') :
    Calls Tryz.prog 80 #[.slice A n c, .func (.func 81) #[] #[.pointer (some ⟨g, 0, none⟩)]] w fun e w' => e = .returned (.bool (anyN p n)) ∧ Below w.heap.size w w' := by
  have HC := hid (pidxC2_any g A l n c hn hm w h p hp)
  clear hn hm h hp
  go_enter Tryz.func80, Tryz.ntmps80
  go_wp2_with fail
  refine HC.out.mono ?_
  rintro er w2 ⟨i, rfl, hi, hb⟩
  have HI := hid hi.any
  clear hi
  go_wp2_with fail
  go_ret
  exact ⟨by rw [← HI.out]; rfl, hb⟩
set_option maxHeartbeats 4000000 in
theorem pidxC3_any (g : Nat) (A : Option Addr) (l : List CH) (n c : Nat) (hn : l.length = n) (hm : n ≤ 1000000000) (w : World) (h : Els encC w w.heap.size A l) (p : Nat → Bool)
    (hp : ∀ (j : Nat) (x : CH), l[j]? = some x → ∀ W, Below w.heap.size w W → Calls Tryz.prog 83 #[.agg (encC.cells x).toArray, .pointer (some ⟨g, 0, none⟩)] W fun e W' => e = .returned (.bool (p j)) ∧ Below W.heap.size W W') :
    Calls Tryz.prog 116 #[.slice A n c, .func (.func 83) #[] #[.pointer (some ⟨g, 0, none⟩)]] w fun e w' => ∃ i : Int, e = .returned (.int .i64 i) ∧ FirstN p n i ∧ Below w.heap.size w w' := by
  have HN := hid hn
  have HP := hid hp
  have HY := hid (fun W (hW : Below w.heap.size w W) => h.below hW)
  clear hn h hp
  go_enter Tryz.func116, Tryz.ntmps116
  go_wp2_with fail
  go_loopw [8] (fun i wr => ∃ j : Nat, j ≤ n ∧ i = .int .i64 j ∧ Hid (∀ k, k < j → p k = false) ∧ Hid (Below w.heap.size w wr)) (fun i _ => n - (intOf i).toNat)
  case atStart => exact ⟨0, Nat.zero_le _, rfl, hid (fun k hk => absurd hk (by omega)), hid (Below.refl _ _)⟩
  case round =>
    obtain ⟨j, hj, rfl, HNI, HB⟩ := hrel
    by_cases hlt : j < n
    · obtain ⟨x, hx⟩ : ∃ x, l[j]? = some x := ⟨_, List.getElem?_eq_getElem (by rw [HN.out]; exact hlt)⟩
      obtain ⟨ad, aj, hA, -, ea, -, a0, a1s⟩ := (HY.out wr HB.out).get hx
      subst hA
      have ea : ad.add (j * 4) = aj := ea
      have c0 := a0 _ rfl
      have c1 := a1s 1 _ (by omega) rfl
      have c2 := a1s 2 _ (by omega) rfl
      have c3 := a1s 3 _ (by omega) rfl
      have hk0 : (0 : Int) ≤ (j : Int) := Int.natCast_nonneg _
      have hk1 : (j : Int) < (n : Int) := by omega
      have HF := hid (HP.out j x hx wr HB.out)
      obtain ⟨b, hb⟩ : ∃ b, p j = b := ⟨_, rfl⟩
      rw [hb] at HF
      have HBJ := hid hb
      obtain ⟨x0, xA, xn, xc, x2, x3⟩ := x
      simp only [encC, CH.cells] at c0 c1 c2 c3 HF
      clear hx hb a0 a1s
      go_wp2_with fail
      refine HF.out.mono ?_
      rintro er w2 ⟨rfl, q2⟩
      have HB2 := hid (HB.out.trans (q2.mono HB.out.size))
      clear q2 c0 c1 c2 c3
      cases b
      · have HNX : Hid (∀ k, k < j + 1 → p k = false) := hid (fun k hk => by
          rcases Nat.lt_or_ge k j with h1 | h1
          · exact HNI.out k h1
          · rw [show k = j by omega]; exact HBJ.out)
        go_wp2_with fail
        go_roundw
        case rel => exact ⟨j + 1, by omega, by go_num, HNX, HB2⟩
        case measure => simp [intOf]; omega
      · have HT : Hid (FirstN p n (j : Int)) := hid (.inr ⟨j, hlt, rfl, HBJ.out, HNI.out⟩)
        go_wp2_with fail
        go_ret
        exact ⟨_, rfl, HT.out, HB2.out⟩
    · obtain rfl : j = n := by omega
      have HT : Hid (FirstN p j (-1 : Int)) := hid (.inl ⟨rfl, HNI.out⟩)
      go_wp2_with fail
      go_ret
      exact ⟨_, rfl, HT.out, HB.out⟩
theorem pconC3_any (g : Nat) (A : Option Addr) (l : List CH) (n c : Nat) (hn : l.length = n) (hm : n ≤ 1000000000) (w : World) (h : Els encC w w.heap.size A l) (p : Nat → Bool)
    (hp : ∀ (j : Nat) (x : CH), l[j]? = some x → ∀ W, Below w.heap.size w W → Calls Tryz.prog 83 #[.agg (encC.cells x).toArray, .pointer (some ⟨g, 0, none⟩)] W fun e W' => e = .returned (.bool (p j)) ∧ Below W.heap.size W W') :
    Calls Tryz.prog 80 #[.slice A n c, .func (.func 83) #[] #[.pointer (some ⟨g, 0, none⟩)]] w fun e w' => e = .returned (.bool (anyN p n)) ∧ Below w.heap.size w w' := by
  have HC := hid (pidxC3_any g A l n c hn hm w h p hp)
  clear hn hm h hp
  go_enter Tryz.func80, Tryz.ntmps80
  go_wp2_with fail
  refine HC.out.mono ?_
  rintro er w2 ⟨i, rfl, hi, hb⟩
  have HI := hid hi.any
  clear hi
  go_wp2_with fail
  go_ret
  exact ⟨by rw [← HI.out]; rfl, hb⟩
set_option maxHeartbeats 8000000 in
theorem pascR_any (A : Option Addr) (l : List Ro) (n c : Nat) (hn : l.length = n) (hm : n ≤ 1000000000) (w : World) (h : Els encR w w.heap.size A l) :
    Calls Tryz.prog 67 #[.slice A n c, .func (.func 68) #[] #[]] w fun e w' => e = .returned (.bool (allN (ltN (fun a b : Ro => lessL a.1 a.2 b.1 b.2) l) (n - 1))) ∧ Below w.heap.size w w' := by
  have HN := hid hn
  have HX := hid (fun W (hW : Below w.heap.size w W) => (h.below hW).more hW.size)
  clear h hn
  go_enter Tryz.func67, Tryz.ntmps67
  go_wp2_with fail
  go_loopw [5] (fun i wr => ∃ k : Nat, k ≤ n - 1 ∧ i = .int .i64 ((k : Int) + 1) ∧ Hid (∀ j, j < k → ltN (fun a b : Ro => lessL a.1 a.2 b.1 b.2) l j = true) ∧ Hid (Below w.heap.size w wr)) (fun i _ => n - (intOf i).toNat)
  case atStart => exact ⟨0, Nat.zero_le _, rfl, hid (fun j hj => absurd hj (by omega)), hid (Below.refl _ _)⟩
  case round =>
    obtain ⟨wj, hwj⟩ : ∃ x, x = wr := ⟨_, rfl⟩
    subst hwj
    obtain ⟨j, hk, rfl, HP, HB⟩ := hrel
    by_cases hlt : j + 1 < n
    · obtain ⟨r, hr⟩ : ∃ x, l[j + 1]? = some x := ⟨_, List.getElem?_eq_getElem (by rw [HN.out]; exact hlt)⟩
      obtain ⟨p, hp⟩ : ∃ x, l[j]? = some x := ⟨_, List.getElem?_eq_getElem (by rw [HN.out]; omega)⟩
      obtain ⟨ad, aj, hA, hb, haj, hbj, a0, a1s⟩ := (HX.out _ HB.out).get hr
      subst hA
      obtain ⟨ad2, ap, hA2, hb2, hap, hbp, b0, bs⟩ := (HX.out _ HB.out).get hp
      obtain rfl := Option.some.inj hA2
      have haj : ad.add ((j + 1) * 2) = aj := haj
      have hap : ad.add (j * 2) = ap := hap
      have c0 := a0 _ rfl
      have c1 := a1s 1 _ (by omega) rfl
      have d0 := b0 _ rfl
      have d1 := bs 1 _ (by omega) rfl
      have HLT : Hid (ltN (fun a b : Ro => lessL a.1 a.2 b.1 b.2) l j = (fun a b : Ro => lessL a.1 a.2 b.1 b.2) p r) := hid (ltN_at hp hr)
      have HLE := hid (fun W => less_any p.1 p.2 r.1 r.2 W)
      obtain ⟨y0, y1⟩ := p
      obtain ⟨z0, z1⟩ := r
      simp only [encR] at HLE HLT c0 c1 d0 d1
      have HKS : Hid (∀ W, Below wj.heap.size wj W → W.cell? aj = some (.string z0) ∧ W.cell? ⟨aj.block, aj.off + 1, none⟩ = some (.string z1) ∧ W.cell? ap = some (.string y0) ∧ W.cell? ⟨ap.block, ap.off + 1, none⟩ = some (.string y1)) := hid (fun W hW => by
        have h1 : aj.block < wj.heap.size := by rw [hbj]; have := HB.out.size; omega
        have h2 : ap.block < wj.heap.size := by rw [hbp]; have := HB.out.size; omega
        exact ⟨(hW.cell h1).trans c0, (hW.cell (p := ⟨aj.block, aj.off + 1, none⟩) h1).trans c1, (hW.cell h2).trans d0, (hW.cell (p := ⟨ap.block, ap.off + 1, none⟩) h2).trans d1⟩)
      have HLE2 : Hid (∀ W, Calls Tryz.prog 68 #[.agg #[.string y0, .string y1], .agg #[.string z0, .string z1]] W fun e W' => e = .returned (.bool (ltN (fun a b : Ro => lessL a.1 a.2 b.1 b.2) l j)) ∧ Below W.heap.size W W') := hid (fun W => by rw [HLT.out]; exact HLE.out W)
      obtain ⟨b, hbb⟩ : ∃ b, ltN (fun a b : Ro => lessL a.1 a.2 b.1 b.2) l j = b := ⟨_, rfl⟩
      rw [hbb] at HLE2
      have HBJ := hid hbb
      have e0 : (((j + 1 : Nat) : Int)) = (j : Int) + 1 := by omega
      have e3 : (j : Int) + 1 - 1 = (j : Int) := by omega
      have e4 : IntKind.i64.wrap ((j : Int) + 1 - 1) = (j : Int) := by rw [e3, IntKind.wrap_i64]; omega
      have hj0 : (0 : Int) ≤ (j : Int) := Int.natCast_nonneg _
      have e5 : IntKind.i64.wrap (j : Int) = (j : Int) := by rw [IntKind.wrap_i64]; omega
      have hj2 : (j : Int) + 1 < (n : Int) := by omega
      have hj3 : (0 : Int) ≤ (j : Int) + 1 := by omega
      have hj1 : (j : Int) < (n : Int) := by omega
      have hq1 : (1 : Int) + (j : Int) = (j : Int) + 1 := by omega
      have t1 : ((j : Int) + 1).toNat = j + 1 := by omega
      have HB0 := hid (Below.refl wj.heap.size wj)
      clear hr hp hb hb2 hbj hbp a0 a1s b0 bs hbb HLT HLE c0 c1 d0 d1
      go_wp2_with fail
      cases b
      · have HE : Hid (allN (ltN (fun a b : Ro => lessL a.1 a.2 b.1 b.2) l) (n - 1) = false) := hid (allN_false (j := j) (by omega) HBJ.out)
        go_region_held3 (fun W => W.cell? aj = some (.string z0) ∧ W.cell? ⟨aj.block, aj.off + 1, none⟩ = some (.string z1) ∧ W.cell? ap = some (.string y0) ∧ W.cell? ⟨ap.block, ap.off + 1, none⟩ = some (.string y1))
          (first | exact HKS.out _ HB0.out.drew | exact HKS.out _ HQ3.out)
          ((first | (go_at_call 68; (refine (HLE2.out _).mono ?_); rintro er w3 ⟨rfl, q3⟩; have HQ3 : Hid (Below wj.heap.size wj w3) := hid (HB0.out.drew.trans (q3.mono HB0.out.drew.size)); clear q3)))
        all_goals
          go_wp2_with fail
          go_ret
          exact ⟨by rw [HE.out]; rfl, HB.out.trans (HQ3.out.mono HB.out.size)⟩
      · have HPX : Hid (∀ i, i < j + 1 → ltN (fun a b : Ro => lessL a.1 a.2 b.1 b.2) l i = true) := hid (fun i hi => by
          rcases Nat.lt_or_ge i j with h1 | h1
          · exact HP.out i h1
          · rw [show i = j by omega]; exact HBJ.out)
        go_region_held3 (fun W => W.cell? aj = some (.string z0) ∧ W.cell? ⟨aj.block, aj.off + 1, none⟩ = some (.string z1) ∧ W.cell? ap = some (.string y0) ∧ W.cell? ⟨ap.block, ap.off + 1, none⟩ = some (.string y1))
          (first | exact HKS.out _ HB0.out.drew | exact HKS.out _ HQ3.out)
          ((first | (go_at_call 68; (refine (HLE2.out _).mono ?_); rintro er w3 ⟨rfl, q3⟩; have HQ3 : Hid (Below wj.heap.size wj w3) := hid (HB0.out.drew.trans (q3.mono HB0.out.drew.size)); clear q3)))
        all_goals
          go_wp2_with fail
          go_roundw
          case rel => exact ⟨j + 1, by omega, by go_num, HPX, hid (HB.out.trans (HQ3.out.mono HB.out.size))⟩
          case measure => simp [intOf]; omega
    · have HE : Hid (allN (ltN (fun a b : Ro => lessL a.1 a.2 b.1 b.2) l) (n - 1) = true) := hid ((allN_iff _ _).2 (fun i hi => HP.out i (by omega)))
      have hge : ¬ (j : Int) + 1 < (n : Int) := by omega
      go_wp2_with fail
      go_ret
      exact ⟨by rw [HE.out]; rfl, HB.out⟩
set_option maxHeartbeats 8000000 in
theorem pascI_any (A : Option Addr) (l : List (Int × Int)) (n c : Nat) (hn : l.length = n) (hm : n ≤ 1000000000) (w : World) (h : Els encI w w.heap.size A l) :
    Calls Tryz.prog 71 #[.slice A n c, .func (.func 72) #[] #[]] w fun e w' => e = .returned (.bool (allN (ltN (fun a b : Int × Int => beforeI a.1 a.2 b.1 b.2) l) (n - 1))) ∧ Below w.heap.size w w' := by
  have HN := hid hn
  have HX := hid (fun W (hW : Below w.heap.size w W) => (h.below hW).more hW.size)
  clear h hn
  go_enter Tryz.func71, Tryz.ntmps71
  go_wp2_with fail
  go_loopw [5] (fun i wr => ∃ k : Nat, k ≤ n - 1 ∧ i = .int .i64 ((k : Int) + 1) ∧ Hid (∀ j, j < k → ltN (fun a b : Int × Int => beforeI a.1 a.2 b.1 b.2) l j = true) ∧ Hid (Below w.heap.size w wr)) (fun i _ => n - (intOf i).toNat)
  case atStart => exact ⟨0, Nat.zero_le _, rfl, hid (fun j hj => absurd hj (by omega)), hid (Below.refl _ _)⟩
  case round =>
    obtain ⟨wj, hwj⟩ : ∃ x, x = wr := ⟨_, rfl⟩
    subst hwj
    obtain ⟨j, hk, rfl, HP, HB⟩ := hrel
    by_cases hlt : j + 1 < n
    · obtain ⟨r, hr⟩ : ∃ x, l[j + 1]? = some x := ⟨_, List.getElem?_eq_getElem (by rw [HN.out]; exact hlt)⟩
      obtain ⟨p, hp⟩ : ∃ x, l[j]? = some x := ⟨_, List.getElem?_eq_getElem (by rw [HN.out]; omega)⟩
      obtain ⟨ad, aj, hA, hb, haj, hbj, a0, a1s⟩ := (HX.out _ HB.out).get hr
      subst hA
      obtain ⟨ad2, ap, hA2, hb2, hap, hbp, b0, bs⟩ := (HX.out _ HB.out).get hp
      obtain rfl := Option.some.inj hA2
      have haj : ad.add ((j + 1) * 2) = aj := haj
      have hap : ad.add (j * 2) = ap := hap
      have c0 := a0 _ rfl
      have c1 := a1s 1 _ (by omega) rfl
      have d0 := b0 _ rfl
      have d1 := bs 1 _ (by omega) rfl
      have HLT : Hid (ltN (fun a b : Int × Int => beforeI a.1 a.2 b.1 b.2) l j = (fun a b : Int × Int => beforeI a.1 a.2 b.1 b.2) p r) := hid (ltN_at hp hr)
      have HLE := hid (fun W => before_any p.1 p.2 r.1 r.2 W)
      obtain ⟨y0, y1⟩ := p
      obtain ⟨z0, z1⟩ := r
      simp only [encI] at HLE HLT c0 c1 d0 d1
      have HKS : Hid (∀ W, Below wj.heap.size wj W → W.cell? aj = some (.int .i64 z0) ∧ W.cell? ⟨aj.block, aj.off + 1, none⟩ = some (.int .i64 z1) ∧ W.cell? ap = some (.int .i64 y0) ∧ W.cell? ⟨ap.block, ap.off + 1, none⟩ = some (.int .i64 y1)) := hid (fun W hW => by
        have h1 : aj.block < wj.heap.size := by rw [hbj]; have := HB.out.size; omega
        have h2 : ap.block < wj.heap.size := by rw [hbp]; have := HB.out.size; omega
        exact ⟨(hW.cell h1).trans c0, (hW.cell (p := ⟨aj.block, aj.off + 1, none⟩) h1).trans c1, (hW.cell h2).trans d0, (hW.cell (p := ⟨ap.block, ap.off + 1, none⟩) h2).trans d1⟩)
      have HLE2 : Hid (∀ W, Calls Tryz.prog 72 #[.agg #[.int .i64 y0, .int .i64 y1], .agg #[.int .i64 z0, .int .i64 z1]] W fun e W' => e = .returned (.bool (ltN (fun a b : Int × Int => beforeI a.1 a.2 b.1 b.2) l j)) ∧ Below W.heap.size W W') := hid (fun W => by rw [HLT.out]; exact HLE.out W)
      obtain ⟨b, hbb⟩ : ∃ b, ltN (fun a b : Int × Int => beforeI a.1 a.2 b.1 b.2) l j = b := ⟨_, rfl⟩
      rw [hbb] at HLE2
      have HBJ := hid hbb
      have e0 : (((j + 1 : Nat) : Int)) = (j : Int) + 1 := by omega
      have e3 : (j : Int) + 1 - 1 = (j : Int) := by omega
      have e4 : IntKind.i64.wrap ((j : Int) + 1 - 1) = (j : Int) := by rw [e3, IntKind.wrap_i64]; omega
      have hj0 : (0 : Int) ≤ (j : Int) := Int.natCast_nonneg _
      have e5 : IntKind.i64.wrap (j : Int) = (j : Int) := by rw [IntKind.wrap_i64]; omega
      have hj2 : (j : Int) + 1 < (n : Int) := by omega
      have hj3 : (0 : Int) ≤ (j : Int) + 1 := by omega
      have hj1 : (j : Int) < (n : Int) := by omega
      have hq1 : (1 : Int) + (j : Int) = (j : Int) + 1 := by omega
      have t1 : ((j : Int) + 1).toNat = j + 1 := by omega
      have HB0 := hid (Below.refl wj.heap.size wj)
      clear hr hp hb hb2 hbj hbp a0 a1s b0 bs hbb HLT HLE c0 c1 d0 d1
      go_wp2_with fail
      cases b
      · have HE : Hid (allN (ltN (fun a b : Int × Int => beforeI a.1 a.2 b.1 b.2) l) (n - 1) = false) := hid (allN_false (j := j) (by omega) HBJ.out)
        go_region_held3 (fun W => W.cell? aj = some (.int .i64 z0) ∧ W.cell? ⟨aj.block, aj.off + 1, none⟩ = some (.int .i64 z1) ∧ W.cell? ap = some (.int .i64 y0) ∧ W.cell? ⟨ap.block, ap.off + 1, none⟩ = some (.int .i64 y1))
          (first | exact HKS.out _ HB0.out.drew | exact HKS.out _ HQ3.out)
          ((first | (go_at_call 72; (refine (HLE2.out _).mono ?_); rintro er w3 ⟨rfl, q3⟩; have HQ3 : Hid (Below wj.heap.size wj w3) := hid (HB0.out.drew.trans (q3.mono HB0.out.drew.size)); clear q3)))
        all_goals
          go_wp2_with fail
          go_ret
          exact ⟨by rw [HE.out]; rfl, HB.out.trans (HQ3.out.mono HB.out.size)⟩
      · have HPX : Hid (∀ i, i < j + 1 → ltN (fun a b : Int × Int => beforeI a.1 a.2 b.1 b.2) l i = true) := hid (fun i hi => by
          rcases Nat.lt_or_ge i j with h1 | h1
          · exact HP.out i h1
          · rw [show i = j by omega]; exact HBJ.out)
        go_region_held3 (fun W => W.cell? aj = some (.int .i64 z0) ∧ W.cell? ⟨aj.block, aj.off + 1, none⟩ = some (.int .i64 z1) ∧ W.cell? ap = some (.int .i64 y0) ∧ W.cell? ⟨ap.block, ap.off + 1, none⟩ = some (.int .i64 y1))
          (first | exact HKS.out _ HB0.out.drew | exact HKS.out _ HQ3.out)
          ((first | (go_at_call 72; (refine (HLE2.out _).mono ?_); rintro er w3 ⟨rfl, q3⟩; have HQ3 : Hid (Below wj.heap.size wj w3) := hid (HB0.out.drew.trans (q3.mono HB0.out.drew.size)); clear q3)))
        all_goals
          go_wp2_with fail
          go_roundw
          case rel => exact ⟨j + 1, by omega, by go_num, HPX, hid (HB.out.trans (HQ3.out.mono HB.out.size))⟩
          case measure => simp [intOf]; omega
    · have HE : Hid (allN (ltN (fun a b : Int × Int => beforeI a.1 a.2 b.1 b.2) l) (n - 1) = true) := hid ((allN_iff _ _).2 (fun i hi => HP.out i (by omega)))
      have hge : ¬ (j : Int) + 1 < (n : Int) := by omega
      go_wp2_with fail
      go_ret
      exact ⟨by rw [HE.out]; rfl, HB.out⟩
end Go.Proofs.YtaadmgbmaekicaaGreatDoor.Sh
