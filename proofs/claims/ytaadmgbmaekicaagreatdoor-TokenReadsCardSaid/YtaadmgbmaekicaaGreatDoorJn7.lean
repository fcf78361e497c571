/-
  Same of the document's own answers, by contract.
-/
import Derived.Test.YtaadmgbmaekicaaGreatDoorJn2
import Derived.Test.YtaadmgbmaekicaaGreatDoorJn6
import Derived.WalkKit
import Derived.Lib.Strings
import Derived.Laws.RangeAny
set_option linter.unusedVariables false
set_option linter.unusedSimpArgs false
namespace Go.Proofs.YtaadmgbmaekicaaGreatDoor.Sh
open Go Go.RowKit
/-- Same: a loop that only reads. -/
theorem take_eq_succ {xs ys : List UInt8} {k : Nat} {x y : UInt8} (hx : xs[k]? = some x) (hy : ys[k]? = some y) (h : xs.take k = ys.take k) (e : x = y) : xs.take (k + 1) = ys.take (k + 1) := by
  rw [take_succ_of hx, take_succ_of hy, h, e]
theorem ne_of_get {xs ys : List UInt8} {k : Nat} {x y : UInt8} (hx : xs[k]? = some x) (hy : ys[k]? = some y) (e : x.toNat ≠ y.toNat) : decide (xs = ys) = false := by
  rw [decide_eq_false_iff_not]
  rintro rfl
  rw [hx] at hy
  injection hy with hy
  exact e (by rw [hy])

set_option maxHeartbeats 1000000 in
theorem same_any (A B : Option Addr) (xs ys : List UInt8) (c d : Nat) (hm : xs.length ≤ 1099511627776) (hm2 : ys.length ≤ 1099511627776) (w : World) (h : Byt w w.heap.size A xs) (h' : Byt w w.heap.size B ys) :
    Calls Tryz.prog 19 #[.slice A xs.length c, .slice B ys.length d] w fun e w' => e = .returned (.bool (decide (xs = ys))) ∧ ∃ k, w' = w.drewN k := by
  by_cases hlen : xs.length = ys.length
  · obtain ⟨n, hn⟩ : ∃ n, xs.length = n := ⟨_, rfl⟩
    have hn' : ys.length = n := by omega
    rw [hn, hn']
    have HN := hid hn
    have HN' := hid hn'
    have hmn : n ≤ 1099511627776 := by omega
    clear hlen hn hn' hm hm2
    go_enter Tryz.func19, Tryz.ntmps19
    go_wp2
    go_loopw [5] (fun i wr => ∃ k : Nat, k ≤ n ∧ i = .int .i64 k ∧ Hid (xs.take k = ys.take k) ∧ Hid (∃ q, wr = w.drewN q)) (fun i _ => n - (intOf i).toNat)
    case atStart => exact ⟨0, Nat.zero_le _, rfl, hid rfl, hid ⟨0, rfl⟩⟩
    case round =>
      obtain ⟨k, hk, rfl, hpre, hw⟩ := hrel
      have hwr : Below w.heap.size w wr := by obtain ⟨q, rfl⟩ := hw.out; exact below_drewN (Below.refl _ _) q
      by_cases hlt : k < n
      · obtain ⟨ad, x, rfl, had, hx, hcell⟩ := (h.below hwr).get (k := k) (by rw [HN.out]; exact hlt)
        obtain ⟨bd, y, rfl, hbd, hy, hcell'⟩ := (h'.below hwr).get (k := k) (by rw [HN'.out]; exact hlt)
        have hx8 := lt8 x
        have hy8 := lt8 y
        have HX := hid hx
        have HY := hid hy
        have hk0 : (0 : Int) ≤ (k : Int) := Int.natCast_nonneg _
        have hk1 : (k : Int) < (n : Int) := by omega
        clear hx hy h h' hwr
        go_wp2_with fail
        go_quiet (fail)
        go_wp2
        · have hne : ((x.toNat : Int) != (y.toNat : Int)) = true := by assumption
          have he : decide (xs = ys) = false := ne_of_get HX.out HY.out (by rw [bne_iff_ne] at hne; omega)
          have HE := hid he
          have HW : Hid (∃ q, wr.drewN nq = w.drewN q) := by
            obtain ⟨q, rfl⟩ := hw.out
            exact ⟨q + nq, World.drewN_drewN _ _ _⟩
          clear he hne
          go_ret
          exact ⟨by rw [HE.out]; rfl, HW.out⟩
        · have heq : ((x.toNat : Int) != (y.toNat : Int)) = false := by assumption
          have HT : Hid (xs.take (k + 1) = ys.take (k + 1)) := take_eq_succ HX.out HY.out hpre.out (UInt8.toNat_inj.1 (by simp at heq; omega))
          have HW : Hid (∃ q, wr.drewN nq = w.drewN q) := by
            obtain ⟨q, rfl⟩ := hw.out
            exact ⟨q + nq, World.drewN_drewN _ _ _⟩
          clear heq
          go_roundw
          case rel => exact ⟨k + 1, by omega, by go_num, HT, HW⟩
          case measure => simp [intOf]; omega
      · obtain rfl : k = n := by omega
        have he : decide (xs = ys) = true := by
          have := hpre.out
          rw [List.take_of_length_le (by rw [HN.out]; omega), List.take_of_length_le (by rw [HN'.out]; omega)] at this
          simpa using this
        have HE := hid he
        clear he
        go_wp2
        go_ret
        exact ⟨by rw [HE.out]; rfl, hw.out⟩
  · have he : decide (xs = ys) = false := by
      rw [decide_eq_false_iff_not]
      rintro rfl
      exact hlen rfl
    have HE := hid he
    clear he
    have hne : ((xs.length : Int) != (ys.length : Int)) = true := by rw [bne_iff_ne]; omega
    have hne2 : ((xs.length : Int) == (ys.length : Int)) = false := by rw [beq_eq_false_iff_ne]; omega
    go_enter Tryz.func19, Tryz.ntmps19
    go_wp2
    go_ret
    exact ⟨by rw [HE.out]; rfl, 0, rfl⟩
theorem same_eq (A B : Option Addr) (l : List UInt8) (n c d : Nat) (hn : l.length = n) (hm : n ≤ 1099511627776) (w : World) (h : Byt w w.heap.size A l) (h' : Byt w w.heap.size B l) :
    Calls Tryz.prog 19 #[.slice A n c, .slice B n d] w fun e w' => e = .returned (.bool true) ∧ ∃ k, w' = w.drewN k := by
  subst hn
  refine (same_any A B l l c d hm hm w h h').mono fun e w' ⟨he, hw⟩ => ⟨?_, hw⟩
  rw [he]
  simp
end Go.Proofs.YtaadmgbmaekicaaGreatDoor.Sh
/-
  A cursor with its bytes: its calls by contract, beside other cursors.
-/
namespace Go.Proofs.YtaadmgbmaekicaaGreatDoor.Sh
open Go Go.RowKit

structure Cu (T : TypeId) (w : World) (lo hi g : Nat) (A : Option Addr) (n c : Nat) (l : List UInt8) (p : Nat) (e : Int) : Prop where
  row : CuRow T w g A n c p e
  byt : Byt w hi A l
  low : ∀ ad, A = some ad → lo ≤ ad.block
  hi : hi ≤ g
  len : l.length = n
  cap : n ≤ c
  max : n ≤ 1099511627776
  place : p ≤ n
theorem Byt.over {w w' : World} {B lo g : Nat} {A : Option Addr} {l : List UInt8} (h : Byt w B A l) (hlo : ∀ ad, A = some ad → lo ≤ ad.block) (hB : B ≤ w.heap.size) (hg : w.grownBy w' (some g)) (h2 : g < lo ∨ B ≤ g) : Byt w' B A l := by
  intro hn
  obtain ⟨ad, e, hb, hc⟩ := h hn
  refine ⟨ad, e, hb, fun j x hx => (hg.cell_far _ (by rw [block_add]; omega) (fun e2 => ?_)).trans (hc j x hx)⟩
  injection e2 with e2
  rw [block_add] at e2
  have := hlo ad e
  omega
section
variable {T : TypeId} {w w' : World} {lo hi g n c p : Nat} {A : Option Addr} {l : List UInt8} {e : Int}
theorem Cu.lt (h : Cu T w lo hi g A n c l p e) : g < w.heap.size := h.row.lt
theorem Cu.below {B : Nat} (h : Cu T w lo hi g A n c l p e) (hb : Below B w w') (hg : g < B) : Cu T w' lo hi g A n c l p e :=
  ⟨h.row.below hb hg, (h.byt.below (hb.mono (by have := h.hi; omega))), h.low, h.hi, h.len, h.cap, h.max, h.place⟩
theorem Cu.other {g' : Nat} (h : Cu T w lo hi g A n c l p e) (hg : w.grownBy w' (some g')) (hne : g' ≠ g) (h2 : g' < lo ∨ hi ≤ g') : Cu T w' lo hi g A n c l p e :=
  ⟨h.row.kept hg (fun e => hne (by injection e)), h.byt.over h.low (by have := h.hi; have := h.lt; omega) hg h2, h.low, h.hi, h.len, h.cap, h.max, h.place⟩
theorem Cu.drewN (h : Cu T w lo hi g A n c l p e) (k : Nat) : Cu T (w.drewN k) lo hi g A n c l p e := ⟨h.row, h.byt, h.low, h.hi, h.len, h.cap, h.max, h.place⟩
theorem Cu.mine {p' : Nat} {e' : Int} (h : Cu T w lo hi g A n c l p e) (hg : w.grownBy w' (some g)) (hr : CuRow T w' g A n c p' e') (hp : p' ≤ n) : Cu T w' lo hi g A n c l p' e' :=
  ⟨hr, h.byt.over h.low (by have := h.hi; have := h.lt; omega) hg (.inr h.hi), h.low, h.hi, h.len, h.cap, h.max, hp⟩
theorem Cu.at (h : Cu T w lo hi g A n c l p e) : Byt w g A l := h.byt.more h.hi
end
theorem numStep_place (l : List UInt8) (p : Nat) (e least most : Int) (hp : p ≤ l.length) : (numStep l p e least most).2.1 ≤ l.length := by
  obtain ⟨V, p', e', h, _, h2, _⟩ := numStep_nat l p e least most hp
  rw [h]; exact h2
theorem textStep_place (l : List UInt8) (p : Nat) (e most : Int) (hp : p ≤ l.length) : (textStep l p e most).2.1 ≤ l.length := by
  unfold textStep
  split
  · exact hp
  · split
    · exact hp
    · split
      · exact hp
      · split
        · exact hp
        · rename_i h _ h4
          obtain ⟨_, h2, _⟩ := look_zero (l := l.drop p) (N := (look (l.drop p)).1) (U := (look (l.drop p)).2.1) (by
            have : (look (l.drop p)).2.2 = 0 := by omega
            rw [← this])
          rw [List.length_drop] at h2
          show p + (look (l.drop p)).2.1 + (look (l.drop p)).1 ≤ l.length
          omega
def StepC (T : TypeId) (w w' : World) (lo hi g : Nat) (A : Option Addr) (n c : Nat) (l : List UInt8) (er : Ending) (v : Value) (p : Nat) (e : Int) : Prop :=
  er = .returned v ∧ Cu T w' lo hi g A n c l p e ∧ w.grownBy w' (some g)
section
variable {w : World} {lo hi g n c p : Nat} {A : Option Addr} {l : List UInt8} {e : Int}
theorem cu_number (h : Cu 76 w lo hi g A n c l p e) (least most : Int) :
    Calls Tryz.prog 87 #[.pointer (some ⟨g, 0, none⟩), .int .i64 least, .int .i64 most] w fun er w' => StepC 76 w w' lo hi g A n c l er (.int .i64 (numStep l p e least most).1) (numStep l p e least most).2.1 (numStep l p e least most).2.2 :=
  (cnum_any g A l n c p e least most h.len h.cap h.max h.place w h.row h.at).mono fun _ _ ⟨h1, h2, h3⟩ => ⟨h1, h.mine h3 h2 (by rw [← h.len]; exact numStep_place _ _ _ _ _ (by rw [h.len]; exact h.place)), h3⟩
theorem cu_text (h : Cu 76 w lo hi g A n c l p e) (most : Int) :
    Calls Tryz.prog 88 #[.pointer (some ⟨g, 0, none⟩), .int .i64 most] w fun er w' => StepC 76 w w' lo hi g A n c l er (.string ⟨(textStep l p e most).1.toArray⟩) (textStep l p e most).2.1 (textStep l p e most).2.2 :=
  (cText_any g A l n c p e most h.len h.cap h.max h.place w h.row h.at).mono fun _ _ ⟨h1, h2, h3⟩ => ⟨h1, h.mine h3 h2 (by rw [← h.len]; exact textStep_place _ _ _ _ (by rw [h.len]; exact h.place)), h3⟩
theorem cu_fail (h : Cu 76 w lo hi g A n c l p e) (z : Int) :
    Calls Tryz.prog 43 #[.pointer (some ⟨g, 0, none⟩), .int .i64 z] w fun er w' => StepC 76 w w' lo hi g A n c l er (.tuple #[]) p (if e = 0 then z else e) :=
  (fail_any g A n c p e z w h.row).mono fun _ _ ⟨h1, h2, h3⟩ => ⟨h1, h.mine h3 h2 h.place, h3⟩
theorem rcu_number (h : Cu 41 w lo hi g A n c l p e) (least most : Int) :
    Calls Tryz.prog 44 #[.pointer (some ⟨g, 0, none⟩), .int .i64 least, .int .i64 most] w fun er w' => StepC 41 w w' lo hi g A n c l er (.int .i64 (numStep l p e least most).1) (numStep l p e least most).2.1 (numStep l p e least most).2.2 :=
  (refCNum_any g A l n c p e least most h.len h.cap h.max h.place w h.row h.at).mono fun _ _ ⟨h1, h2, h3⟩ => ⟨h1, h.mine h3 h2 (by rw [← h.len]; exact numStep_place _ _ _ _ _ (by rw [h.len]; exact h.place)), h3⟩
theorem rcu_text (h : Cu 41 w lo hi g A n c l p e) (most : Int) :
    Calls Tryz.prog 45 #[.pointer (some ⟨g, 0, none⟩), .int .i64 most] w fun er w' => StepC 41 w w' lo hi g A n c l er (.string ⟨(textStep l p e most).1.toArray⟩) (textStep l p e most).2.1 (textStep l p e most).2.2 :=
  (refCText_any g A l n c p e most h.len h.cap h.max h.place w h.row h.at).mono fun _ _ ⟨h1, h2, h3⟩ => ⟨h1, h.mine h3 h2 (by rw [← h.len]; exact textStep_place _ _ _ _ (by rw [h.len]; exact h.place)), h3⟩
theorem rcu_fail (h : Cu 41 w lo hi g A n c l p e) (z : Int) :
    Calls Tryz.prog 47 #[.pointer (some ⟨g, 0, none⟩), .int .i64 z] w fun er w' => StepC 41 w w' lo hi g A n c l er (.tuple #[]) p (if e = 0 then z else e) :=
  (refFail_any g A n c p e z w h.row).mono fun _ _ ⟨h1, h2, h3⟩ => ⟨h1, h.mine h3 h2 h.place, h3⟩
theorem cu_new (hl : l.length = n) (hL : n ≤ 1099511627776) (w : World) (hb : Byt w w.heap.size A l) :
    Calls Tryz.prog 13 #[.slice A n c] w fun er w' => ∃ g A' c', er = .returned (.pointer (some ⟨g, 0, none⟩)) ∧ Cu 76 w' w.heap.size g g A' n c' l 0 0 ∧ w.heap.size ≤ g ∧ Below w.heap.size w w' :=
  (new_any A l n c hl hL w hb).mono fun _ _ ⟨g, A', c', h1, h2, h3, _, h5, h6, h7, h8⟩ => ⟨g, A', c', h1, ⟨h2, h5, h7, Nat.le_refl _, hl, h3, hL, Nat.zero_le _⟩, h6, h8⟩
end
end Go.Proofs.YtaadmgbmaekicaaGreatDoor.Sh
/-
  Names, domains and roles: what the document asks, on lists of bytes. Plain lemmas; nothing of the program.
-/
namespace Go.Proofs.YtaadmgbmaekicaaGreatDoor.Sh

def letter (x : UInt8) : Bool := 97 ≤ x.toNat && x.toNat ≤ 122
def digit (x : UInt8) : Bool := 48 ≤ x.toNat && x.toNat ≤ 57
/-- A name. -/
def mayL (l : List UInt8) : Bool := match l with
  | [] => false
  | x :: t => letter x && t.all (fun y => letter y || digit y) && decide (t.length ≤ 7)
/-- The domain of a name, 0 if there is none. -/
def numL (l : List UInt8) : Nat := match l with
  | [d, x] => if d = 100 ∧ 49 ≤ x.toNat ∧ x.toNat ≤ 57 then x.toNat - 48 else 0
  | [d, x, y] => if d = 100 ∧ 49 ≤ x.toNat ∧ x.toNat ≤ 57 ∧ 48 ≤ y.toNat ∧ y.toNat ≤ 57 ∧ 10 * (x.toNat - 48) + (y.toNat - 48) ≤ 16 then 10 * (x.toNat - 48) + (y.toNat - 48) else 0
  | _ => 0
/-- The name of a domain, none if there is none. -/
def domL (n : Int) : List UInt8 :=
  if n < 1 ∨ 16 < n then []
  else if n < 10 then [100, UInt8.ofNat (48 + n.toNat)]
  else [100, 49, UInt8.ofNat (38 + n.toNat)]
def roleL (o n : List UInt8) : Bool := mayL n && decide (numL o ≠ 0)
/-- A text cut at its first '.'. -/
def cutDot : List UInt8 → Option (List UInt8 × List UInt8)
  | [] => none
  | x :: t => if x = 46 then some ([], t) else (cutDot t).map fun p => (x :: p.1, p.2)
/-- The role of a text. -/
def readL (l : List UInt8) : Option (List UInt8 × List UInt8) := (cutDot l).filter fun p => roleL p.1 p.2

theorem numL_domL (n : Int) (h1 : 1 ≤ n) (h2 : n ≤ 16) : numL (domL n) = n.toNat := by
  obtain ⟨k, rfl⟩ := Int.eq_ofNat_of_zero_le (show 0 ≤ n by omega)
  have hk1 : 1 ≤ k := by omega
  have hk2 : k ≤ 16 := by omega
  match k, hk1, hk2 with
  | 1, _, _ | 2, _, _ | 3, _, _ | 4, _, _ | 5, _, _ | 6, _, _ | 7, _, _ | 8, _, _ | 9, _, _ | 10, _, _ | 11, _, _ | 12, _, _ | 13, _, _ | 14, _, _ | 15, _, _ | 16, _, _ => decide +kernel
theorem domL_may (n : Int) (h1 : 1 ≤ n) (h2 : n ≤ 16) : mayL (domL n) = true := by
  obtain ⟨k, rfl⟩ := Int.eq_ofNat_of_zero_le (show 0 ≤ n by omega)
  have hk1 : 1 ≤ k := by omega
  have hk2 : k ≤ 16 := by omega
  match k, hk1, hk2 with
  | 1, _, _ | 2, _, _ | 3, _, _ | 4, _, _ | 5, _, _ | 6, _, _ | 7, _, _ | 8, _, _ | 9, _, _ | 10, _, _ | 11, _, _ | 12, _, _ | 13, _, _ | 14, _, _ | 15, _, _ | 16, _, _ => decide +kernel
theorem domL_none (n : Int) (h : n < 1 ∨ 16 < n) : domL n = [] := if_pos h
/-- No other name is a domain's. -/
theorem domL_numL (l : List UInt8) (h : numL l ≠ 0) : domL (numL l : Int) = l ∧ 1 ≤ numL l ∧ numL l ≤ 16 := by
  match l with
  | [] => exact absurd rfl h
  | [_] => exact absurd rfl h
  | [d, x] =>
    have hx : x.toNat < 256 := x.toNat_lt
    by_cases hc : d = 100 ∧ 49 ≤ x.toNat ∧ x.toNat ≤ 57
    · have e : numL [d, x] = x.toNat - 48 := if_pos hc
      rw [e]
      refine ⟨?_, by omega, by omega⟩
      unfold domL
      rw [if_neg (by omega), if_pos (by omega), hc.1]
      congr 2
      apply UInt8.toNat_inj.1
      rw [UInt8.toNat_ofNat']
      omega
    · exact absurd (if_neg hc) h
  | [d, x, y] =>
    have hy : y.toNat < 256 := y.toNat_lt
    by_cases hc : d = 100 ∧ 49 ≤ x.toNat ∧ x.toNat ≤ 57 ∧ 48 ≤ y.toNat ∧ y.toNat ≤ 57 ∧ 10 * (x.toNat - 48) + (y.toNat - 48) ≤ 16
    · have e : numL [d, x, y] = 10 * (x.toNat - 48) + (y.toNat - 48) := if_pos hc
      rw [e]
      refine ⟨?_, by omega, by omega⟩
      unfold domL
      have hx : x = 49 := UInt8.toNat_inj.1 (by show x.toNat = 49; omega)
      rw [if_neg (by omega), if_neg (by omega), hc.1, hx]
      congr 3
      apply UInt8.toNat_inj.1
      rw [UInt8.toNat_ofNat']
      subst hx
      have h49 : (49 : UInt8).toNat = 49 := rfl
      rw [h49] at hc ⊢
      omega
    · exact absurd (if_neg hc) h
  | _ :: _ :: _ :: _ :: _ => exact absurd rfl h
theorem domL_dot (n : Nat) (h2 : n ≤ 16) : ∀ x ∈ domL (n : Int), x ≠ 46 := by
  have h : ∀ k : Fin 17, ∀ x ∈ domL (k.val : Int), x ≠ 46 := by decide +kernel
  exact h ⟨n, by omega⟩
/-- No name has a '.'. -/
theorem no_dot_num {l : List UInt8} (h : numL l ≠ 0) : ∀ x ∈ l, x ≠ 46 := by
  obtain ⟨h1, _, h3⟩ := domL_numL l h
  rw [← h1]
  exact domL_dot _ h3
theorem cutDot_join (o n : List UInt8) (h : ∀ x ∈ o, x ≠ 46) : cutDot (o ++ 46 :: n) = some (o, n) := by
  induction o with
  | nil => rfl
  | cons x t ih =>
    have hx : x ≠ 46 := h x (by simp)
    simp only [List.cons_append, cutDot]
    rw [if_neg hx, ih (fun y hy => h y (by simp [hy]))]
    rfl
theorem cutDot_some {l o n : List UInt8} (h : cutDot l = some (o, n)) : l = o ++ 46 :: n ∧ ∀ x ∈ o, x ≠ 46 := by
  induction l generalizing o n with
  | nil => simp [cutDot] at h
  | cons x t ih =>
    simp only [cutDot] at h
    split at h
    · rename_i hx
      simp only [Option.some.injEq, Prod.mk.injEq] at h
      obtain ⟨rfl, rfl⟩ := h
      exact ⟨by rw [hx]; rfl, fun _ h => absurd h (by simp)⟩
    · rename_i hx
      rw [Option.map_eq_some_iff] at h
      obtain ⟨⟨a, b⟩, h1, h2⟩ := h
      simp only [Prod.mk.injEq] at h2
      obtain ⟨rfl, rfl⟩ := h2
      obtain ⟨h3, h4⟩ := ih h1
      refine ⟨by rw [h3]; rfl, fun y hy => ?_⟩
      rcases List.mem_cons.1 hy with rfl | hy
      · exact hx
      · exact h4 y hy
theorem cutDot_none {l : List UInt8} : cutDot l = none ↔ ∀ x ∈ l, x ≠ 46 := by
  induction l with
  | nil => simp [cutDot]
  | cons x t ih =>
    simp only [cutDot]
    by_cases hx : x = 46
    · simp [hx]
    · rw [if_neg hx]
      simp [ih, hx]
/-- A role is read from its text. -/
theorem readL_text {o n : List UInt8} (h : roleL o n = true) : readL (o ++ 46 :: n) = some (o, n) := by
  have h2 := h
  unfold roleL at h2
  simp only [Bool.and_eq_true, decide_eq_true_eq] at h2
  unfold readL
  rw [cutDot_join o n (no_dot_num h2.2)]
  simp [Option.filter, h]
/-- No other text has it. -/
theorem readL_some {l o n : List UInt8} (h : readL l = some (o, n)) : l = o ++ 46 :: n ∧ roleL o n = true := by
  unfold readL at h
  rw [Option.filter_eq_some_iff] at h
  exact ⟨(cutDot_some h.1).1, h.2⟩
/-- Of a text with its first '.' at i. -/
theorem cutDot_at {l : List UInt8} {i : Nat} (h : ∀ x ∈ l.take i, x ≠ 46) (hi : l[i]? = some 46) : cutDot l = some (l.take i, l.drop (i + 1)) := by
  have hl : l = l.take i ++ 46 :: l.drop (i + 1) := by
    have h2 : i < l.length := (List.getElem?_eq_some_iff.1 hi).1
    have h3 : l[i] = 46 := (List.getElem?_eq_some_iff.1 hi).2
    rw [← h3, List.getElem_cons_drop, List.take_append_drop]
  conv => lhs; rw [hl]
  exact cutDot_join _ _ h
end Go.Proofs.YtaadmgbmaekicaaGreatDoor.Sh
/-
  The document's own May, Number, Domain.
-/
namespace Go.Proofs.YtaadmgbmaekicaaGreatDoor.Sh
open Go Go.RowKit

/-- A byte of a text. -/
theorem sget (s : ByteArray) {j : Nat} {x : UInt8} (hx : s.data.toList[j]? = some x) : ∃ h : j < s.size, s[j]'h = x := by
  have h : j < s.data.toList.length := (List.getElem?_eq_some_iff.1 hx).1
  rw [size_list] at h
  refine ⟨h, ?_⟩
  have h2 := (List.getElem?_eq_some_iff.1 hx).2
  rw [← h2]
  rfl
def okName (y : UInt8) : Bool := letter y || digit y
theorem mayL_cons (x : UInt8) (t : List UInt8) : mayL (x :: t) = (letter x && t.all okName && decide (t.length ≤ 7)) := rfl

set_option maxHeartbeats 1000000 in
theorem refMay_any (s : ByteArray) (w : World) :
    Calls Tryz.prog 33 #[.string s] w fun e w' => e = .returned (.bool (mayL s.data.toList)) ∧ w = w' := by
  obtain ⟨l, hl⟩ : ∃ l, s.data.toList = l := ⟨_, rfl⟩
  have hsz := size_list s
  rw [hl] at hsz ⊢
  cases l with
  | nil =>
    have h1 : (s.size : Int) < 1 := by simp at hsz; omega
    go_enter Tryz.func33, Tryz.ntmps33
    go_wp2
    go_ret
    exact ⟨rfl, rfl⟩
  | cons x t =>
    have h1 : ¬ (s.size : Int) < 1 := by simp at hsz; omega
    have h10 : (0 : Int) < (s.size : Int) := by omega
    by_cases h8 : 8 < s.size
    · have h8' : (8 : Int) < (s.size : Int) := by omega
      have HE : Hid (mayL (x :: t) = false) := hid (by rw [mayL_cons]; have : ¬ t.length ≤ 7 := by simp at hsz; omega
                                                       simp [this])
      clear hsz hl
      go_enter Tryz.func33, Tryz.ntmps33
      go_wp2
      go_ret
      exact ⟨by rw [HE.out]; rfl, rfl⟩
    · have h8' : ¬ (8 : Int) < (s.size : Int) := by omega
      obtain ⟨h0, hx0⟩ := sget s (j := 0) (x := x) (by rw [hl]; rfl)
      have hx8 := lt8 x
      have HL := hid hl
      have HSZ := hid hsz
      clear hl hsz
      by_cases hlo : x.toNat < 97
      · have hlo' : (x.toNat : Int) < 97 := by omega
        have HE : Hid (mayL (x :: t) = false) := hid (by rw [mayL_cons]; have : letter x = false := by unfold letter; simp; omega
                                                         simp [this])
        go_enter Tryz.func33, Tryz.ntmps33
        go_wp2
        go_ret
        exact ⟨by rw [HE.out]; rfl, rfl⟩
      by_cases hhi : 122 < x.toNat
      · have hlo' : ¬ (x.toNat : Int) < 97 := by omega
        have hhi' : 122 < (x.toNat : Int) := by omega
        have HE : Hid (mayL (x :: t) = false) := hid (by rw [mayL_cons]; have : letter x = false := by unfold letter; simp; omega
                                                         simp [this])
        go_enter Tryz.func33, Tryz.ntmps33
        go_wp2
        go_ret
        exact ⟨by rw [HE.out]; rfl, rfl⟩
      have hlo' : ¬ (x.toNat : Int) < 97 := by omega
      have hhi' : ¬ 122 < (x.toNat : Int) := by omega
      have HE : Hid (mayL (x :: t) = t.all okName) := hid (by
        rw [mayL_cons]
        have e1 : letter x = true := by unfold letter; simp; omega
        have e2 : t.length ≤ 7 := by have := HSZ.out; simp at this; omega
        simp [e1, e2])
      have HTN : Hid (t.length + 1 = s.size) := hid (by have := HSZ.out; simpa using this)
      go_enter Tryz.func33, Tryz.ntmps33
      go_wp2
      go_loopw [3] (fun i wr => ∃ k : Nat, i = .int .i64 (k : Int) ∧ 1 ≤ k ∧ k ≤ s.size ∧ Hid ((t.take (k - 1)).all okName = true) ∧ w = wr) (fun i _ => s.size - (intOf i).toNat)
      case atStart => exact ⟨1, rfl, by omega, by omega, hid (by simp), rfl⟩
      case round =>
        obtain ⟨k, rfl, hk1, hk, HP, rfl⟩ := hrel
        by_cases hlt : k < s.size
        · obtain ⟨y, hy⟩ : ∃ y, t[k - 1]? = some y := ⟨_, List.getElem?_eq_getElem (by have := HTN.out; omega)⟩
          obtain ⟨hk2, hsy⟩ := sget s (j := k) (x := y) (by rw [HL.out, show k = k - 1 + 1 by omega, List.getElem?_cons_succ]; exact hy)
          have hy8 := lt8 y
          have hlt' : (k : Int) < (s.size : Int) := by omega
          have hk0 : (0 : Int) ≤ (k : Int) := Int.natCast_nonneg _
          have hok : okName y = true → (t.take (k + 1 - 1)).all okName = true := fun h => by
            rw [show k + 1 - 1 = k - 1 + 1 by omega, take_snoc_of hy, List.all_append, HP.out]
            simp [h]
          have hno : okName y = false → t.all okName = false := fun h => by
            rw [List.all_eq_false]
            exact ⟨y, List.mem_of_getElem? hy, by simp [h]⟩
          clear hy
          by_cases ha : y.toNat < 48
          · have fa0 : ¬ 97 ≤ (y.toNat : Int) := by omega
            have fa1 : ¬ 48 ≤ (y.toNat : Int) := by omega
            have HF : Hid (t.all okName = false) := hid (hno (by unfold okName letter digit; simp; omega))
            clear hok hno
            go_wp2
            go_ret
            exact ⟨by rw [HE.out, HF.out]; rfl, rfl⟩
          by_cases hb : y.toNat ≤ 57
          · have fb0 : ¬ 97 ≤ (y.toNat : Int) := by omega
            have fb1 : 48 ≤ (y.toNat : Int) := by omega
            have fb2 : (y.toNat : Int) ≤ 57 := by omega
            have HO : Hid ((t.take (k + 1 - 1)).all okName = true) := hid (hok (by unfold okName letter digit; simp; omega))
            clear hok hno
            go_wp2
            go_roundw
            case rel => exact ⟨k + 1, by go_num, by omega, by omega, HO, trivial⟩
            case measure => simp [intOf]; omega
          by_cases hc : y.toNat < 97
          · have fc0 : ¬ 97 ≤ (y.toNat : Int) := by omega
            have fc1 : 48 ≤ (y.toNat : Int) := by omega
            have fc2 : ¬ (y.toNat : Int) ≤ 57 := by omega
            have HF : Hid (t.all okName = false) := hid (hno (by unfold okName letter digit; simp; omega))
            clear hok hno
            go_wp2
            go_ret
            exact ⟨by rw [HE.out, HF.out]; rfl, rfl⟩
          by_cases hd : y.toNat ≤ 122
          · have fd0 : 97 ≤ (y.toNat : Int) := by omega
            have fd1 : (y.toNat : Int) ≤ 122 := by omega
            have fd2 : 48 ≤ (y.toNat : Int) := by omega
            have fd3 : ¬ (y.toNat : Int) ≤ 57 := by omega
            have HO : Hid ((t.take (k + 1 - 1)).all okName = true) := hid (hok (by unfold okName letter digit; simp; omega))
            clear hok hno
            go_wp2
            go_roundw
            case rel => exact ⟨k + 1, by go_num, by omega, by omega, HO, trivial⟩
            case measure => simp [intOf]; omega
          have fe0 : 97 ≤ (y.toNat : Int) := by omega
          have fe1 : ¬ (y.toNat : Int) ≤ 122 := by omega
          have fe2 : 48 ≤ (y.toNat : Int) := by omega
          have fe3 : ¬ (y.toNat : Int) ≤ 57 := by omega
          have HF : Hid (t.all okName = false) := hid (hno (by unfold okName letter digit; simp; omega))
          clear hok hno
          go_wp2
          go_ret
          exact ⟨by rw [HE.out, HF.out]; rfl, rfl⟩
        · obtain rfl : k = s.size := by omega
          have HO : Hid (t.all okName = true) := hid (by
            have := HP.out
            rwa [List.take_of_length_le (by have := HTN.out; omega)] at this)
          have hlt' : ¬ (s.size : Int) < (s.size : Int) := by omega
          go_wp2
          go_ret
          exact ⟨by rw [HE.out, HO.out]; rfl, rfl⟩
end Go.Proofs.YtaadmgbmaekicaaGreatDoor.Sh
