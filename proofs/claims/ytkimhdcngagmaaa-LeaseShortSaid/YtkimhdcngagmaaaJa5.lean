/-
  Books of leases, pure: what is held by domain, the stamps; the document's list of what is held and its list of stamps; that both say the same.
-/
import Derived.Test.YtkimhdcngagmaaaJa4
set_option linter.unusedVariables false
set_option linter.unusedSimpArgs false
namespace Go.Proofs.Ytkimhdcngagmaaa.Sh
open Go Go.RowKit

/-- A credential that is held, and its end. -/
structure Hl where
  c : Crd
  u : Int
def hlId (d q : Int) (h : Hl) : Bool := idIs d q h.c
def overB (now u : Int) : Bool := decide (tk u ≤ tk now)
def updF {α : Type} (f : Int → α) (d : Int) (x : α) : Int → α := fun z => if z = d then x else f z
theorem updF_at {α : Type} (f : Int → α) (d : Int) (x : α) : updF f d x d = x := if_pos rfl
theorem updF_ne {α : Type} (f : Int → α) {d z : Int} (x : α) (h : z ≠ d) : updF f d x z = f z := if_neg h
/-- The program's book. -/
structure LB where
  own : Int
  st : Int → Option Int
  hl : Int → List Hl
def mayH (own d a : Int) : Bool := decide ((1 ≤ d ∧ d ≤ 16) ∧ d ≠ own ∧ 0 ≤ a ∧ a ≤ 1099511627776)
def LB.hear (b : LB) (d a : Int) : Int × LB := if mayH b.own d a = true then (0, ⟨b.own, updF b.st d (some (max ((b.st d).getD 0) a)), b.hl⟩) else (1, b)
def leasedP (d u : Int) (out : List Crd) : List Hl := (out.filter fun c => decide (c.d = d)).map fun c => ⟨c, u⟩
def LB.learn (b : LB) (d : Int) (out : List Crd) (a : Int) : Int × LB :=
  if mayH b.own d a = true ∧ (b.st d).getD 0 ≤ a then
    (if (leasedP d (addT a 56) out).length ≤ 24 then (0, ⟨b.own, updF b.st d (some a), updF b.hl d (leasedP d (addT a 56) out)⟩) else (12, b))
  else (1, b)
def liveL (now : Int) (l : List Hl) : List Hl := l.filter fun h => !overB now h.u
def allD (f : Int → List Hl) : Nat → List Hl
  | 0 => []
  | n + 1 => allD f n ++ f ((n : Int) + 1)
def LB.held (b : LB) (now : Int) : List Hl := liveL now (allD b.hl 16)
def LB.endP (b : LB) (x : Int × Int) : Option Int := ((b.hl x.1).find? (hlId x.1 x.2)).map (·.u)
def LB.goodU (b : LB) (now : Int) (x : Int × Int) : Bool := decide (x.1 = b.own) || (match b.endP x with | some u => !overB now u | none => false)
def LB.ends (b : LB) (ids : List (Int × Int)) : List Int := (ids.filter fun x => !decide (x.1 = b.own)).map fun x => (b.endP x).getD 0
def LB.untilP (b : LB) (ids : List (Int × Int)) (now : Int) : Int × Int := if ids.all (b.goodU now) = true then (leastT (b.ends ids), 0) else (0, 13)
def LB.fresh (b : LB) (d now : Int) : Bool := decide (d = b.own) || (match b.st d with | some a => !overB now (addT a 48) | none => false)
def LB.stale (b : LB) (ids : List (Int × Int)) (now : Int) : Bool := ids.any fun x => !b.fresh x.1 now
/-- The document's. -/
structure RB where
  own : Int
  L : List Hl
  S : List (Int × Int)
def stampR (S : List (Int × Int)) (d : Int) : Int := match S.find? (fun x => decide (x.1 = d)) with | some x => x.2 | none => -1
def putS (S : List (Int × Int)) (d a : Int) : List (Int × Int) := (S.filter fun x => !decide (x.1 = d)) ++ [(d, a)]
def RB.hear (r : RB) (d a : Int) : Int × RB := if mayH r.own d a = true then (if a ≤ stampR r.S d then (0, r) else (0, ⟨r.own, r.L, putS r.S d a⟩)) else (1, r)
def putL (L : List Hl) (d : Int) (o : List Hl) : List Hl := (L.filter fun h => decide (h.c.d < d)) ++ o ++ (L.filter fun h => decide (d < h.c.d))
def RB.learn (r : RB) (d : Int) (out : List Crd) (a : Int) : Int × RB :=
  if mayH r.own d a = true ∧ stampR r.S d ≤ a then
    (if (leasedP d (addT a 56) out).length ≤ 24 then RB.hear ⟨r.own, putL r.L d (leasedP d (addT a 56) out), r.S⟩ d a else (12, r))
  else (1, r)
def RB.held (r : RB) (now : Int) : List Hl := liveL now r.L
def minR (l : List Hl) (m : Int) (x : Int × Int) : Int := (l.filter (hlId x.1 x.2)).foldl (fun m h => min m h.u) m
def RB.goodU (r : RB) (l : List Hl) (x : Int × Int) : Bool := decide (x.1 = r.own) || l.any (hlId x.1 x.2)
def RB.least (r : RB) (l : List Hl) (ids : List (Int × Int)) : Int := (ids.filter fun x => !decide (x.1 = r.own)).foldl (minR l) 1099511627776
def RB.untilP (r : RB) (ids : List (Int × Int)) (now : Int) : Int × Int := if ids.all (r.goodU (r.held now)) = true then (r.least (r.held now) ids, 0) else (0, 13)
def RB.fresh (r : RB) (d now : Int) : Bool := decide (d = r.own) || (decide (0 ≤ stampR r.S d) && !overB now (addT (stampR r.S d) 48))
def RB.stale (r : RB) (ids : List (Int × Int)) (now : Int) : Bool := ids.any fun x => !r.fresh x.1 now
structure Inv (b : LB) : Prop where
  own : 1 ≤ b.own ∧ b.own ≤ 16
  st : ∀ d a, b.st d = some a → 1 ≤ d ∧ d ≤ 16 ∧ d ≠ b.own ∧ 0 ≤ a ∧ a ≤ 1099511627776
  hd : ∀ d h, h ∈ b.hl d → 1 ≤ d ∧ d ≤ 16 ∧ d ≠ b.own ∧ h.c.d = d ∧ 0 ≤ h.u ∧ h.u ≤ 1099511627776
  le : ∀ d, (b.hl d).length ≤ 24
  one : ∀ d x y, ((b.hl d).filter (hlId x y)).length ≤ 1
structure Lk (b : LB) (r : RB) : Prop where
  own : r.own = b.own
  L : r.L = allD b.hl 16
  S : ∀ d, stampR r.S d = (b.st d).getD (-1)
theorem mayH_iff (o d a : Int) : mayH o d a = true ↔ (1 ≤ d ∧ d ≤ 16) ∧ d ≠ o ∧ 0 ≤ a ∧ a ≤ 1099511627776 := by unfold mayH; rw [decide_eq_true_eq]
theorem leasedP_mem {d u : Int} {out : List Crd} {h : Hl} (hh : h ∈ leasedP d u out) : h.c ∈ out ∧ h.c.d = d ∧ h.u = u := by
  unfold leasedP at hh
  obtain ⟨c, hc, rfl⟩ := List.mem_map.1 hh
  obtain ⟨h1, h2⟩ := List.mem_filter.1 hc
  exact ⟨h1, by simpa using h2, rfl⟩
theorem leasedP_one {d u : Int} {out l : List Crd} (hC : CountsOf out l) (x y : Int) : ((leasedP d u out).filter (hlId x y)).length ≤ 1 := by
  unfold leasedP
  rw [List.filter_map, List.length_map]
  have h1 : ((out.filter fun c => decide (c.d = d)).filter (hlId x y ∘ fun c => (⟨c, u⟩ : Hl))).length ≤ (out.filter (idIs x y)).length := by
    rw [List.filter_filter, show (out.filter (idIs x y)) = out.filter (idIs x y) from rfl]
    have : (out.filter fun a => (hlId x y ∘ fun c => (⟨c, u⟩ : Hl)) a && decide (a.d = d)) = (out.filter (idIs x y)).filter fun c => decide (c.d = d) := by
      rw [List.filter_filter]
      congr 1
      funext a
      rw [Bool.and_comm]
      rfl
    rw [this]
    exact List.length_filter_le _ _
  rw [hC.2 x y] at h1
  have h2 : (List.take 1 (List.filter (fun c => idIs x y c && mayC c) l)).length ≤ 1 := by rw [List.length_take]; omega
  omega
theorem allD_mem {f : Int → List Hl} {n : Nat} {h : Hl} : h ∈ allD f n ↔ ∃ i : Nat, i < n ∧ h ∈ f ((i : Int) + 1) := by
  induction n with
  | zero => exact ⟨fun h => (by cases h), fun ⟨i, hi, _⟩ => absurd hi (by omega)⟩
  | succ n ih =>
    unfold allD
    rw [List.mem_append, ih]
    constructor
    · rintro (⟨i, hi, hm⟩ | hm)
      · exact ⟨i, by omega, hm⟩
      · exact ⟨n, by omega, hm⟩
    · rintro ⟨i, hi, hm⟩
      rcases Nat.lt_or_ge i n with h1 | h1
      · exact .inl ⟨i, h1, hm⟩
      · rw [show i = n by omega] at hm; exact .inr hm
theorem filter_none' {α : Type} {p : α → Bool} {l : List α} (h : ∀ a ∈ l, p a = false) : l.filter p = [] := List.filter_eq_nil_iff.2 fun a ha => by rw [h a ha]; simp
theorem filter_all' {α : Type} {p : α → Bool} {l : List α} (h : ∀ a ∈ l, p a = true) : l.filter p = l := List.filter_eq_self.2 h
theorem putL_allD {f : Int → List Hl} (hf : ∀ d h, h ∈ f d → h.c.d = d) {d : Int} (hd : 1 ≤ d) (o : List Hl) : ∀ n : Nat,
    ((allD f n).filter fun h => decide (h.c.d < d)) ++ (if d ≤ n then o else []) ++ ((allD f n).filter fun h => decide (d < h.c.d)) = allD (updF f d o) n := by
  intro n
  induction n with
  | zero => rw [if_neg (by omega)]; rfl
  | succ n ih =>
    unfold allD
    rw [← ih, List.filter_append, List.filter_append]
    have hm : ∀ h ∈ f ((n : Int) + 1), h.c.d = (n : Int) + 1 := fun h hh => hf _ h hh
    have hbig : d > n → (allD f n).filter (fun h => decide (d < h.c.d)) = [] := fun hn => filter_none' fun a ha => by
      obtain ⟨i, hi, hm⟩ := allD_mem.1 ha
      have := hf _ a hm
      exact decide_eq_false (by omega)
    rcases Int.lt_trichotomy d ((n : Int) + 1) with h1 | h1 | h1
    · have e1 : (f ((n : Int) + 1)).filter (fun h => decide (h.c.d < d)) = [] := filter_none' fun a ha => decide_eq_false (by have := hm a ha; omega)
      have e2 : (f ((n : Int) + 1)).filter (fun h => decide (d < h.c.d)) = f ((n : Int) + 1) := filter_all' fun a ha => decide_eq_true (by have := hm a ha; omega)
      rw [e1, e2, updF_ne _ _ (by omega), if_pos (by omega), if_pos (by omega)]
      simp [List.append_assoc]
    · have e1 : (f ((n : Int) + 1)).filter (fun h => decide (h.c.d < d)) = [] := filter_none' fun a ha => decide_eq_false (by have := hm a ha; omega)
      have e2 : (f ((n : Int) + 1)).filter (fun h => decide (d < h.c.d)) = [] := filter_none' fun a ha => decide_eq_false (by have := hm a ha; omega)
      rw [e1, e2, hbig (by omega), if_pos (by omega), if_neg (by omega), ← h1, updF_at]
      simp
    · have e1 : (f ((n : Int) + 1)).filter (fun h => decide (h.c.d < d)) = f ((n : Int) + 1) := filter_all' fun a ha => decide_eq_true (by have := hm a ha; omega)
      have e2 : (f ((n : Int) + 1)).filter (fun h => decide (d < h.c.d)) = [] := filter_none' fun a ha => decide_eq_false (by have := hm a ha; omega)
      rw [e1, e2, hbig (by omega), if_neg (by omega), if_neg (by omega), updF_ne _ _ (by omega)]
      simp
theorem allD_id {f : Int → List Hl} (hf : ∀ d h, h ∈ f d → 1 ≤ d ∧ d ≤ 16 ∧ h.c.d = d) (d q : Int) : (allD f 16).filter (hlId d q) = (f d).filter (hlId d q) := by
  have key : ∀ n : Nat, (allD f n).filter (hlId d q) = if 1 ≤ d ∧ d ≤ n then (f d).filter (hlId d q) else [] := by
    intro n
    induction n with
    | zero => rw [if_neg (by omega)]; rfl
    | succ n ih =>
      unfold allD
      rw [List.filter_append, ih]
      by_cases e : (n : Int) + 1 = d
      · rw [if_neg (by omega), if_pos (by omega), e]; rfl
      · have e1 : (f ((n : Int) + 1)).filter (hlId d q) = [] := filter_none' fun a ha => by
          have := (hf _ a ha).2.2
          unfold hlId idIs
          exact decide_eq_false (by omega)
        rw [e1, List.append_nil]
        by_cases h2 : 1 ≤ d ∧ d ≤ n
        · rw [if_pos h2, if_pos (by omega)]
        · rw [if_neg h2, if_neg (by omega)]
  rw [key 16]
  split
  · rfl
  · rename_i hn
    exact (filter_none' fun a ha => absurd ⟨(hf d a ha).1, (hf d a ha).2.1⟩ hn).symm
theorem stampR_put (S : List (Int × Int)) (d a z : Int) : stampR (putS S d a) z = if z = d then a else stampR S z := by
  unfold stampR putS
  rw [List.find?_append, List.find?_filter]
  by_cases h : z = d
  · subst h
    have : S.find? (fun x => !decide (x.1 = z) && decide (x.1 = z)) = none := List.find?_eq_none.2 fun x _ => by simp
    rw [if_pos rfl, show (S.find? fun a => decide ((!decide (a.1 = z)) = true ∧ decide (a.1 = z) = true)) = none from List.find?_eq_none.2 fun x _ => by simp]
    simp
  · rw [if_neg h]
    have e : (S.find? fun a => decide ((!decide (a.1 = d)) = true ∧ decide (a.1 = z) = true)) = S.find? (fun a => decide (a.1 = z)) := by
      congr 1
      funext a
      by_cases ha : a.1 = z
      · simp [ha, h]
      · simp [ha]
    rw [e]
    cases hS : S.find? (fun a => decide (a.1 = z)) with
    | some x => simp
    | none =>
      have h2 : ¬ d = z := fun e => h e.symm
      simp [h2]
theorem Lk.hear {b : LB} {r : RB} (k : Lk b r) (i : Inv b) (d a : Int) : (b.hear d a).1 = (r.hear d a).1 ∧ Lk (b.hear d a).2 (r.hear d a).2 ∧ Inv (b.hear d a).2 := by
  unfold LB.hear RB.hear
  rw [k.own]
  by_cases hm : mayH b.own d a = true
  · rw [if_pos hm, if_pos hm, k.S d]
    obtain ⟨h1, h2, h3, h4⟩ := (mayH_iff _ _ _).1 hm
    have hst : ∀ z, (b.st d).getD z = z ∧ b.st d = none ∨ ∃ y, b.st d = some y ∧ (b.st d).getD z = y ∧ 0 ≤ y ∧ y ≤ 1099511627776 := fun z => by
      cases h : b.st d with
      | none => exact .inl ⟨rfl, rfl⟩
      | some y => exact .inr ⟨y, rfl, rfl, (i.st d y h).2.2.2⟩
    refine ⟨by split <;> rfl, ?_, ?_⟩
    · split
      · rename_i hle
        refine ⟨k.own, k.L, fun z => ?_⟩
        rw [k.S z]
        show _ = (updF b.st d _ z).getD (-1)
        by_cases hz : z = d
        · subst hz
          rw [updF_at]
          rcases hst (-1) with ⟨e, _⟩ | ⟨y, e, e2, _⟩
          · rw [e] at hle; omega
          · rw [e2] at hle ⊢
            rw [e]
            show y = max y a
            omega
        · rw [updF_ne _ _ hz]
      · rename_i hle
        refine ⟨rfl, k.L, fun z => ?_⟩
        rw [stampR_put, k.S z]
        show _ = (updF b.st d _ z).getD (-1)
        by_cases hz : z = d
        · subst hz
          rw [updF_at, if_pos rfl]
          show a = max _ a
          rcases hst (-1) with ⟨e, e2⟩ | ⟨y, e, e2, _⟩
          · rw [e2]; simp only [Option.getD_none]; omega
          · rw [e2] at hle
            rw [e]
            simp only [Option.getD_some]; omega
        · rw [updF_ne _ _ hz, if_neg hz]
    · refine ⟨i.own, fun z y hz => ?_, i.hd, i.le, i.one⟩
      have hz : updF b.st d (some (max ((b.st d).getD 0) a)) z = some y := hz
      by_cases e : z = d
      · subst e
        rw [updF_at] at hz
        injection hz with hz
        refine ⟨h1.1, h1.2, h2, ?_⟩
        rcases hst 0 with ⟨e, _⟩ | ⟨y, e, e2, _⟩
        · rw [e] at hz; omega
        · rw [e2] at hz; omega
      · rw [updF_ne _ _ e] at hz
        exact i.st z y hz
  · rw [if_neg hm, if_neg hm]
    exact ⟨rfl, k, i⟩
theorem Lk.learn {b : LB} {r : RB} (k : Lk b r) (i : Inv b) (d a : Int) {out l : List Crd} (hC : CountsOf out l) : (b.learn d out a).1 = (r.learn d out a).1 ∧ Lk (b.learn d out a).2 (r.learn d out a).2 ∧ Inv (b.learn d out a).2 := by
  unfold LB.learn RB.learn
  rw [k.own]
  have hst : ∀ z, (b.st d).getD z = z ∧ b.st d = none ∨ ∃ y, b.st d = some y ∧ (b.st d).getD z = y ∧ 0 ≤ y ∧ y ≤ 1099511627776 := fun z => by
    cases h : b.st d with
    | none => exact .inl ⟨rfl, rfl⟩
    | some y => exact .inr ⟨y, rfl, rfl, (i.st d y h).2.2.2⟩
  by_cases hm : mayH b.own d a = true
  · obtain ⟨h1, h2, h3, h4⟩ := (mayH_iff _ _ _).1 hm
    have hs : (b.st d).getD 0 ≤ a ↔ stampR r.S d ≤ a := by
      rw [k.S d]
      cases h : b.st d with
      | none => simp only [Option.getD_none]; omega
      | some y => rfl
    by_cases hle : (b.st d).getD 0 ≤ a
    · have hc1 : mayH b.own d a = true ∧ (b.st d).getD 0 ≤ a := ⟨hm, hle⟩
      have hc2 : mayH b.own d a = true ∧ stampR r.S d ≤ a := ⟨hm, hs.1 hle⟩
      rw [if_pos hc1, if_pos hc2]
      by_cases hl : (leasedP d (addT a 56) out).length ≤ 24
      · rw [if_pos hl, if_pos hl]
        unfold RB.hear
        simp only
        rw [if_pos hm]
        have hL : putL r.L d (leasedP d (addT a 56) out) = allD (updF b.hl d (leasedP d (addT a 56) out)) 16 := by
          rw [← putL_allD (fun z h hh => (i.hd z h hh).2.2.2.1) h1.1 _ 16, if_pos (by omega), k.L]
          rfl
        have hI : Inv ⟨b.own, updF b.st d (some a), updF b.hl d (leasedP d (addT a 56) out)⟩ := by
          refine ⟨i.own, fun z y hz => ?_, fun z h hh => ?_, fun z => ?_, fun z x y => ?_⟩
          · have hz : updF b.st d (some a) z = some y := hz
            by_cases e : z = d
            · subst e
              rw [updF_at] at hz
              injection hz with hz
              exact ⟨h1.1, h1.2, h2, by omega⟩
            · rw [updF_ne _ _ e] at hz
              exact i.st z y hz
          · have hh : h ∈ updF b.hl d (leasedP d (addT a 56) out) z := hh
            by_cases e : z = d
            · subst e
              rw [updF_at] at hh
              obtain ⟨_, e2, e3⟩ := leasedP_mem hh
              refine ⟨h1.1, h1.2, h2, e2, ?_⟩
              rw [e3]
              exact addT_b _ _
            · rw [updF_ne _ _ e] at hh
              exact i.hd z h hh
          · show (updF b.hl d (leasedP d (addT a 56) out) z).length ≤ 24
            by_cases e : z = d
            · subst e; rw [updF_at]; exact hl
            · rw [updF_ne _ _ e]; exact i.le z
          · show ((updF b.hl d (leasedP d (addT a 56) out) z).filter _).length ≤ 1
            by_cases e : z = d
            · subst e; rw [updF_at]; exact leasedP_one hC x y
            · rw [updF_ne _ _ e]; exact i.one z x y
        refine ⟨by split <;> rfl, ?_, hI⟩
        split
        · rename_i hge
          refine ⟨rfl, hL, fun z => ?_⟩
          show stampR r.S z = (updF b.st d (some a) z).getD (-1)
          rw [k.S z]
          by_cases hz : z = d
          · subst hz
            rw [updF_at]
            rw [k.S z] at hge
            show _ = a
            rcases hst (-1) with ⟨e, _⟩ | ⟨y, e, e2, _⟩
            · rw [e] at hge; omega
            · rw [e2] at hge ⊢
              rw [e] at hle
              simp only [Option.getD_some] at hle
              omega
          · rw [updF_ne _ _ hz]
        · refine ⟨rfl, hL, fun z => ?_⟩
          show stampR (putS r.S d a) z = (updF b.st d (some a) z).getD (-1)
          rw [stampR_put, k.S z]
          by_cases hz : z = d
          · subst hz
            rw [updF_at, if_pos rfl]; rfl
          · rw [updF_ne _ _ hz, if_neg hz]
      · rw [if_neg hl, if_neg hl]
        exact ⟨rfl, k, i⟩
    · rw [if_neg (fun h => hle h.2), if_neg (fun h => hle (hs.2 h.2))]
      exact ⟨rfl, k, i⟩
  · rw [if_neg (fun h => hm h.1), if_neg (fun h => hm h.1)]
    exact ⟨rfl, k, i⟩
theorem Lk.held {b : LB} {r : RB} (k : Lk b r) (now : Int) : r.held now = b.held now := by unfold RB.held LB.held; rw [k.L]
theorem Lk.fresh {b : LB} {r : RB} (k : Lk b r) (i : Inv b) (d now : Int) : r.fresh d now = b.fresh d now := by
  unfold RB.fresh LB.fresh
  rw [k.own, k.S d]
  congr 1
  cases h : b.st d with
  | none => simp
  | some y =>
    have := (i.st d y h).2.2.2.1
    simp [this]
theorem Lk.stale {b : LB} {r : RB} (k : Lk b r) (i : Inv b) (ids : List (Int × Int)) (now : Int) : r.stale ids now = b.stale ids now := by
  unfold RB.stale LB.stale
  congr 1
  funext x
  rw [k.fresh i]
theorem len_one {α : Type} {l : List α} (h : l.length ≤ 1) : l = [] ∨ ∃ x, l = [x] := by
  match l, h with
  | [], _ => exact .inl rfl
  | [x], _ => exact .inr ⟨x, rfl⟩
  | _ :: _ :: _, h => simp at h
theorem find_filter {α : Type} (p : α → Bool) (l : List α) : l.find? p = (l.filter p).head? := by
  rw [List.head?_filter]
/-- What both say of one ID. -/
theorem Lk.id {b : LB} {r : RB} (k : Lk b r) (i : Inv b) (now : Int) (x : Int × Int) :
    (b.endP x = none ∧ (r.held now).filter (hlId x.1 x.2) = []) ∨ ∃ h : Hl, b.endP x = some h.u ∧ 0 ≤ h.u ∧ h.u ≤ 1099511627776 ∧ (r.held now).filter (hlId x.1 x.2) = if overB now h.u = true then [] else [h] := by
  have e : (r.held now).filter (hlId x.1 x.2) = ((b.hl x.1).filter (hlId x.1 x.2)).filter (fun h => !overB now h.u) := by
    rw [k.held, LB.held, liveL, List.filter_filter, ← allD_id (fun d h hh => ⟨(i.hd d h hh).1, (i.hd d h hh).2.1, (i.hd d h hh).2.2.2.1⟩), List.filter_filter]
    congr 1
    funext a
    rw [Bool.and_comm]
  unfold LB.endP
  rw [find_filter]
  rcases len_one (i.one x.1 x.1 x.2) with h | ⟨h, hh⟩
  · left
    rw [e, h]
    exact ⟨rfl, rfl⟩
  · right
    have hm : h ∈ b.hl x.1 := (List.mem_filter.1 (by rw [hh]; exact List.mem_singleton_self h)).1
    refine ⟨h, by rw [hh]; rfl, (i.hd _ h hm).2.2.2.2.1, (i.hd _ h hm).2.2.2.2.2, ?_⟩
    rw [e, hh]
    cases ho : overB now h.u <;> simp [ho]
theorem any_filter {α : Type} (p : α → Bool) (l : List α) : l.any p = !(l.filter p).isEmpty := by
  induction l with
  | nil => rfl
  | cons a t ih => rw [List.any_cons, ih, List.filter_cons]; cases p a <;> simp
theorem Lk.good {b : LB} {r : RB} (k : Lk b r) (i : Inv b) (now : Int) (x : Int × Int) : r.goodU (r.held now) x = b.goodU now x := by
  unfold RB.goodU LB.goodU
  rw [k.own, any_filter]
  congr 1
  rcases k.id i now x with ⟨h1, h2⟩ | ⟨h, h1, _, _, h2⟩
  · rw [h1, h2]; rfl
  · rw [h1, h2]
    simp only
    cases overB now h.u <;> simp
theorem Lk.least {b : LB} {r : RB} (k : Lk b r) (i : Inv b) (now : Int) (ids : List (Int × Int)) (hg : ids.all (b.goodU now) = true) : r.least (r.held now) ids = leastT (b.ends ids) := by
  unfold RB.least LB.ends leastT
  rw [k.own]
  generalize hm : (1099511627776 : Int) = m
  clear hm
  induction ids generalizing m with
  | nil => rfl
  | cons x t ih =>
    rw [List.all_cons, Bool.and_eq_true] at hg
    rw [List.filter_cons]
    cases hx : decide (x.1 = b.own)
    · simp only [Bool.not_false, if_true, List.foldl_cons, List.map_cons]
      rw [ih hg.2]
      congr 1
      have h2 := hg.1
      unfold LB.goodU at h2
      rw [hx, Bool.false_or] at h2
      unfold minR
      rcases k.id i now x with ⟨h1, _⟩ | ⟨h, h1, hb0, hb1, h3⟩
      · rw [h1] at h2; cases h2
      · rw [h1] at h2
        simp only [Bool.not_eq_true'] at h2
        rw [h3, if_neg (by rw [h2]; simp), h1]
        show min m h.u = min m (tk h.u)
        rw [tk_id hb0 hb1]
    · simp only [Bool.not_true, if_false, Bool.false_eq_true]
      exact ih hg.2 m
theorem Lk.untilP {b : LB} {r : RB} (k : Lk b r) (i : Inv b) (ids : List (Int × Int)) (now : Int) : r.untilP ids now = b.untilP ids now := by
  unfold RB.untilP LB.untilP
  have e : ids.all (r.goodU (r.held now)) = ids.all (b.goodU now) := by congr 1; funext x; exact k.good i now x
  rw [e]
  split
  · rename_i h
    rw [k.least i now ids h]
  · rfl
/-- What counts of a list. -/
noncomputable def countsC (l : List Crd) : List Crd := by classical exact if h : ∃ out, CountsOf out l then Classical.choose h else []
theorem countsC_eq {out l : List Crd} (h : CountsOf out l) : countsC l = out := by
  have hx : ∃ out, CountsOf out l := ⟨out, h⟩
  unfold countsC
  rw [dif_pos hx]
  exact counts_uniq (Classical.choose_spec hx) h
theorem leasedP_snoc (d u : Int) (l : List Crd) (c : Crd) : leasedP d u (l ++ [c]) = if c.d = d then leasedP d u l ++ [⟨c, u⟩] else leasedP d u l := by
  unfold leasedP
  rw [List.filter_append, List.map_append]
  by_cases h : c.d = d
  · simp [h]
  · simp [h]
theorem leasedP_len (d u : Int) (l : List Crd) : (leasedP d u l).length ≤ l.length := by unfold leasedP; rw [List.length_map]; exact List.length_filter_le _ _
theorem RB.learn_no {r : RB} {d a : Int} (out : List Crd) (h : mayH r.own d a = false) : r.learn d out a = (1, r) := by unfold RB.learn; rw [if_neg (by rw [h]; simp)]
theorem RB.learn_late {r : RB} {d a : Int} (out : List Crd) (h : a < stampR r.S d) : r.learn d out a = (1, r) := by unfold RB.learn; rw [if_neg (by omega)]
theorem RB.learn_full {r : RB} {d a : Int} {out : List Crd} (h : mayH r.own d a = true) (h2 : stampR r.S d ≤ a) (h3 : 24 < (leasedP d (addT a 56) out).length) : r.learn d out a = (12, r) := by unfold RB.learn; rw [if_pos ⟨h, h2⟩, if_neg (by omega)]
theorem RB.learn_yes {r : RB} {d a : Int} {out : List Crd} (h : mayH r.own d a = true) (h2 : stampR r.S d ≤ a) (h3 : (leasedP d (addT a 56) out).length ≤ 24) : r.learn d out a = RB.hear ⟨r.own, putL r.L d (leasedP d (addT a 56) out), r.S⟩ d a := by unfold RB.learn; rw [if_pos ⟨h, h2⟩, if_pos h3]
end Go.Proofs.Ytkimhdcngagmaaa.Sh
