/-
  Tokens, pure: what may be, how a head and a caveat are put, the last tag.
-/
import Derived.Test.YtaadmgbmaekicaaGreatDoorJn8
import Derived.Test.YtaadmgbmaekicaaGreatDoorJn10
set_option linter.unusedVariables false
set_option linter.unusedSimpArgs false
namespace Go.Proofs.YtaadmgbmaekicaaGreatDoor.Sh
open Go Go.RowKit

set_option linter.unusedSimpArgs false
set_option linter.unusedVariables false
/-- A role: its owner, its name. -/
abbrev Ro := ByteArray × ByteArray
structure Cav where
  kind : Int
  roles : List Ro
  til : Int
  aud : ByteArray
structure Tok where
  d : Int
  e : Int
  n : Int
  who : ByteArray
  roles : List Ro
  til : Int
  sup : List (Int × Int)
  cavs : List Cav
  tag : List UInt8
/-- Roles that rise, at most four. -/
structure Rolls (l : List Ro) : Prop where
  len : l.length ≤ 4
  ok : ∀ r ∈ l, roleB r.1 r.2 = true
  up : ∀ (i : Nat) (a b : Ro), l[i]? = some a → l[i + 1]? = some b → lessL a.1 a.2 b.1 b.2 = true
theorem Rolls.nil : Rolls [] := ⟨by simp, by simp, by simp⟩
theorem Rolls.take {l : List Ro} (h : Rolls l) (k : Nat) : Rolls (l.take k) := by
  refine ⟨by rw [List.length_take]; have := h.len; omega, fun r hr => h.ok r (List.mem_of_mem_take hr), fun i a b ha hb => ?_⟩
  rw [List.getElem?_take] at ha hb
  split at hb
  · rw [if_pos (by omega)] at ha
    exact h.up i a b ha hb
  · cases hb
theorem Rolls.snoc {l : List Ro} {r : Ro} (h : Rolls l) (hl : l.length < 4) (hr : roleB r.1 r.2 = true) (hu : ∀ a, l[l.length - 1]? = some a → lessL a.1 a.2 r.1 r.2 = true) : Rolls (l ++ [r]) := by
  refine ⟨by simp; omega, fun x hx => ?_, fun i a b ha hb => ?_⟩
  · rcases List.mem_append.1 hx with hx | hx
    · exact h.ok x hx
    · rw [List.mem_singleton.1 hx]; exact hr
  · have hi := (List.getElem?_eq_some_iff.1 hb).1
    simp only [List.length_append, List.length_singleton] at hi
    rw [List.getElem?_append_left (by omega)] at ha
    by_cases h2 : i + 1 < l.length
    · rw [List.getElem?_append_left h2] at hb
      exact h.up i a b ha hb
    · have hi2 : i + 1 = l.length := by omega
      rw [List.getElem?_append_right (by omega)] at hb
      simp [hi2] at hb
      subst hb
      exact hu a (by rw [show l.length - 1 = i by omega]; exact ha)
/-- A caveat that may be. -/
def OkCav (c : Cav) : Prop :=
  (c.kind = 1 ∧ Rolls c.roles ∧ c.til = 0 ∧ c.aud = E0) ∨ (c.kind = 2 ∧ c.roles = [] ∧ 0 ≤ c.til ∧ c.til ≤ 1099511627776 ∧ c.aud = E0) ∨ (c.kind = 3 ∧ c.roles = [] ∧ c.til = 0 ∧ mayB c.aud = true)
/-- IDs that rise. -/
structure Ids (l : List (Int × Int)) : Prop where
  ok : ∀ x ∈ l, 1 ≤ x.1 ∧ x.1 ≤ 16 ∧ 1 ≤ x.2 ∧ x.2 ≤ 4000
  up : ∀ (i : Nat) (a b : Int × Int), l[i]? = some a → l[i + 1]? = some b → beforeI a.1 a.2 b.1 b.2 = true
theorem Ids.nil : Ids [] := ⟨by simp, by simp⟩
theorem Ids.snoc {l : List (Int × Int)} {r : Int × Int} (h : Ids l) (hr : 1 ≤ r.1 ∧ r.1 ≤ 16 ∧ 1 ≤ r.2 ∧ r.2 ≤ 4000) (hu : ∀ a, l[l.length - 1]? = some a → beforeI a.1 a.2 r.1 r.2 = true) : Ids (l ++ [r]) := by
  refine ⟨fun x hx => ?_, fun i a b ha hb => ?_⟩
  · rcases List.mem_append.1 hx with hx | hx
    · exact h.ok x hx
    · rw [List.mem_singleton.1 hx]; exact hr
  · have hi := (List.getElem?_eq_some_iff.1 hb).1
    simp only [List.length_append, List.length_singleton] at hi
    rw [List.getElem?_append_left (by omega)] at ha
    by_cases h2 : i + 1 < l.length
    · rw [List.getElem?_append_left h2] at hb
      exact h.up i a b ha hb
    · have hi2 : i + 1 = l.length := by omega
      rw [List.getElem?_append_right (by omega)] at hb
      simp [hi2] at hb
      subst hb
      exact hu a (by rw [show l.length - 1 = i by omega]; exact ha)
/-- A token that may be. -/
structure OkTok (t : Tok) : Prop where
  d : 1 ≤ t.d ∧ t.d ≤ 16
  e : 1 ≤ t.e ∧ t.e ≤ 1000
  n : 1 ≤ t.n ∧ t.n ≤ 1099511627776
  til : 0 ≤ t.til ∧ t.til ≤ 1099511627776
  who : mayB t.who = true
  roles : Rolls t.roles
  some_ : t.roles ≠ []
  sl : t.sup.length ≤ 64
  cl : t.cavs.length ≤ 6
  tl : t.tag.length = 32
  sup : Ids t.sup
  cavs : ∀ c ∈ t.cavs, OkCav c
def rollsB (l : List Ro) : List UInt8 := enc l.length ++ l.flatMap fun r => putR r.1 r.2
def headB (t : Tok) : List UInt8 :=
  enc t.d.toNat ++ (enc t.e.toNat ++ (enc t.n.toNat ++ (encText t.who ++ (rollsB t.roles ++ (enc t.til.toNat ++ (enc t.sup.length ++ t.sup.flatMap fun x => enc x.1.toNat ++ enc x.2.toNat))))))
def cavB (c : Cav) : List UInt8 := enc c.kind.toNat ++ (if c.kind = 1 then rollsB c.roles else if c.kind = 2 then enc c.til.toNat else encText c.aud)
/-- The tags behind one, caveat by caveat. -/
def tagsT (tag : List UInt8) : List Cav → List UInt8
  | [] => tag
  | c :: l => tagsT (hmac tag (cavB c)) l
theorem tagsT_snoc (tag : List UInt8) (l : List Cav) (c : Cav) : tagsT tag (l ++ [c]) = hmac (tagsT tag l) (cavB c) := by
  induction l generalizing tag with
  | nil => rfl
  | cons x t ih => exact ih _
def lastT (key : List UInt8) (t : Tok) : List UInt8 := tagsT (hmac key (headB t)) t.cavs
def Tok.zero : Tok := ⟨0, 0, 0, E0, [], 0, [], [], []⟩
/-- What Mint tells. -/
def bareT (t : Tok) : Tok := { t with cavs := [], tag := List.replicate 32 0 }
theorem lastT_bare (key : List UInt8) (t : Tok) : lastT key (bareT t) = hmac key (headB t) := rfl
def mintT (key : List UInt8) (t : Tok) : Tok := { t with cavs := [], tag := hmac key (headB t) }
def narrowT (t : Tok) (c : Cav) : Tok := { t with cavs := t.cavs ++ [c], tag := hmac t.tag (cavB c) }
theorem OkTok.mint {key : List UInt8} {t : Tok} (h : OkTok (bareT t)) : OkTok (mintT key t) :=
  ⟨h.d, h.e, h.n, h.til, h.who, h.roles, h.some_, h.sl, by simp [mintT], by simp [mintT, hmac, sha_len], h.sup, by simp [mintT]⟩
theorem OkTok.narrow {t : Tok} {c : Cav} (h : OkTok t) (hc : OkCav c) (hl : t.cavs.length ≠ 6) : OkTok (narrowT t c) :=
  ⟨h.d, h.e, h.n, h.til, h.who, h.roles, h.some_, h.sl, by have := h.cl; simp [narrowT]; omega, by simp [narrowT, hmac, sha_len], h.sup, fun x hx => by
    rcases List.mem_append.1 hx with hx | hx
    · exact h.cavs x hx
    · rw [List.mem_singleton.1 hx]; exact hc⟩
/-- A token with few of all. -/
def fewR (l : List Ro) : List Ro := l.take 6
def fewC (c : Cav) : Cav := { c with roles := fewR c.roles }
def fewT (t : Tok) : Tok := { t with roles := fewR t.roles, sup := t.sup.take 70, cavs := (t.cavs.take 8).map fewC, tag := t.tag.take 40 }
/-- What is minted and narrowed is right. -/
theorem lastT_mint (key : List UInt8) (t : Tok) : lastT key (mintT key t) = (mintT key t).tag := rfl
theorem lastT_narrow {key : List UInt8} {t : Tok} (c : Cav) (h : lastT key t = t.tag) : lastT key (narrowT t c) = (narrowT t c).tag := by
  unfold lastT at h ⊢
  show tagsT (hmac key (headB t)) (t.cavs ++ [c]) = hmac t.tag (cavB c)
  rw [tagsT_snoc, h]
end Go.Proofs.YtaadmgbmaekicaaGreatDoor.Sh
