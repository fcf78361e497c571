/-
  Tokens, pure: what is narrowed, which roles a token has, till when, what it allows; what is narrowed allows no more.
-/
import Derived.Test.YtaadmgbmaekicaaGreatDoorJn29
import Derived.Test.YtaadmgbmaekicaaGreatDoorJn8
import Derived.Lib.DecodeN
set_option linter.unusedVariables false
set_option linter.unusedSimpArgs false
namespace Go.Proofs.YtaadmgbmaekicaaGreatDoor.Sh
open Go Go.RowKit

set_option linter.unusedSimpArgs false
set_option linter.unusedVariables false
open Classical in
noncomputable def narE (t : Tok) (c : Cav) : Int := if ¬ OkTok t then 25 else if t.cavs.length = 6 then 12 else if ¬ OkCav c then 1 else 0
open Classical in
noncomputable def narR (t : Tok) (c : Cav) : Tok := if narE t c = 0 then narrowT t c else Tok.zero
theorem narE_zero {t : Tok} {c : Cav} : narE t c = 0 ↔ OkTok t ∧ t.cavs.length ≠ 6 ∧ OkCav c := by
  unfold narE
  by_cases h1 : OkTok t
  · rw [if_neg (fun h => h h1)]
    by_cases h2 : t.cavs.length = 6
    · rw [if_pos h2]; exact ⟨fun h => by simp at h, fun h => absurd h2 h.2.1⟩
    · rw [if_neg h2]
      by_cases h3 : OkCav c
      · rw [if_neg (fun h => h h3)]; exact ⟨fun _ => ⟨h1, h2, h3⟩, fun _ => rfl⟩
      · rw [if_pos h3]; exact ⟨fun h => by simp at h, fun h => absurd h.2.2 h3⟩
  · rw [if_pos h1]; exact ⟨fun h => by simp at h, fun h => absurd h.1 h1⟩
theorem narE_cases (t : Tok) (c : Cav) : narE t c = 0 ∨ narE t c = 25 ∨ narE t c = 12 ∨ narE t c = 1 := by
  unfold narE
  split
  · exact .inr (.inl rfl)
  · split
    · exact .inr (.inr (.inl rfl))
    · split
      · exact .inr (.inr (.inr rfl))
      · exact .inl rfl
theorem mintE_zero {t : Tok} : mintE t = 0 ↔ OkTok (bareT t) := by
  unfold mintE
  split
  · rename_i h; exact ⟨fun _ => h, fun _ => rfl⟩
  · rename_i h; exact ⟨fun h2 => by simp at h2, fun h2 => absurd h2 h⟩
theorem mintE_cases (t : Tok) : mintE t = 0 ∨ mintE t = 25 := by
  unfold mintE
  split
  · exact .inl rfl
  · exact .inr rfl
/-- What is right stays so, as it is narrowed. -/
structure RightT (key : List UInt8) (t : Tok) : Prop where
  ok : OkTok t
  tag : lastT key t = t.tag
theorem RightT.mint {key : List UInt8} {t : Tok} (h : OkTok (bareT t)) : RightT key (mintT key t) := ⟨h.mint, lastT_mint key t⟩
theorem RightT.narrow {key : List UInt8} {t : Tok} {c : Cav} (h : RightT key t) (hc : OkCav c) (hl : t.cavs.length ≠ 6) : RightT key (narrowT t c) := ⟨h.ok.narrow hc hl, lastT_narrow c h.tag⟩
theorem RightT.ver {key : List UInt8} {t : Tok} (h : RightT key t) : verE key t = 0 := by unfold verE; rw [if_pos h.ok, if_pos h.tag]
open Classical in
/-- Is a role among those of each caveat that names roles? -/
noncomputable def keepsR (cs : List Cav) (r : Ro) : Bool := decide (∀ c ∈ cs, c.kind = 1 → r ∈ c.roles)
noncomputable def rolesT (t : Tok) : List Ro := t.roles.filter (keepsR t.cavs)
/-- The end. -/
def untilC (z : Int) : List Cav → Int
  | [] => z
  | c :: l => untilC (if c.kind = 2 then min z (tickT c.til) else z) l
def untilT (t : Tok) : Int := untilC (tickT t.til) t.cavs
theorem untilC_snoc (z : Int) (l : List Cav) (c : Cav) : untilC z (l ++ [c]) = if c.kind = 2 then min (untilC z l) (tickT c.til) else untilC z l := by
  induction l generalizing z with
  | nil => rfl
  | cons x t ih => exact ih _
theorem tickT_b (z : Int) : 0 ≤ tickT z ∧ tickT z ≤ 1099511627776 := by unfold tickT; split <;> (try split) <;> omega
theorem tickT_id {z : Int} (h : 0 ≤ z) (h2 : z ≤ 1099511627776) : tickT z = z := by unfold tickT; rw [if_neg (by omega), if_neg (by omega)]
theorem untilC_b (l : List Cav) : ∀ z : Int, 0 ≤ z ∧ z ≤ 1099511627776 → 0 ≤ untilC z l ∧ untilC z l ≤ 1099511627776 := by
  induction l with
  | nil => exact fun z h => h
  | cons c t ih =>
    intro z h
    have := tickT_b c.til
    exact ih _ (by split <;> omega)
theorem untilT_b (t : Tok) : 0 ≤ untilT t ∧ untilT t ≤ 1099511627776 := untilC_b _ _ (tickT_b _)
open Classical in
/-- What Allows answers. -/
noncomputable def allowE (t : Tok) (r : Ro) (aud : ByteArray) (now : Int) : Int :=
  if untilT t ≤ tickT now then 21 else if r ∉ rolesT t then 23 else if ∃ c ∈ t.cavs, c.kind = 3 ∧ c.aud ≠ aud then 22 else 0
open Classical in
theorem keepsR_iff {cs : List Cav} {r : Ro} : keepsR cs r = true ↔ ∀ c ∈ cs, c.kind = 1 → r ∈ c.roles := ⟨fun h => of_decide_eq_true h, fun h => decide_eq_true h⟩
theorem rolesT_narrow (t : Tok) (c : Cav) : (rolesT (narrowT t c)).Sublist (rolesT t) := by
  have e : t.roles.filter (keepsR (t.cavs ++ [c])) = (t.roles.filter (keepsR t.cavs)).filter (keepsR (t.cavs ++ [c])) := by
    rw [List.filter_filter]
    exact List.filter_congr fun r hr => by
      by_cases h : keepsR (t.cavs ++ [c]) r = true
      · have h2 : keepsR t.cavs r = true := keepsR_iff.2 fun x hx hk => keepsR_iff.1 h x (List.mem_append.2 (.inl hx)) hk
        rw [h, h2]; rfl
      · have h' : keepsR (t.cavs ++ [c]) r = false := by simpa using h
        rw [h']; rfl
  show (t.roles.filter (keepsR (t.cavs ++ [c]))).Sublist (t.roles.filter (keepsR t.cavs))
  rw [e]
  exact List.filter_sublist
theorem untilT_narrow (t : Tok) (c : Cav) : untilT (narrowT t c) ≤ untilT t := by
  unfold untilT narrowT
  simp only
  rw [untilC_snoc]
  split
  · exact Int.min_le_left _ _
  · exact Int.le_refl _
theorem allowE_narrow {t : Tok} {c : Cav} {r : Ro} {aud : ByteArray} {now : Int} (h : allowE (narrowT t c) r aud now = 0) : allowE t r aud now = 0 := by
  unfold allowE at h ⊢
  split at h
  · simp at h
  · rename_i h1
    split at h
    · simp at h
    · rename_i h2
      split at h
      · simp at h
      · rename_i h3
        have hu := untilT_narrow t c
        rw [if_neg (by omega), if_neg (by
          intro h4
          exact h4 ((rolesT_narrow t c).subset (Classical.not_not.1 h2))), if_neg (by
          rintro ⟨x, hx, hk⟩
          exact h3 ⟨x, List.mem_append.2 (.inl hx), hk⟩)]
/-- Behind a sublist's head: where it first stands. -/
theorem sub_drop {α : Type} {x : α} {l old : List α} {k : Nat} (h : (x :: l).Sublist (old.drop k)) (hk : old[k]? ≠ some x) : k < old.length ∧ (x :: l).Sublist (old.drop (k + 1)) := by
  have hlt : k < old.length := by
    rcases Nat.lt_or_ge k old.length with h1 | h1
    · exact h1
    · rw [List.drop_of_length_le h1] at h
      cases h
  refine ⟨hlt, ?_⟩
  rw [List.drop_eq_getElem_cons hlt] at h
  cases h with
  | cons _ h => exact h
  | cons_cons _ h => exact absurd (List.getElem?_eq_getElem hlt) hk
theorem sub_lt {α : Type} {x : α} {l old : List α} {k : Nat} (h : (x :: l).Sublist (old.drop k)) : k < old.length := by
  rcases Nat.lt_or_ge k old.length with h1 | h1
  · exact h1
  · rw [List.drop_of_length_le h1] at h
    cases h
theorem fewT_lens (t : Tok) : (fewT t).roles.length ≤ 6 ∧ (fewT t).sup.length ≤ 70 ∧ (fewT t).tag.length ≤ 40 ∧ (∀ c ∈ (fewT t).cavs, c.roles.length ≤ 6) ∧ (fewT t).cavs.length ≤ 8 := by
  refine ⟨?_, ?_, ?_, fun c hc => ?_, ?_⟩
  · show (t.roles.take 6).length ≤ 6; rw [List.length_take]; omega
  · show (t.sup.take 70).length ≤ 70; rw [List.length_take]; omega
  · show (t.tag.take 40).length ≤ 40; rw [List.length_take]; omega
  · obtain ⟨x, _, rfl⟩ := List.mem_map.1 hc
    show (x.roles.take 6).length ≤ 6; rw [List.length_take]; omega
  · show ((t.cavs.take 8).map fewC).length ≤ 8; rw [List.length_map, List.length_take]; omega
end Go.Proofs.YtaadmgbmaekicaaGreatDoor.Sh
/-
  Tokens that may be written over: rows that may be, what few and cut leave.
-/
namespace Go.Proofs.YtaadmgbmaekicaaGreatDoor.Sh
open Go Go.RowKit

set_option linter.unusedSimpArgs false
set_option linter.unusedVariables false
/-- A row of n elements of k cells that may be written to, in a block from B on, below U. -/
def OpN (w : World) (T : TypeId) (k B U : Nat) (A : Option Addr) (n : Nat) : Prop := 0 < n → ∃ g, A = some ⟨g, 0, none⟩ ∧ B ≤ g ∧ g < U ∧ ∃ cs : Array Value, w.heap[g]? = some (.cells cs T (0, 0)) ∧ n * k ≤ cs.size
theorem OpN.nil (w : World) (T : TypeId) (k B U : Nat) (A : Option Addr) : OpN w T k B U A 0 := fun h => absurd h (by omega)
theorem OpN.set {w : World} {T : TypeId} {k B U n : Nat} {A : Option Addr} (h : OpN w T k B U A n) (g j : Nat) (u : Value) : OpN (w.setCell ⟨g, j, none⟩ u) T k B U A n := fun hn => by
  obtain ⟨g', e, h1, h2, cs, h3, h4⟩ := h hn
  by_cases hg : g = g'
  · subst hg
    exact ⟨_, e, h1, h2, _, heap_setCell_same w _ j _ _ u h3, by simpa using h4⟩
  · exact ⟨g', e, h1, h2, cs, (heap_setCell_other w ⟨g, j, none⟩ g' u (fun e => hg (by simpa using e.symm))).trans h3, h4⟩
theorem OpN.grew {w w' : World} {T : TypeId} {k B U n : Nat} {X : Nat → Prop} {A : Option Addr} (h : OpN w T k B U A n) (hg : Grew w w' X) (hx : ∀ b, B ≤ b → b < U → ¬ X b) : OpN w' T k B U A n := fun hn => by
  obtain ⟨g', e, h1, h2, cs, h3, h4⟩ := h hn
  exact ⟨g', e, h1, h2, cs, (hg.block g' (Array.getElem?_eq_some_iff.1 h3).1 (hx g' h1 h2)).trans h3, h4⟩
theorem OpN.below {w w' : World} {T : TypeId} {k B U n : Nat} {A : Option Addr} (h : OpN w T k B U A n) (hb : Below w.heap.size w w') : OpN w' T k B U A n := h.grew (X := fun _ => False) (Grew.of_below hb) (fun _ _ _ h => h)
/-- A token whose rows may be written to; its caveats' cells are hs. -/
structure TokWr (w : World) (B U : Nat) (th : TH) (hs : List CH) : Prop where
  r : OpN w 69 2 B U th.rA th.rn
  s : OpN w 65 2 B U th.sA th.sn
  t : OpN w 5 1 B U th.tA th.tn
  len : hs.length = th.cn
  c : 0 < th.cn → ∃ (g : Nat) (cs : Array Value), th.cA = some ⟨g, 0, none⟩ ∧ B ≤ g ∧ g < U ∧ w.heap[g]? = some (.cells cs 51 (0, 0)) ∧ th.cn * 4 ≤ cs.size ∧ ∀ (i : Nat) (h : CH), hs[i]? = some h → ∀ (j : Nat) (u : Value), h.cells[j]? = some u → cs[i * 4 + j]? = some u
  cr : ∀ (i : Nat) (h : CH), hs[i]? = some h → h.rn ≤ h.rc ∧ h.rc ≤ 9223372036854775807 ∧ OpN w 69 2 B U h.rA h.rn
theorem TokWr.grew {w w' : World} {B U : Nat} {X : Nat → Prop} {th : TH} {hs : List CH} (h : TokWr w B U th hs) (hg : Grew w w' X) (hx : ∀ b, B ≤ b → b < U → ¬ X b) : TokWr w' B U th hs :=
  ⟨h.r.grew hg hx, h.s.grew hg hx, h.t.grew hg hx, h.len, fun h0 => by
    obtain ⟨g, cs, e, h1, h2, h3, h4⟩ := h.c h0
    exact ⟨g, cs, e, h1, h2, (hg.block g (Array.getElem?_eq_some_iff.1 h3).1 (hx g h1 h2)).trans h3, h4⟩, fun i x hi => ⟨(h.cr i x hi).1, (h.cr i x hi).2.1, (h.cr i x hi).2.2.grew hg hx⟩⟩
theorem TokWr.below {w w' : World} {B U : Nat} {th : TH} {hs : List CH} (h : TokWr w B U th hs) (hb : Below w.heap.size w w') : TokWr w' B U th hs := h.grew (X := fun _ => False) (Grew.of_below hb) (fun _ _ _ h => h)
structure FewTok (t : Tok) : Prop where
  r : t.roles.length ≤ 6
  s : t.sup.length ≤ 70
  g : t.tag.length ≤ 40
  c : ∀ c ∈ t.cavs, c.roles.length ≤ 6
  n : t.cavs.length ≤ 8
theorem FewTok.few (t : Tok) : FewTok (fewT t) := by
  obtain ⟨h1, h2, h3, h4, h5⟩ := fewT_lens t
  exact ⟨h1, h2, h3, h4, h5⟩
theorem FewTok.ok {t : Tok} (h : OkTok t) : FewTok t :=
  ⟨by have := h.roles.len; omega, by have := h.sl; omega, by have := h.tl; omega, fun c hc => by
    rcases h.cavs c hc with ⟨_, h1, _⟩ | ⟨_, h1, _⟩ | ⟨_, h1, _⟩
    · have := h1.len; omega
    · rw [h1]; simp
    · rw [h1]; simp, by have := h.cl; omega⟩
theorem FewTok.zero : FewTok Tok.zero := ⟨by simp [Tok.zero], by simp [Tok.zero], by simp [Tok.zero], by simp [Tok.zero], by simp [Tok.zero]⟩
theorem FewTok.mint (key : List UInt8) {t : Tok} (h : FewTok t) : FewTok (mintR key t) := by
  unfold mintR
  split
  · rename_i h1; exact FewTok.ok h1.mint
  · exact FewTok.zero
theorem FewTok.narrow {t : Tok} {c : Cav} : FewTok (narR t c) := by
  unfold narR
  split
  · rename_i h1
    obtain ⟨h2, h3, h4⟩ := narE_zero.1 h1
    exact FewTok.ok (h2.narrow h4 h3)
  · exact FewTok.zero
theorem few12_any (A : Option Addr) (key : List UInt8) (n c : Nat) (hn : key.length = n) (hc : n ≤ c) (hm : c ≤ 9223372036854775807) (w : World) :
    Calls Tryz.prog 5 #[.slice A n c] w fun e w' => e = .returned (.slice A (min n 100) c) ∧ w = w' := by
  by_cases h : 100 < n
  · have h1 : (100 : Int) < (n : Int) := by omega
    have h2 : (100 : Int) ≤ (c : Int) := by omega
    have e : min n 100 = 100 := by omega
    rw [e]
    go_enter Tryz.func5, Tryz.ntmps5
    go_wp2_with fail
    go_ret
    exact ⟨rfl, rfl⟩
  · have h1 : ¬ (100 : Int) < (n : Int) := by omega
    have e : min n 100 = n := by omega
    rw [e]
    go_enter Tryz.func5, Tryz.ntmps5
    go_wp2_with fail
    go_ret
    exact ⟨rfl, rfl⟩
theorem four_set {w : World} {g : Nat} {t : TypeId} {u0 u1 u2 u3 : Value} (h : w.heap[g]? = some (.cells #[u0, u1, u2, u3] t (0, 0))) (v0 v1 v2 v3 : Value) :
    ((((w.setCell ⟨g, 0, none⟩ v0).setCell ⟨g, 1, none⟩ v1).setCell ⟨g, 2, none⟩ v2).setCell ⟨g, 3, none⟩ v3).heap[g]? = some (.cells #[v0, v1, v2, v3] t (0, 0)) := by
  have h0 : (w.setCell ⟨g, 0, none⟩ v0).heap[g]? = some (.cells #[v0, u1, u2, u3] t (0, 0)) := heap_setCell_same w g 0 _ _ _ h
  have h1 : ((w.setCell ⟨g, 0, none⟩ v0).setCell ⟨g, 1, none⟩ v1).heap[g]? = some (.cells #[v0, v1, u2, u3] t (0, 0)) := heap_setCell_same _ g 1 _ _ _ h0
  have h2 : (((w.setCell ⟨g, 0, none⟩ v0).setCell ⟨g, 1, none⟩ v1).setCell ⟨g, 2, none⟩ v2).heap[g]? = some (.cells #[v0, v1, v2, u3] t (0, 0)) := heap_setCell_same _ g 2 _ _ _ h1
  exact heap_setCell_same _ g 3 _ _ _ h2
theorem info_cav : (Tryz.prog.info? 51).map (·.size) = some 4 := by kernel_rfl
theorem cavFew_at {w : World} {Q : Nat → Prop} {ch : CH} {c : Cav} (a : CavAt w Q ch c) : CavAt w Q (fewH ch) (fewC c) :=
  ⟨a.kind, a.til, a.aud, by show (c.roles.take 6).length = min ch.rn 6; rw [List.length_take, a.rl, Nat.min_comm], by show min ch.rn 6 ≤ ch.rc; have := a.rc; omega, a.rm, a.re.head 6⟩
end Go.Proofs.YtaadmgbmaekicaaGreatDoor.Sh
/-
  A step of a range over a string, and what May and Number make of it: pure part.
-/
namespace Go.Proofs.YtaadmgbmaekicaaGreatDoor.Sh
open Go Go.RowKit

theorem decodeN_cover (n b0 b1 b2 b3 : Nat) (hn : 1 ≤ n) : 1 ≤ (Lib.decodeN n b0 b1 b2 b3).2 ∧ (Lib.decodeN n b0 b1 b2 b3).2 ≤ n ∧ (Lib.decodeN n b0 b1 b2 b3).2 ≤ 4 ∧
    (1 < (Lib.decodeN n b0 b1 b2 b3).2 → 128 ≤ b1) ∧ (2 < (Lib.decodeN n b0 b1 b2 b3).2 → 128 ≤ b2) ∧ (3 < (Lib.decodeN n b0 b1 b2 b3).2 → 128 ≤ b3) := by
  unfold Lib.decodeN
  repeat' split
  all_goals (simp only; omega)
theorem getBang (s : ByteArray) {j : Nat} {y : UInt8} (hy : s.data.toList[j]? = some y) : s.get! j = y := by
  obtain ⟨h, e⟩ := sget s hy
  rw [← e]
  have := get_at s j h
  simpa using this
/-- A STEP OF A RANGE OVER A STRING, at a byte x: a rune R, and on to Z; the bytes between are no ASCII. -/
theorem next_at (s : ByteArray) {k : Nat} {x : UInt8} (hx : s.data.toList[k]? = some x) :
    ∃ R Z : Nat, (∀ (P : Program) (w : World) ty, (Instr.next (.pointer (some ⟨w.heap.size, 0, none⟩)) true ty).run P (w.iter s k) = .ok (.tuple #[.bool true, .int .i64 k, .int .i32 R]) (w.iter s Z)) ∧
      k < Z ∧ Z ≤ s.size ∧ R ≤ 2147483647 ∧ (x.toNat < 128 → R = x.toNat ∧ Z = k + 1) ∧ (128 ≤ x.toNat → 128 ≤ R) ∧ ∀ j y, k < j → j < Z → s.data.toList[j]? = some y → 128 ≤ y.toNat := by
  obtain ⟨hk, hsx⟩ := sget s hx
  refine ⟨(Utf8.decode s k).1, k + (Utf8.decode s k).2, fun P w ty => run_next_any w s k ty hk, ?_⟩
  have hc := decodeN_cover (s.size - k) (s.get! k).toNat (s.get! (k + 1)).toNat (s.get! (k + 2)).toNat (s.get! (k + 3)).toNat (by omega)
  have hle := decode_le s k
  have hd := Lib.decode_at s k
  rw [← hd] at hc
  refine ⟨by omega, by omega, hle, fun h => ?_, fun h => (decode_high s k hk (by rw [hsx]; exact h)).1, fun j y h1 h2 hy => ?_⟩
  · have := decode_ascii s k hk (by rw [hsx]; exact h)
    rw [this, hsx]
    exact ⟨rfl, rfl⟩
  · have e := getBang s hy
    rcases (by omega : j = k + 1 ∨ j = k + 2 ∨ j = k + 3) with rfl | rfl | rfl
    · rw [← e]; exact hc.2.2.2.1 (by omega)
    · rw [← e]; exact hc.2.2.2.2.1 (by omega)
    · rw [← e]; exact hc.2.2.2.2.2 (by omega)
theorem iter_below (w : World) (s : ByteArray) (k : Nat) : Below w.heap.size w (w.iter s k) := (Below.refl _ _).alloc (Nat.le_refl _) _

def letN (R : Nat) : Bool := decide (97 ≤ R ∧ R ≤ 122)
def digN (R : Nat) : Bool := decide (48 ≤ R ∧ R ≤ 57)
theorem letN_of {R : Nat} {x : UInt8} (h1 : x.toNat < 128 → R = x.toNat) (h2 : 128 ≤ x.toNat → 128 ≤ R) : letN R = letter x := by
  unfold letN letter
  rcases Nat.lt_or_ge x.toNat 128 with h | h
  · rw [h1 h]; simp
  · have := h2 h
    rw [decide_eq_false (by omega)]
    simp; omega
theorem digN_of {R : Nat} {x : UInt8} (h1 : x.toNat < 128 → R = x.toNat) (h2 : 128 ≤ x.toNat → 128 ≤ R) : digN R = digit x := by
  unfold digN digit
  rcases Nat.lt_or_ge x.toNat 128 with h | h
  · rw [h1 h]; simp
  · have := h2 h
    rw [decide_eq_false (by omega)]
    simp; omega

theorem may_end {l : List UInt8} (h : ∀ j x, l[j]? = some x → (letter x = true ∨ (0 < j ∧ digit x = true))) : mayL l = (decide (1 ≤ l.length) && decide (l.length ≤ 8)) := by
  cases l with
  | nil => rfl
  | cons y t =>
    rw [mayL_cons]
    have h0 : letter y = true := (h 0 y rfl).resolve_right (fun k => Nat.lt_irrefl _ k.1)
    have ht : t.all okName = true := by
      rw [List.all_eq_true]
      intro x hx
      obtain ⟨j, hj⟩ := List.getElem?_of_mem hx
      unfold okName
      rw [Bool.or_eq_true]
      exact (h (j + 1) x (by simpa using hj)).imp id fun k => k.2
    rw [h0, ht]
    simp
theorem may_bad {l : List UInt8} {j : Nat} {x : UInt8} (hx : l[j]? = some x) (h : letter x = false) (h2 : j = 0 ∨ digit x = false) : mayL l = false := by
  cases l with
  | nil => rfl
  | cons y t =>
    rw [mayL_cons]
    cases j with
    | zero => simp at hx; subst hx; rw [h]; rfl
    | succ j =>
      have : t.all okName = false := by
        rw [List.all_eq_false]
        refine ⟨x, List.mem_of_getElem? (by simpa using hx), ?_⟩
        unfold okName
        rw [h, h2.resolve_left (Nat.succ_ne_zero j)]
        simp
      rw [this]
      simp

theorem numL_ne {l : List UInt8} (h : numL l ≠ 0) : (∃ x : UInt8, l = [100, x] ∧ 49 ≤ x.toNat ∧ x.toNat ≤ 57) ∨
    (∃ x y : UInt8, l = [100, x, y] ∧ 49 ≤ x.toNat ∧ x.toNat ≤ 57 ∧ 48 ≤ y.toNat ∧ y.toNat ≤ 57 ∧ 10 * (x.toNat - 48) + (y.toNat - 48) ≤ 16) := by
  match l with
  | [] => exact absurd rfl h
  | [_] => exact absurd rfl h
  | [d, x] =>
    rw [numL_two] at h
    split at h
    · rename_i hc
      exact .inl ⟨x, by rw [hc.1], hc.2⟩
    · exact absurd rfl h
  | [d, x, y] =>
    rw [numL_three] at h
    split at h
    · rename_i hc
      exact .inr ⟨x, y, by rw [hc.1], hc.2⟩
    · exact absurd rfl h
  | _ :: _ :: _ :: _ :: _ => exact absurd rfl h
/-- How far Number has come: k bytes, the number m. -/
def numAt (l : List UInt8) (k m : Nat) : Prop :=
  (k = 0 ∧ m = 0) ∨ (k = 1 ∧ m = 0 ∧ l[0]? = some 100) ∨ (k = 2 ∧ 1 ≤ m ∧ m ≤ 9 ∧ l[0]? = some 100 ∧ ∃ x : UInt8, l[1]? = some x ∧ x.toNat = 48 + m) ∨
  (k = 3 ∧ 10 ≤ m ∧ m ≤ 16 ∧ l[0]? = some 100 ∧ ∃ x y : UInt8, l[1]? = some x ∧ l[2]? = some y ∧ 49 ≤ x.toNat ∧ x.toNat ≤ 57 ∧ 48 ≤ y.toNat ∧ y.toNat ≤ 57 ∧ m = 10 * (x.toNat - 48) + (y.toNat - 48))
theorem numAt_le {l : List UInt8} {k m : Nat} (h : numAt l k m) : m ≤ 16 := by
  rcases h with h | h | h | h <;> omega
theorem numAt_end {l : List UInt8} {m : Nat} (h : numAt l l.length m) : numL l = m := by
  rcases h with ⟨h, rfl⟩ | ⟨h, rfl, _⟩ | ⟨h, h1, h2, h0, x, hx, e⟩ | ⟨h, h1, h2, h0, x, y, hx, hy, g1, g2, g3, g4, e⟩
  · rw [List.eq_nil_of_length_eq_zero h]; rfl
  · match l, h with
    | [_], _ => rfl
  · match l, h with
    | [d, z], _ =>
      simp at h0 hx
      subst h0 hx
      rw [numL_two, if_pos ⟨rfl, by omega, by omega⟩]
      omega
  · match l, h with
    | [d, z, u], _ =>
      simp at h0 hx hy
      subst h0 hx hy
      rw [numL_three, if_pos ⟨rfl, by omega, by omega, by omega, by omega, by omega⟩]
      omega
theorem num_bad0 {l : List UInt8} {x : UInt8} (hx : l[0]? = some x) (h : x.toNat ≠ 100) : numL l = 0 := by
  apply Classical.byContradiction
  intro hc
  rcases numL_ne hc with ⟨a, rfl, _⟩ | ⟨a, b, rfl, _⟩ <;> (simp at hx; subst hx; exact h rfl)
theorem num_bad {l : List UInt8} {k m : Nat} (ha : numAt l k m) (hk : 0 < k) {x : UInt8} (hx : l[k]? = some x) (h : digit x = false) : numL l = 0 := by
  apply Classical.byContradiction
  intro hc
  unfold digit at h
  simp at h
  have hk3 : k = 1 ∨ k = 2 ∨ k = 3 := by rcases ha with h | h | h | h <;> omega
  rcases numL_ne hc with ⟨a, rfl, g⟩ | ⟨a, b, rfl, g⟩ <;> rcases hk3 with rfl | rfl | rfl <;> simp at hx <;> (subst hx; omega)
theorem num_step {l : List UInt8} {k m : Nat} (ha : numAt l k m) (hk : 0 < k) {x : UInt8} (hx : l[k]? = some x) (h : digit x = true) :
    (10 * m + (x.toNat - 48) = 0 ∨ 16 < 10 * m + (x.toNat - 48) → numL l = 0) ∧ (10 * m + (x.toNat - 48) ≠ 0 → 10 * m + (x.toNat - 48) ≤ 16 → numAt l (k + 1) (10 * m + (x.toNat - 48))) := by
  unfold digit at h
  simp at h
  constructor
  · intro hm
    apply Classical.byContradiction
    intro hc
    rcases ha with ⟨rfl, rfl⟩ | ⟨rfl, rfl, h0⟩ | ⟨rfl, h1, h2, h0, y, hy, e⟩ | ⟨rfl, h1, h2, h0, y, z, hy, hz, g⟩
    · omega
    · rcases numL_ne hc with ⟨a, rfl, g⟩ | ⟨a, b, rfl, g⟩ <;> simp at hx <;> (subst hx; omega)
    · rcases numL_ne hc with ⟨a, rfl, g⟩ | ⟨a, b, rfl, g⟩ <;> simp at hx hy <;> (subst hx hy; omega)
    · rcases numL_ne hc with ⟨a, rfl, g⟩ | ⟨a, b, rfl, g⟩ <;> simp at hx
  · intro h0 h16
    rcases ha with ⟨rfl, rfl⟩ | ⟨rfl, rfl, e0⟩ | ⟨rfl, h1, h2, e0, y, hy, e⟩ | ⟨rfl, h1, h2, e0, y, z, hy, hz, g⟩
    · omega
    · exact .inr (.inr (.inl ⟨rfl, by omega, by omega, e0, x, hx, by omega⟩))
    · exact .inr (.inr (.inr ⟨rfl, by omega, by omega, e0, y, x, hy, hx, by omega, by omega, by omega, by omega, by omega⟩))
    · omega
end Go.Proofs.YtaadmgbmaekicaaGreatDoor.Sh
