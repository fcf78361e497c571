/-
  The program's own set, by contract: New Add Has Row Vector Delta Merge Copy.
-/
import Derived.Test.YtifoppnpgljphaaRePgI
import Derived.Test.YtifoppnpgljphaaReCut
namespace Go.Proofs.Ytifoppnpgljphaa.Sh
open Go Go.RowKit

set_option linter.unusedSimpArgs false
set_option linter.unusedVariables false
theorem SetP.below {w w' : World} {P : Nat → Prop} {g : Nat} {S : Nat → List Int} (h : SetP w P g S) (hb : Below w.heap.size w w') : SetP w' P g S :=
  h.kept (fun b _ hl => hb.block b hl) hb.size (fun _ hp _ => hp) h.ng
theorem SetP.grew {w w' : World} {P X : Nat → Prop} {g : Nat} {S : Nat → List Int} (h : SetP w P g S) (hg : Grew w w' X) (hx : ∀ b, X b → ¬ P b ∧ b ≠ g) : SetP w' P g S :=
  h.kept (fun b hp hl => hg.block b hl (fun hb => by obtain ⟨n0, n1⟩ := hx b hb; exact hp.elim n0 n1)) hg.size (fun _ hp _ => hp) h.ng
/-- What it owns lies below the heap's end, and what it makes next, it owns. -/
def upTo (P : Nat → Prop) (n m : Nat) : Nat → Prop := fun b => (P b ∧ b < n) ∨ (n ≤ b ∧ b < m)
def open_ (P : Nat → Prop) (n : Nat) : Nat → Prop := fun b => (P b ∧ b < n) ∨ n ≤ b
theorem SetP.opened {w : World} {P : Nat → Prop} {g : Nat} {S : Nat → List Int} (h : SetP w P g S) : SetP w (open_ P w.heap.size) g S :=
  h.imp (fun b hp hl => .inl ⟨hp, hl⟩) (fun hh => by have := h.lt; rcases hh with ⟨h1, _⟩ | h1; exact h.ng h1; omega)
theorem SetP.closed {w : World} {P : Nat → Prop} {g n : Nat} {S : Nat → List Int} (h : SetP w (open_ P n) g S) : SetP w (upTo P n w.heap.size) g S :=
  h.imp (fun b hp hl => hp.imp id (fun h => ⟨h, hl⟩)) (fun hh => h.ng (hh.imp id (·.1)))
theorem SetR.opened {w : World} {P : Nat → Prop} {g gL : Nat} {S : Nat → List Int} (h : SetR w P g gL S) : SetR w (open_ P w.heap.size) g gL S :=
  h.kept (fun _ _ _ => rfl) (Nat.le_refl _) (fun b hp hl => .inl ⟨hp, hl⟩) (fun hh => by have := h.lt.1; rcases hh with ⟨h1, _⟩ | h1; exact h.ng h1; omega) (fun hh => by have := h.lt.2; rcases hh with ⟨h1, _⟩ | h1; exact h.nL h1; omega)
theorem SetR.closed {w : World} {P : Nat → Prop} {g gL n : Nat} {S : Nat → List Int} (h : SetR w (open_ P n) g gL S) : SetR w (upTo P n w.heap.size) g gL S :=
  h.kept (fun _ _ _ => rfl) (Nat.le_refl _) (fun b hp hl => hp.imp id (fun h => ⟨h, hl⟩)) (fun hh => h.ng (hh.imp id (·.1))) (fun hh => h.nL (hh.imp id (·.1)))
theorem open_hP (P : Nat → Prop) {n m : Nat} (h : n ≤ m) : ∀ b, m ≤ b → open_ P n b := fun b hb => .inr (by omega)
/-- Add and Merge: what they turn is the set's own, what they make is the set's. -/
theorem addX_any {w : World} {P : Nat → Prop} {g : Nat} {S : Nat → List Int} (h : SetP w P g S) (d q : Int) :
    Calls Try.prog 21 #[.pointer (some ⟨g, 0, none⟩), .agg #[.int .i64 d, .int .i64 q]] w fun e w' => e = .returned (.int .i64 (addE S d q)) ∧ SetP w' (upTo P w.heap.size w'.heap.size) g (addS S d q) ∧ Grew w w' (fun b => b = g ∨ P b) :=
  (add11_any h.opened (open_hP P (Nat.le_refl _)) d q).mono fun e w' ⟨h1, h2, h3⟩ => ⟨h1, h2.closed, h3.mono fun b hb hx => hx.imp id (fun h => by rcases h with h | h; exact h.1; omega)⟩
theorem mergeX_any {w : World} {P Q : Nat → Prop} {g : Nat} {S : Nat → List Int} (h : SetP w P g S) (hQ : ¬ Q g) (A : Option Addr) (known : List Int) (n c : Nat) (hn : known.length = n) (hm : n ≤ 9223372036854775807) (hk : ElsQ encN w Q A known)
    (AM : Option Addr) (more : List (List Int)) (mn mc : Nat) (hmn : more.length = mn) (hmm : mn ≤ 1099511627776) (hml : ∀ l ∈ more, l.length ≤ 1099511627776) (h64 : ∀ l ∈ more, ∀ z ∈ l, In64 z) (hmo : LlsQ w Q AM more) :
    Calls Try.prog 20 #[.pointer (some ⟨g, 0, none⟩), .slice A n c, .slice AM mn mc] w fun e w' => e = .returned (.int .i64 (mergeN S known more 16 : Nat)) ∧ SetP w' (upTo P w.heap.size w'.heap.size) g (mergeS S known more 16) ∧ Grew w w' (fun b => b = g ∨ P b) :=
  (merge11_any h.opened (open_hP P (Nat.le_refl _)) hQ A known n c hn hm hk AM more mn mc hmn hmm hml h64 hmo).mono fun e w' ⟨h1, h2, h3⟩ => ⟨h1, h2.closed, Grew.of_gro h3 (.inl rfl)⟩
theorem refAddX_any {w : World} {P : Nat → Prop} {g gL : Nat} {S : Nat → List Int} (h : SetR w P g gL S) (d q : Int) :
    Calls Try.prog 29 #[.pointer (some ⟨g, 0, none⟩), .agg #[.int .i64 d, .int .i64 q]] w fun e w' => e = .returned (.int .i64 (addE S d q)) ∧ SetR w' (upTo P w.heap.size w'.heap.size) g gL (addS S d q) ∧ Grew w w' (fun b => b = gL) :=
  (refAdd11_any h.opened (open_hP P (Nat.le_refl _)) d q).mono fun e w' ⟨h1, h2, h3⟩ => ⟨h1, h2.closed, Grew.of_gro h3 rfl⟩
theorem refMergeX_any {w : World} {P Q : Nat → Prop} {g gL : Nat} {S : Nat → List Int} (h : SetR w P g gL S) (hQ : ¬ Q gL) (A : Option Addr) (known : List Int) (n c : Nat) (hn : known.length = n) (hm : n ≤ 9223372036854775807) (hk : ElsQ encN w Q A known)
    (AM : Option Addr) (more : List (List Int)) (mn mc : Nat) (hmn : more.length = mn) (hmm : mn ≤ 1099511627776) (hmo : LlsQ w Q AM more) :
    Calls Try.prog 28 #[.pointer (some ⟨g, 0, none⟩), .slice A n c, .slice AM mn mc] w fun e w' => e = .returned (.int .i64 (mergeN S known more 16 : Nat)) ∧ SetR w' (upTo P w.heap.size w'.heap.size) g gL (mergeS S known more 16) ∧ Grew w w' (fun b => b = gL) :=
  (refMerge11_any h.opened (open_hP P (Nat.le_refl _)) hQ A known n c hn hm hk AM more mn mc hmn hmm hmo).mono fun e w' ⟨h1, h2, h3⟩ => ⟨h1, h2.closed, Grew.of_gro h3 rfl⟩
end Go.Proofs.Ytifoppnpgljphaa.Sh
