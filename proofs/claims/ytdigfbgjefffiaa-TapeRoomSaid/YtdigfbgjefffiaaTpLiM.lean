/-
  The program's tape beside blocks that stand: what each call leaves.
-/
import Derived.Test.YtdigfbgjefffiaaTpLike
namespace Go.Proofs.Ytdigfbgjefffiaa.Sh
open Go Go.RowKit

set_option linter.unusedSimpArgs false
set_option linter.unusedVariables false
/-- The tape at g has S; its blocks are none of N and were made since w0. -/
def LT (w0 w : World) (N : Nat → Prop) (g : Nat) (S : TS) : Prop := ∃ P, TapP w P g S ∧ (∀ x, P x → w0.heap.size ≤ x ∧ ¬ N x) ∧ Below w0.heap.size w0 w ∧ ∀ x, N x → x < w.heap.size
/-- What N held stands. -/
def StdT (N : Nat → Prop) (w w' : World) : Prop := (∀ x, N x → w'.heap[x]? = w.heap[x]?) ∧ w.heap.size ≤ w'.heap.size
section
variable {w0 w w' : World} {N : Nat → Prop} {g : Nat} {S : TS}
theorem LT.bel (h : LT w0 w N g S) : Below w0.heap.size w0 w := by obtain ⟨P, _, _, h, _⟩ := h; exact h
theorem LT.ok (h : LT w0 w N g S) : TS.Ok S := by obtain ⟨P, h, _⟩ := h; exact h.ok
theorem LT.below (h : LT w0 w N g S) (hb : Below w.heap.size w w') : LT w0 w' N g S ∧ StdT N w w' := by
  obtain ⟨P, h1, h2, h3, h4⟩ := h
  exact ⟨⟨P, h1.below hb, h2, h3.trans (hb.mono h3.size), fun x hx => Nat.lt_of_lt_of_le (h4 x hx) hb.size⟩, fun x hx => hb.block x (h4 x hx), hb.size⟩
theorem LT.less {M : Nat → Prop} (h : LT w0 w N g S) (hm : ∀ x, M x → N x) : LT w0 w M g S := by
  obtain ⟨P, h1, h2, h3, h4⟩ := h
  exact ⟨P, h1, fun x hx => ⟨(h2 x hx).1, fun hM => (h2 x hx).2 (hm x hM)⟩, h3, fun x hx => h4 x (hm x hx)⟩
/-- What was made since stands, too. -/
theorem LT.made (h : LT w0 w N g S) (hb : Below w.heap.size w w') : LT w0 w' (fun x => N x ∨ (w.heap.size ≤ x ∧ x < w'.heap.size)) g S ∧ StdT N w w' := by
  obtain ⟨P, h1, h2, h3, h4⟩ := h
  refine ⟨⟨P, h1.below hb, fun x hx => ⟨(h2 x hx).1, fun hN => hN.elim (h2 x hx).2 (fun e => by have := h1.dom x hx; omega)⟩, h3.trans (hb.mono h3.size), fun x hx => ?_⟩, fun x hx => hb.block x (h4 x hx), hb.size⟩
  exact hx.elim (fun h => Nat.lt_of_lt_of_le (h4 x h) hb.size) (·.2)
theorem LT.turn {P : Nat → Prop} {S' : TS} (h2 : ∀ x, P x → w0.heap.size ≤ x ∧ ¬ N x) (h3 : Below w0.heap.size w0 w) (h4 : ∀ x, N x → x < w.heap.size) (hp : TapP w' (plusQ P w.heap.size w'.heap.size) g S') (hg : Grew w w' P) : LT w0 w' N g S' ∧ StdT N w w' := by
  refine ⟨⟨_, hp, fun x hx => ?_, h3.trans (hg.below h3.size (fun x hx => (h2 x hx).1)), fun x hx => Nat.lt_of_lt_of_le (h4 x hx) hg.size⟩, fun x hx => hg.block x (h4 x hx) (fun hp => (h2 x hp).2 hx), hg.size⟩
  rcases hx with hx | hx
  · exact h2 x hx
  · have := h3.size
    exact ⟨by omega, fun hN => by have := h4 x hN; omega⟩
theorem LT.new (w0 : World) (w : World) (hb : Below w0.heap.size w0 w) (N : Nat → Prop) (hN : ∀ x, N x → x < w.heap.size) : Calls Try.prog 9 #[] w fun er w' => ∃ g, er = .returned (.pointer (some ⟨g, 0, none⟩)) ∧ LT w0 w' N g TS.new ∧ StdT N w w' := by
  refine (newP_any w).mono fun er w' ⟨g, a, b, c, d⟩ => ⟨g, a, ⟨_, c, fun x hx => ⟨?_, fun h => ?_⟩, hb.trans (d.mono hb.size), fun x hx => Nat.lt_of_lt_of_le (hN x hx) d.size⟩, fun x hx => d.block x (hN x hx), d.size⟩
  · have := hb.size
    have := hx.1
    omega
  · have := hN x h
    have := hx.1
    omega
theorem LT.write (h : LT w0 w N g S) (hu : S.us.length ≤ 900000) (sd : Int) {A : Option Addr} {l : List UInt8} {n c : Nat} (hn : l.length = n) (hc : n ≤ c) (hnm : n ≤ 70000) (hA : BytQ w N A l) :
    Calls Try.prog 15 #[.pointer (some ⟨g, 0, none⟩), .int .i64 sd, .slice A n c] w fun er w' => er = .returned (.int .i64 (S.write sd l).2) ∧ LT w0 w' N g (S.write sd l).1 ∧ StdT N w w' := by
  obtain ⟨P, h1, h2, h3, h4⟩ := h
  refine (writeP_any h1 hu sd A l n c hn hc hnm (fun W hW => ?_)).mono fun er w' ⟨a, b, c⟩ => ⟨a, LT.turn h2 h3 h4 b c⟩
  exact (hA.kept (fun b hb hl => hW.block b hl (fun hp => (h2 b hp).2 hb)) hW.size).byt
theorem LT.clear (h : LT w0 w N g S) (hu : S.us.length ≤ 900000) (sd : Int) : Calls Try.prog 25 #[.pointer (some ⟨g, 0, none⟩), .int .i64 sd] w fun er w' => er = .returned (.int .i64 (S.trim sd 0).2) ∧ LT w0 w' N g (S.trim sd 0).1 ∧ StdT N w w' := by
  obtain ⟨P, h1, h2, h3, h4⟩ := h
  exact (clearP_any h1 hu sd).mono fun er w' ⟨a, b, c⟩ => ⟨a, LT.turn h2 h3 h4 b c⟩
theorem LT.trim (h : LT w0 w N g S) (hu : S.us.length ≤ 900000) (sd z : Int) (hz : -9223372036854775808 ≤ z) (hz2 : z < 9223372036854775808) : Calls Try.prog 24 #[.pointer (some ⟨g, 0, none⟩), .int .i64 sd, .int .i64 z] w fun er w' => er = .returned (.int .i64 (S.trim sd z).2) ∧ LT w0 w' N g (S.trim sd z).1 ∧ StdT N w w' := by
  obtain ⟨P, h1, h2, h3, h4⟩ := h
  exact (trimP_any h1 hu sd z hz hz2).mono fun er w' ⟨a, b, c⟩ => ⟨a, LT.turn h2 h3 h4 b c⟩
theorem LT.sync (h : LT w0 w N g S) (hu : S.us.length ≤ 900000) : Calls Try.prog 18 #[.pointer (some ⟨g, 0, none⟩)] w fun er w' => er = .returned (.int .i64 S.sync.2) ∧ LT w0 w' N g S.sync.1 ∧ StdT N w w' := by
  obtain ⟨P, h1, h2, h3, h4⟩ := h
  exact (syncP_any h1 hu).mono fun er w' ⟨a, b, c⟩ => ⟨a, LT.turn h2 h3 h4 b c⟩
theorem LT.fuse (h : LT w0 w N g S) (z : Int) (hz : -9223372036854775808 ≤ z) (hz2 : z < 9223372036854775808) : Calls Try.prog 23 #[.pointer (some ⟨g, 0, none⟩), .int .i64 z] w fun er w' => er = .returned (.int .i64 (S.fuse z).2) ∧ LT w0 w' N g (S.fuse z).1 ∧ StdT N w w' := by
  obtain ⟨P, h1, h2, h3, h4⟩ := h
  exact (fuseP_any h1 z hz hz2).mono fun er w' ⟨a, b, c⟩ => ⟨a, LT.turn h2 h3 h4 b c⟩
theorem LT.crash (h : LT w0 w N g S) (hu : S.us.length ≤ 900000) (z : Int) (hz : -9223372036854775808 ≤ z) (hz2 : z < 9223372036854775808) : Calls Try.prog 19 #[.pointer (some ⟨g, 0, none⟩), .int .i64 z] w fun er w' => er = .returned (.tuple #[]) ∧ LT w0 w' N g (S.crash z) ∧ StdT N w w' := by
  obtain ⟨P, h1, h2, h3, h4⟩ := h
  exact (crashP_any h1 hu z hz hz2).mono fun er w' ⟨a, b, c⟩ => ⟨a, LT.turn h2 h3 h4 b c⟩
theorem LT.read (h : LT w0 w N g S) (hu : S.us.length ≤ 900000) (sd : Int) : Calls Try.prog 16 #[.pointer (some ⟨g, 0, none⟩), .int .i64 sd] w fun er w' => ∃ A n c, er = .returned (.tuple #[.slice A n c, .int .i64 (S.read sd).2]) ∧ n ≤ c ∧ (S.read sd).1.length = n ∧
    OwnB w' w.heap.size (.slice A n c) n (S.read sd).1 ∧ LT w0 w' (fun x => N x ∨ (w.heap.size ≤ x ∧ x < w'.heap.size)) g S ∧ StdT N w w' := by
  have h' := h
  obtain ⟨P, h1, h2, h3, h4⟩ := h
  exact (readP_any h1 hu sd).mono fun er w' ⟨A, n, c, a, b, d, e, f⟩ => ⟨A, n, c, a, b, d, e, h'.made f⟩
theorem LT.units (h : LT w0 w N g S) (hu : S.us.length ≤ 900000) : Calls Try.prog 17 #[.pointer (some ⟨g, 0, none⟩)] w fun er w' => er = .returned (.int .i64 (S.us.length : Int)) ∧ w = w' := by
  obtain ⟨P, h1, _⟩ := h
  exact unitsP_any h1 hu
end
theorem BytQ.std {w w' : World} {N : Nat → Prop} {A : Option Addr} {l : List UInt8} (h : BytQ w N A l) (hs : StdT N w w') : BytQ w' N A l := h.kept (fun b hb _ => hs.1 b hb) hs.2
/-- The document's tape stands, too, where its blocks do. -/
theorem TapR.std {w w' : World} {N R : Nat → Prop} {q : Nat} {S : TS} (h : TapR w R q S) (hs : StdT N w w') (hR : ∀ x, R x → N x) : TapR w' R q S := h.kept (fun x hx _ => hs.1 x (hR x hx)) hs.2
/-- A literal's bytes in a block that stands. -/
theorem LT.lit {w0 w : World} {N : Nat → Prop} {g : Nat} {S : TS} (h : LT w0 w N g S) (cs : List UInt8) (t : TypeId) (fr : Nat × Nat) :
    LT w0 (w.alloc (.cells (bv cs).toArray t fr)) (fun x => N x ∨ x = w.heap.size) g S ∧ StdT N w (w.alloc (.cells (bv cs).toArray t fr)) ∧ BytQ (w.alloc (.cells (bv cs).toArray t fr)) (fun x => N x ∨ x = w.heap.size) (some ⟨w.heap.size, 0, none⟩) cs := by
  have hb : Below w.heap.size w (w.alloc (.cells (bv cs).toArray t fr)) := (Below.refl _ _).alloc (Nat.le_refl _) _
  have hs : (w.alloc (.cells (bv cs).toArray t fr)).heap.size = w.heap.size + 1 := by simp
  obtain ⟨h1, h2⟩ := h.made hb
  refine ⟨h1.less (fun x hx => hx.imp id (fun e => by rw [hs]; omega)), h2, fun _ => ⟨_, rfl, .inr rfl, by rw [hs]; exact Nat.lt_succ_self _, fun j x hx => ?_⟩⟩
  exact World.news_of_block (cs := (bv cs).toArray) (t := t) (fr := fr) (heap_alloc_new w _) j _ (by simp [bv, hx])
end Go.Proofs.Ytdigfbgjefffiaa.Sh
