/-
  Both tapes beside each other; pick, few; a deed.
-/
import Derived.Test.YtdigfbgjefffiaaTpPg
import Derived.Deep.RegionHeld3
namespace Go.Proofs.Ytdigfbgjefffiaa.Sh
open Go Go.RowKit

set_option linter.unusedSimpArgs false
set_option linter.unusedVariables false
section
variable {w w' : World} {P Q X : Nat → Prop} {q : Nat} {S : TS}
theorem TapP.below (e : TapP w P q S) (hb : Below w.heap.size w w') : TapP w' P q S := e.kept (fun x _ hl => hb.block x hl) hb.size
theorem TapP.grew (e : TapP w P q S) (hg : Grew w w' X) (hx : ∀ x, X x → ¬ P x) : TapP w' P q S := e.kept (fun x hp hl => hg.block x hl (fun hX => hx x hX hp)) hg.size
theorem TapP.plus {n : Nat} (e : TapP w P q S) : TapP w (plusQ P n w.heap.size) q S := e.imp (fun _ hx => .inl hx) (fun x hx => hx.elim (e.dom x) (·.2))
end
/-- Both tapes: the program's has blocks P, the document's R. -/
structure Bth (w : World) (P R : Nat → Prop) (gs gr : Nat) (S : TS) : Prop where
  p : TapP w P gs S
  r : TapR w R gr S
  dj : ∀ b, P b → ¬ R b
theorem Bth.kept {w w' : World} {P R : Nat → Prop} {gs gr : Nat} {S : TS} (h : Bth w P R gs gr S) (hk : ∀ x, (P x ∨ R x) → x < w.heap.size → w'.heap[x]? = w.heap[x]?) (hs : w.heap.size ≤ w'.heap.size) : Bth w' P R gs gr S :=
  ⟨h.p.kept (fun x hx hl => hk x (.inl hx) hl) hs, h.r.kept (fun x hx hl => hk x (.inr hx) hl) hs, h.dj⟩
theorem Bth.below {w w' : World} {P R : Nat → Prop} {gs gr : Nat} {S : TS} (h : Bth w P R gs gr S) (hb : Below w.heap.size w w') : Bth w' P R gs gr S := h.kept (fun x _ hl => hb.block x hl) hb.size
theorem Bth.dom {w : World} {P R : Nat → Prop} {gs gr : Nat} {S : TS} (h : Bth w P R gs gr S) : ∀ x, (P x ∨ R x) → x < w.heap.size := fun x hx => hx.elim (h.p.dom x) (h.r.dom x)
/-- Both have done it: the program's first. -/
theorem Bth.next {w w1 w2 : World} {P R : Nat → Prop} {gs gr : Nat} {S S' : TS} (h : Bth w P R gs gr S) (hp : TapP w1 (plusQ P w.heap.size w1.heap.size) gs S') (hg : Grew w w1 P)
    (hr : TapR w2 (plusQ R w1.heap.size w2.heap.size) gr S') (hg2 : Grew w1 w2 R) :
    Bth w2 (plusQ P w.heap.size w1.heap.size) (plusQ R w1.heap.size w2.heap.size) gs gr S' ∧ Grew w w2 (fun b => P b ∨ R b) := by
  have hrd := h.r.dom
  refine ⟨⟨hp.grew hg2 (fun x hx hx2 => hx2.elim (fun h2 => h.dj x h2 hx) (fun h2 => by have := hrd x hx; omega)), hr, fun b hb hb2 => ?_⟩, (hg.mono fun b _ hb => .inl hb).trans (hg2.mono fun b _ hb => .inr hb)⟩
  have hs := hg.size
  rcases hb with hb | hb <;> rcases hb2 with hb2 | hb2
  · exact h.dj b hb hb2
  · have := h.p.dom b hb; omega
  · have := hrd b hb2; omega
  · omega
theorem Bth.mid {w w1 : World} {P R : Nat → Prop} {gs gr : Nat} {S : TS} (h : Bth w P R gs gr S) (hg : Grew w w1 P) : TapR w1 R gr S := h.r.grew hg (fun x hx => h.dj x hx)
/-- Which of n. -/
def pk (c n : Int) : Int := (if c < 0 then -(c + 1) else c) % n
theorem pick_any (c : Int) (hc : -9223372036854775808 ≤ c) (hc2 : c < 9223372036854775808) (n : Int) (hn : 0 < n) (hn2 : n < 1000000) (w : World) :
    Calls Try.prog 14 #[.int .i64 c, .int .i64 n] w fun er w' => er = .returned (.int .i64 (pk c n)) ∧ w = w' := by
  by_cases h : c < 0
  · have HP : Hid (pk c n = -(c + 1).tmod n) := hid (by unfold pk; rw [if_pos h, ← Int.neg_tmod, Int.tmod_eq_emod_of_nonneg (by omega)])
    go_enter Try.func14, Try.ntmps14
    go_wp2
    go_ret
    exact ⟨ret_int HP.out.symm, rfl⟩
  · have HP : Hid (pk c n = c % n) := hid (by unfold pk; rw [if_neg h])
    have h' : 0 ≤ c := by omega
    go_enter Try.func14, Try.ntmps14
    go_wp2
    go_ret
    exact ⟨ret_int HP.out.symm, rfl⟩
theorem pk6 (c : Int) : pk c 6 = 0 ∨ pk c 6 = 1 ∨ pk c 6 = 2 ∨ pk c 6 = 3 ∨ pk c 6 = 4 ∨ pk c 6 = 5 := by
  unfold pk
  omega
theorem few16_any (A : Option Addr) (n c : Nat) (hc : n ≤ c) (w : World) :
    Calls Try.prog 20 #[.slice A n c] w fun e w' => e = .returned (.slice A (min 60 n) c) ∧ w = w' := by
  by_cases h : 60 < n
  · have HE : Hid (min 60 n = 60) := hid (by omega)
    have h' : (60 : Int) < (n : Int) := by omega
    go_enter Try.func20, Try.ntmps20
    go_wp2
    go_ret
    exact ⟨by rw [HE.out]; rfl, rfl⟩
  · have HE : Hid (min 60 n = n) := hid (by omega)
    have h' : ¬ (60 : Int) < (n : Int) := by omega
    go_enter Try.func20, Try.ntmps20
    go_wp2
    go_ret
    exact ⟨by rw [HE.out]; rfl, rfl⟩
/-- A deed: its kind, side, number, bytes. -/
abbrev Dt := Int × Int × Int × List UInt8
def TS.step (S : TS) (x : Dt) : TS :=
  if pk x.1 6 = 0 then (S.write x.2.1 (x.2.2.2.take 60)).1 else if pk x.1 6 = 1 then (S.trim x.2.1 0).1 else if pk x.1 6 = 2 then (S.trim x.2.1 x.2.2.1).1
  else if pk x.1 6 = 3 then S.sync.1 else if pk x.1 6 = 4 then (S.fuse x.2.2.1).1 else S.crash x.2.2.1
theorem TS.step_us (S : TS) (x : Dt) : (S.step x).us.length ≤ S.us.length + 60 := by
  unfold TS.step
  split
  · refine Nat.le_trans TS.write_us ?_
    rw [List.length_take]; omega
  · split
    · exact Nat.le_trans TS.trim_us (by omega)
    · split
      · exact Nat.le_trans TS.trim_us (by omega)
      · split
        · exact Nat.le_trans TS.sync_us (by omega)
        · split
          · rw [TS.fuse_us]; omega
          · exact Nat.zero_le _
end Go.Proofs.Ytdigfbgjefffiaa.Sh
