/-
  The program's tape, by contract: of the calls that a fuse that does not burn is left with, nothing is asked.
-/
import Derived.Test.YtdigfbgjefffiaaTpPgL
import Derived.Test.YtdigfbgjefffiaaTpPgG
import Derived.Test.YtdigfbgjefffiaaTpRefE
namespace Go.Proofs.Ytdigfbgjefffiaa.Sh
open Go Go.RowKit

set_option linter.unusedSimpArgs false
set_option linter.unusedVariables false
/-- The same tape, but for what no fuse is left with. -/
def Alike (S1 S : TS) : Prop := S1 = S ∨ (S.bn = false ∧ ∃ x, S1 = { S with lf := x })
namespace Alike
variable {S1 S : TS}
theorem us (h : Alike S1 S) : S1.us = S.us := by rcases h with rfl | ⟨_, x, rfl⟩ <;> rfl
theorem ready (h : Alike S1 S) (sd : Int) : S1.ready sd = S.ready sd := by
  rcases h with rfl | ⟨hb, x, rfl⟩
  · rfl
  · unfold TS.ready
    simp [hb]
theorem burn {x : Int} (hb : S.bn = false) : TS.burn { S with lf := x } = { S with lf := x } ∧ S.burn = S := by
  unfold TS.burn
  simp [hb]
theorem write (h : Alike S1 S) (sd : Int) (l : List UInt8) : Alike (S1.write sd l).1 (S.write sd l).1 ∧ (S1.write sd l).2 = (S.write sd l).2 := by
  have hr := h.ready sd
  rcases h with rfl | ⟨hb, x, rfl⟩
  · exact ⟨.inl rfl, rfl⟩
  · obtain ⟨e1, e2⟩ := burn (x := x) hb
    have en : TS.now { S with lf := x } sd = S.now sd := rfl
    unfold TS.write
    rw [hr, e1, e2, en]
    split
    · exact ⟨.inr ⟨hb, x, rfl⟩, rfl⟩
    · split
      · exact ⟨.inr ⟨hb, x, rfl⟩, rfl⟩
      · exact ⟨.inr ⟨hb, x, rfl⟩, rfl⟩
theorem trim (h : Alike S1 S) (sd n : Int) : Alike (S1.trim sd n).1 (S.trim sd n).1 ∧ (S1.trim sd n).2 = (S.trim sd n).2 := by
  have hr := h.ready sd
  rcases h with rfl | ⟨hb, x, rfl⟩
  · exact ⟨.inl rfl, rfl⟩
  · obtain ⟨e1, e2⟩ := burn (x := x) hb
    have en : TS.now { S with lf := x } sd = S.now sd := rfl
    unfold TS.trim
    rw [hr, e1, e2, en]
    split
    · exact ⟨.inr ⟨hb, x, rfl⟩, rfl⟩
    · split
      · exact ⟨.inr ⟨hb, x, rfl⟩, rfl⟩
      · exact ⟨.inr ⟨hb, x, rfl⟩, rfl⟩
theorem sync (h : Alike S1 S) : Alike S1.sync.1 S.sync.1 ∧ S1.sync.2 = S.sync.2 := by
  have hr := h.ready 0
  rcases h with rfl | ⟨hb, x, rfl⟩
  · exact ⟨.inl rfl, rfl⟩
  · obtain ⟨e1, e2⟩ := burn (x := x) hb
    unfold TS.sync
    rw [hr, e1, e2]
    split
    · exact ⟨.inr ⟨hb, x, rfl⟩, rfl⟩
    · exact ⟨.inr ⟨hb, x, rfl⟩, rfl⟩
theorem read (h : Alike S1 S) (sd : Int) : S1.read sd = S.read sd := by
  have hr := h.ready sd
  rcases h with rfl | ⟨hb, x, rfl⟩
  · rfl
  · unfold TS.read
    rw [hr]
    rfl
theorem fuse (h : Alike S1 S) (n : Int) : Alike (S1.fuse n).1 (S.fuse n).1 ∧ (S1.fuse n).2 = (S.fuse n).2 := by
  rcases h with rfl | ⟨hb, x, rfl⟩
  · exact ⟨.inl rfl, rfl⟩
  · unfold TS.fuse
    split
    · exact ⟨.inr ⟨hb, x, rfl⟩, rfl⟩
    · refine ⟨.inl ?_, rfl⟩
      simp [hb]
theorem crash (h : Alike S1 S) (n : Int) : Alike ⟨S1.done 0 (S1.keep n), S1.done 1 (S1.keep n), [], false, S1.lf⟩ (S.crash n) := by
  rcases h with rfl | ⟨hb, x, rfl⟩
  · exact .inr ⟨rfl, _, rfl⟩
  · exact .inr ⟨rfl, _, rfl⟩
end Alike
/-- The program's tape at block q: what it has; its blocks are P. -/
def TapP (w : World) (P : Nat → Prop) (q : Nat) (S : TS) : Prop := TS.Ok S ∧ ∃ S1, Alike S1 S ∧ TapI w P q S1
section
variable {w w' : World} {P Q X : Nat → Prop} {q : Nat} {S : TS}
theorem TapP.ok (e : TapP w P q S) : TS.Ok S := e.1
theorem TapP.kept (e : TapP w P q S) (hk : ∀ x, P x → x < w.heap.size → w'.heap[x]? = w.heap[x]?) (hs : w.heap.size ≤ w'.heap.size) : TapP w' P q S := by
  obtain ⟨h, S1, a, e⟩ := e
  exact ⟨h, S1, a, e.kept hk hs⟩
theorem TapP.imp (e : TapP w P q S) (hq : ∀ x, P x → Q x) (hd : ∀ x, Q x → x < w.heap.size) : TapP w Q q S := by
  obtain ⟨h, S1, a, e⟩ := e
  exact ⟨h, S1, a, e.imp hq hd⟩
theorem TapP.dom (e : TapP w P q S) : ∀ x, P x → x < w.heap.size := by
  obtain ⟨h, S1, a, e⟩ := e
  exact e.dom
end
theorem newP_any (w : World) : Calls Try.prog 9 #[] w fun er w' => ∃ q, er = .returned (.pointer (some ⟨q, 0, none⟩)) ∧ w.heap.size ≤ q ∧ TapP w' (fun x => w.heap.size ≤ x ∧ x < w'.heap.size) q TS.new ∧ Below w.heap.size w w' := by
  refine (newI_any w).mono ?_
  rintro er w' ⟨q, e, h1, h2, h3⟩
  exact ⟨q, e, h1, ⟨TS.new_ok, _, .inl rfl, h2⟩, h3⟩
section
variable {w : World} {P : Nat → Prop} {q : Nat} {S : TS}
theorem writeP_any (e : TapP w P q S) (hu : S.us.length ≤ 900000) (sd : Int) (A : Option Addr) (l : List UInt8) (n c : Nat) (hn : l.length = n) (hc : n ≤ c) (hnm : n ≤ 70000) (hA : ∀ W, Grew w W P → Byt W W.heap.size A l) :
    Calls Try.prog 15 #[.pointer (some ⟨q, 0, none⟩), .int .i64 sd, .slice A n c] w fun er w' => er = .returned (.int .i64 (S.write sd l).2) ∧ TapP w' (plusQ P w.heap.size w'.heap.size) q (S.write sd l).1 ∧ Grew w w' P := by
  obtain ⟨h, S1, a, e⟩ := e
  refine (writeI_any e (by rw [a.us]; exact hu) sd A l n c hn hc hnm hA).mono ?_
  rintro er w' ⟨rfl, h2, h3⟩
  exact ⟨by rw [(a.write sd l).2], ⟨TS.write_ok h, _, (a.write sd l).1, h2⟩, h3⟩
theorem clearP_any (e : TapP w P q S) (hu : S.us.length ≤ 900000) (sd : Int) :
    Calls Try.prog 25 #[.pointer (some ⟨q, 0, none⟩), .int .i64 sd] w fun er w' => er = .returned (.int .i64 (S.trim sd 0).2) ∧ TapP w' (plusQ P w.heap.size w'.heap.size) q (S.trim sd 0).1 ∧ Grew w w' P := by
  obtain ⟨h, S1, a, e⟩ := e
  refine (clearI_any e (by rw [a.us]; exact hu) sd).mono ?_
  rintro er w' ⟨rfl, h2, h3⟩
  exact ⟨by rw [(a.trim sd 0).2], ⟨TS.trim_ok h, _, (a.trim sd 0).1, h2⟩, h3⟩
theorem trimP_any (e : TapP w P q S) (hu : S.us.length ≤ 900000) (sd z : Int) (hz : -9223372036854775808 ≤ z) (hz2 : z < 9223372036854775808) :
    Calls Try.prog 24 #[.pointer (some ⟨q, 0, none⟩), .int .i64 sd, .int .i64 z] w fun er w' => er = .returned (.int .i64 (S.trim sd z).2) ∧ TapP w' (plusQ P w.heap.size w'.heap.size) q (S.trim sd z).1 ∧ Grew w w' P := by
  obtain ⟨h, S1, a, e⟩ := e
  refine (trimI_any e (by rw [a.us]; exact hu) sd z hz hz2).mono ?_
  rintro er w' ⟨rfl, h2, h3⟩
  exact ⟨by rw [(a.trim sd z).2], ⟨TS.trim_ok h, _, (a.trim sd z).1, h2⟩, h3⟩
theorem syncP_any (e : TapP w P q S) (hu : S.us.length ≤ 900000) :
    Calls Try.prog 18 #[.pointer (some ⟨q, 0, none⟩)] w fun er w' => er = .returned (.int .i64 S.sync.2) ∧ TapP w' (plusQ P w.heap.size w'.heap.size) q S.sync.1 ∧ Grew w w' P := by
  obtain ⟨h, S1, a, e⟩ := e
  refine (syncI_any e (by rw [a.us]; exact hu)).mono ?_
  rintro er w' ⟨rfl, h2, h3⟩
  exact ⟨by rw [a.sync.2], ⟨TS.sync_ok h, _, a.sync.1, h2⟩, h3⟩
theorem fuseP_any (e : TapP w P q S) (z : Int) (hz : -9223372036854775808 ≤ z) (hz2 : z < 9223372036854775808) :
    Calls Try.prog 23 #[.pointer (some ⟨q, 0, none⟩), .int .i64 z] w fun er w' => er = .returned (.int .i64 (S.fuse z).2) ∧ TapP w' (plusQ P w.heap.size w'.heap.size) q (S.fuse z).1 ∧ Grew w w' P := by
  obtain ⟨h, S1, a, e⟩ := e
  refine (fuseI_any e z hz hz2).mono ?_
  rintro er w' ⟨rfl, h2, h3⟩
  exact ⟨by rw [(a.fuse z).2], ⟨TS.fuse_ok h, _, (a.fuse z).1, h2⟩, h3⟩
theorem crashP_any (e : TapP w P q S) (hu : S.us.length ≤ 900000) (z : Int) (hz : -9223372036854775808 ≤ z) (hz2 : z < 9223372036854775808) :
    Calls Try.prog 19 #[.pointer (some ⟨q, 0, none⟩), .int .i64 z] w fun er w' => er = .returned (.tuple #[]) ∧ TapP w' (plusQ P w.heap.size w'.heap.size) q (S.crash z) ∧ Grew w w' P := by
  obtain ⟨h, S1, a, e⟩ := e
  refine (crashI_any e (by rw [a.us]; exact hu) z hz hz2).mono ?_
  rintro er w' ⟨rfl, h2, h3⟩
  exact ⟨rfl, ⟨TS.crash_ok h, _, a.crash z, h2⟩, h3⟩
theorem readP_any (e : TapP w P q S) (hu : S.us.length ≤ 900000) (sd : Int) :
    Calls Try.prog 16 #[.pointer (some ⟨q, 0, none⟩), .int .i64 sd] w fun er w' => ∃ A n c, er = .returned (.tuple #[.slice A n c, .int .i64 (S.read sd).2]) ∧ n ≤ c ∧ (S.read sd).1.length = n ∧ OwnB w' w.heap.size (.slice A n c) n (S.read sd).1 ∧ Below w.heap.size w w' := by
  obtain ⟨h, S1, a, e⟩ := e
  have hr := readI_any e (by rw [a.us]; exact hu) sd
  rw [a.read sd] at hr
  exact hr
theorem unitsP_any (e : TapP w P q S) (hu : S.us.length ≤ 900000) :
    Calls Try.prog 17 #[.pointer (some ⟨q, 0, none⟩)] w fun er w' => er = .returned (.int .i64 (S.us.length : Int)) ∧ w = w' := by
  obtain ⟨h, S1, a, e⟩ := e
  have hr := unitsI_any e (by rw [a.us]; exact hu)
  rw [a.us] at hr
  exact hr
end
end Go.Proofs.Ytdigfbgjefffiaa.Sh
