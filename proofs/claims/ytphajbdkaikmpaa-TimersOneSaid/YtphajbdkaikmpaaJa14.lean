/-
  Both queues are alike.
-/
import Derived.Test.YtphajbdkaikmpaaJa13
import Derived.BigQuiet
import Derived.Test.YtphajbdkaikmpaaJa11
import Derived.Deep.CutRange
set_option linter.unusedVariables false
set_option linter.unusedSimpArgs false
namespace Go.Proofs.Ytphajbdkaikmpaa.Sh
open Go Go.RowKit

set_option linter.unusedSimpArgs false
set_option linter.unusedVariables false
set_option maxHeartbeats 8000000 in
theorem likeT_any {w : World} {B : Nat} {P R : Nat → Prop} {q r k : Nat} {L : List Tm} (h : Bth w B P R q r k L) :
    Calls Try.prog 9 #[.pointer (some ⟨q, 0, none⟩), .pointer (some ⟨r, 0, none⟩)] w fun er w' => er = .returned (.bool true) ∧ Below w.heap.size w w' := by
  have HA := hid (allQ_any h.p)
  have HLN := hid (fun W (hb : Below w.heap.size w W) => lenQ_any (h.p.below hb))
  have HFI := hid (fun W (hb : Below w.heap.size w W) => firstQ_any (h.p.below hb))
  obtain ⟨RA, rc, a1, a2, a3⟩ := h.r.e
  have HX := hid (fun W hb => (a3 W hb).1)
  have HY := hid (fun W hb => (a3 W hb).2.2)
  have hlen := h.len
  obtain ⟨n, hn⟩ : ∃ n, L.length = n := ⟨_, rfl⟩
  rw [hn] at HA HLN HX a1 hlen
  have HN := hid hn
  have hnn : ((n : Int) != (n : Int)) = false := by simp
  clear h a3 hn
  go_enter Try.func9, Try.ntmps9
  go_wp2_with fail
  refine HA.out.mono ?_
  rintro er w2 ⟨A2, c2, rfl, o2, b2⟩
  have hc2 : n ≤ c2 ∧ c2 ≤ 9223372036854775807 := by
    obtain ⟨A', c', e, h1, h2, _⟩ := o2.els
    simp only [Value.slice.injEq] at e
    obtain ⟨-, -, rfl⟩ := e
    rw [HN.out] at h1
    exact ⟨h1, h2⟩
  have HZ := hid (fun W (hW : Below w2.heap.size w2 W) => (own_els o2).below hW)
  have HB2 := hid b2
  have HS2 := hid b2.size
  have cr := HX.out w2 b2
  have HL2 := hid (HLN.out w2.drew b2.drew)
  clear o2 b2 HA
  go_wp2_with fail
  go_region_held3 (fun W => W.cell? ⟨r, 0, none⟩ = some (.slice RA n rc)) (exact HX.out _ HB2.out.drew) ((go_at_call 11; (refine HL2.out.mono ?_); rintro er w3 ⟨rfl, rfl⟩))
  clear cr
  have HBD := hid (below_drewT w2)
  go_wp2_with fail
  go_loopw [6] (fun i wr => ∃ j : Nat, i = .int .i64 (j : Int) ∧ j ≤ n ∧ Hid (Below w2.heap.size w2 wr)) (fun i _ => n - (intOf i).toNat)
  case atStart => exact ⟨0, rfl, Nat.zero_le _, HBD⟩
  case round =>
    obtain ⟨wj, hwj⟩ : ∃ x, x = wr := ⟨_, rfl⟩
    subst hwj
    obtain ⟨j, rfl, hj, HB⟩ := hrel
    have hj0 : (0 : Int) ≤ (j : Int) := Int.natCast_nonneg _
    have HBJ : Hid (Below w.heap.size w wj) := hid (HB2.out.trans (HB.out.mono HS2.out))
    have cr := HX.out wj HBJ.out
    by_cases hlt : j < n
    · obtain ⟨⟨d, u⟩, hx⟩ : ∃ x, L[j]? = some x := ⟨_, List.getElem?_eq_getElem (by rw [HN.out]; exact hlt)⟩
      obtain ⟨ad, aj, rfl, ea, HC⟩ := els_at HZ.out hx wj HB.out
      obtain ⟨bd, bj, rfl, eb, HD⟩ := els_at HY.out hx wj HBJ.out
      obtain ⟨c0, c1⟩ := HC wj HB.out
      obtain ⟨d0, d1⟩ := HD wj HBJ.out
      simp only at c0 c1 d0 d1
      have hj1 : (j : Int) < (n : Int) := by omega
      have hd : (d != d) = false := by simp
      have hu : (u != u) = false := by simp
      have HJD := hid (fun m => below_drewN HB.out m)
      clear hx HC HD
      go_wp2_with fail
      go_quiet (fail)
      go_wp2_with fail
      go_roundw
      case rel => exact ⟨j + 1, by go_num, by omega, hid (HJD.out _)⟩
      case measure => simp [intOf]; omega
    · obtain rfl : j = n := by omega
      have HF := hid (HFI.out wj HBJ.out)
      clear cr
      cases L with
      | nil =>
        obtain rfl : j = 0 := HN.out.symm
        have HF : Hid (Calls Try.prog 13 #[.pointer (some ⟨q, 0, none⟩)] wj fun er w' => er = .returned (.tuple #[.agg #[.int .i64 0, .int .i64 0], .bool false]) ∧ Below wj.heap.size wj w') := hid HF.out
        go_wp2_with fail
        refine HF.out.mono ?_
        rintro er w3 ⟨rfl, b3⟩
        obtain ⟨w4, hw4⟩ : ∃ x, x = w3.alloc (.cells #[.int .i64 0, .int .i64 0] 37) := ⟨_, rfl⟩
        have r4 : w4.heap[w3.heap.size]? = some (.cells #[.int .i64 0, .int .i64 0] 37 (0, 0)) := by rw [hw4]; exact heap_alloc_new _ _
        have x0 : w4.cell? ⟨w3.heap.size, 0, none⟩ = some (.int .i64 0) := by rw [cell_of_row _ _ 0 _ _ (0, 0) r4]; rfl
        have x1 : w4.cell? ⟨w3.heap.size, 1, none⟩ = some (.int .i64 0) := by rw [cell_of_row _ _ 1 _ _ (0, 0) r4]; rfl
        have HE : Hid (Below w.heap.size w w4) := hid (by
          have h1 : Below w.heap.size w w3 := HBJ.out.trans (b3.mono HBJ.out.size)
          rw [hw4]; exact h1.alloc h1.size _)
        have HW := hid hw4
        clear b3 r4 hw4
        go_upto_region 10 with fail
        rw [← HW.out]
        go_wp2_with fail
        go_ret
        exact ⟨rfl, HE.out⟩
      | cons x t =>
        obtain ⟨d, u⟩ := x
        have HF : Hid (Calls Try.prog 13 #[.pointer (some ⟨q, 0, none⟩)] wj fun er w' => er = .returned (.tuple #[.agg #[.int .i64 d, .int .i64 u], .bool true]) ∧ Below wj.heap.size wj w') := hid HF.out
        have hj : j = t.length + 1 := HN.out.symm
        have hjz : ((j : Int) == 0) = false := beq_eq_false_iff_ne.2 (by omega)
        have hjp : (0 : Int) < (j : Int) := by omega
        have hd : (d == d) = true := by simp
        have hu : (u == u) = true := by simp
        obtain ⟨ad, aj, rfl, ea, HC⟩ := els_at HZ.out (k := 0) (x := (d, u)) rfl wj HB.out
        have ea2 : ad.add 0 = aj := ea
        rw [add_zero] at ea2
        subst ea2
        have e0 := add_zero ad
        have HC := hid HC
        clear ea hj
        go_wp2_with fail
        refine HF.out.mono ?_
        rintro er w3 ⟨rfl, b3⟩
        obtain ⟨w4, hw4⟩ : ∃ x, x = w3.alloc (.cells #[.int .i64 d, .int .i64 u] 37) := ⟨_, rfl⟩
        have r4 : w4.heap[w3.heap.size]? = some (.cells #[.int .i64 d, .int .i64 u] 37 (0, 0)) := by rw [hw4]; exact heap_alloc_new _ _
        have x0 : w4.cell? ⟨w3.heap.size, 0, none⟩ = some (.int .i64 d) := by rw [cell_of_row _ _ 0 _ _ (0, 0) r4]; rfl
        have x1 : w4.cell? ⟨w3.heap.size, 1, none⟩ = some (.int .i64 u) := by rw [cell_of_row _ _ 1 _ _ (0, 0) r4]; rfl
        have HE : Hid (Below w.heap.size w w4) := hid (by
          have h1 : Below w.heap.size w w3 := HBJ.out.trans (b3.mono HBJ.out.size)
          rw [hw4]; exact h1.alloc h1.size _)
        have HE2 : Hid (Below w2.heap.size w2 w4) := hid (by
          have h1 : Below w2.heap.size w2 w3 := HB.out.trans (b3.mono HB.out.size)
          rw [hw4]; exact h1.alloc h1.size _)
        obtain ⟨y0, y1⟩ := HC.out w4 HE2.out
        try simp only at y0 y1
        have HW := hid hw4
        have HED := hid (fun m => below_drewN HE.out m)
        clear b3 r4 hw4
        go_upto_region 10 with fail
        rw [← HW.out]
        go_wp2_with fail
        go_quiet (fail)
        go_wp2_with fail
        go_ret
        exact ⟨rfl, HED.out _⟩
end Go.Proofs.Ytphajbdkaikmpaa.Sh
/-
  A queue beside which some blocks stand: what each call leaves.
-/
namespace Go.Proofs.Ytphajbdkaikmpaa.Sh
open Go Go.RowKit

set_option linter.unusedSimpArgs false
set_option linter.unusedVariables false
/-- The queue at q has L; its blocks are none of N and were made since w0. -/
def LQ (w0 w : World) (N : Nat → Prop) (q k : Nat) (L : List Tm) : Prop := ∃ P, QueP w P q k L ∧ (∀ x, P x → w0.heap.size ≤ x ∧ ¬ N x) ∧ Below w0.heap.size w0 w ∧ ∀ x, N x → x < w.heap.size
/-- What N held stands. -/
def Std (N : Nat → Prop) (w w' : World) : Prop := ∀ x, N x → w'.heap[x]? = w.heap[x]?
section
variable {w0 w w' : World} {N : Nat → Prop} {q k : Nat} {L : List Tm}
theorem LQ.bel (h : LQ w0 w N q k L) : Below w0.heap.size w0 w := by obtain ⟨P, _, _, h, _⟩ := h; exact h
theorem LQ.below (h : LQ w0 w N q k L) (hb : Below w.heap.size w w') : LQ w0 w' N q k L ∧ Std N w w' := by
  obtain ⟨P, h1, h2, h3, h4⟩ := h
  exact ⟨⟨P, h1.below hb, h2, h3.trans (hb.mono h3.size), fun x hx => Nat.lt_of_lt_of_le (h4 x hx) hb.size⟩, fun x hx => hb.block x (h4 x hx)⟩
theorem LQ.mono {k' : Nat} (h : LQ w0 w N q k L) (hk : k ≤ k') : LQ w0 w N q k' L := by
  obtain ⟨P, h1, h2⟩ := h
  exact ⟨P, h1.mono hk, h2⟩
theorem LQ.less {M : Nat → Prop} (h : LQ w0 w N q k L) (hm : ∀ x, M x → N x) : LQ w0 w M q k L := by
  obtain ⟨P, h1, h2, h3, h4⟩ := h
  exact ⟨P, h1, fun x hx => ⟨(h2 x hx).1, fun hM => (h2 x hx).2 (hm x hM)⟩, h3, fun x hx => h4 x (hm x hx)⟩
/-- One block more that stands. -/
theorem LQ.alloc (h : LQ w0 w N q k L) (o : Obj) : LQ w0 (w.alloc o) (fun x => N x ∨ x = w.heap.size) q k L ∧ Std N w (w.alloc o) := by
  obtain ⟨P, h1, h2, h3, h4⟩ := h
  have hb : Below w.heap.size w (w.alloc o) := (Below.refl _ _).alloc (Nat.le_refl _) o
  have hs : (w.alloc o).heap.size = w.heap.size + 1 := by simp
  refine ⟨⟨P, h1.below hb, fun x hx => ⟨(h2 x hx).1, fun hN => hN.elim (h2 x hx).2 (fun e => by have := h1.dom x hx; omega)⟩, h3.trans (hb.mono h3.size), fun x hx => ?_⟩, fun x hx => hb.block x (h4 x hx)⟩
  rw [hs]
  rcases hx with hx | hx
  · have := h4 x hx; omega
  · omega
theorem LQ.turn {P : Nat → Prop} {k' : Nat} {L' : List Tm} (h2 : ∀ x, P x → w0.heap.size ≤ x ∧ ¬ N x) (h3 : Below w0.heap.size w0 w) (h4 : ∀ x, N x → x < w.heap.size) (hp : QueP w' (plusT P w.heap.size w'.heap.size) q k' L') (hg : Grew w w' P) : LQ w0 w' N q k' L' ∧ Std N w w' := by
  refine ⟨⟨_, hp, fun x hx => ?_, h3.trans (hg.below h3.size (fun x hx => (h2 x hx).1)), fun x hx => Nat.lt_of_lt_of_le (h4 x hx) hg.size⟩, fun x hx => hg.block x (h4 x hx) (fun hp => (h2 x hp).2 hx)⟩
  rcases hx with hx | hx
  · exact h2 x hx
  · have := h3.size
    exact ⟨by omega, fun hN => by have := h4 x hN; omega⟩
theorem LQ.set (h : LQ w0 w N q k L) {kd : Int} (hkd : In64 kd) (due : Int) (hk : k < 980000) : Calls Try.prog 14 #[.pointer (some ⟨q, 0, none⟩), .int .i64 kd, .int .i64 due] w fun er w' => er = .returned (.int .i64 (setT kd due L).1) ∧ LQ w0 w' N q (k + 500) (setT kd due L).2 ∧ Std N w w' := by
  obtain ⟨P, h1, h2, h3, h4⟩ := h
  exact (setQ_any h1 hkd due hk).mono fun er w' ⟨a, b, c⟩ => ⟨a, LQ.turn h2 h3 h4 b c⟩
theorem LQ.pop (h : LQ w0 w N q k L) (now : Int) (hk : k < 980000) : Calls Try.prog 12 #[.pointer (some ⟨q, 0, none⟩), .int .i64 now] w fun er w' => er = .returned (.tuple #[.agg #[.int .i64 (popT now L).1.1.1, .int .i64 (popT now L).1.1.2], .bool (popT now L).1.2]) ∧ LQ w0 w' N q (k + 500) (popT now L).2 ∧ Std N w w' := by
  obtain ⟨P, h1, h2, h3, h4⟩ := h
  exact (popQ_any h1 now hk).mono fun er w' ⟨a, b, c⟩ => ⟨a, LQ.turn h2 h3 h4 b.plus c⟩
theorem LQ.stop (h : LQ w0 w N q k L) {kd : Int} (hkd : In64 kd) (hk : k < 980000) : Calls Try.prog 16 #[.pointer (some ⟨q, 0, none⟩), .int .i64 kd] w fun er w' => er = .returned (.bool (decide ((noT kd L).length < L.length))) ∧ LQ w0 w' N q (k + 500) (noT kd L) ∧ Std N w w' := by
  obtain ⟨P, h1, h2, h3, h4⟩ := h
  exact (stopQ_any h1 hkd hk).mono fun er w' ⟨a, b, c⟩ => ⟨a, LQ.turn h2 h3 h4 b.plus c⟩
theorem LQ.len (h : LQ w0 w N q k L) : Calls Try.prog 11 #[.pointer (some ⟨q, 0, none⟩)] w fun er w' => er = .returned (.int .i64 (L.length : Int)) ∧ w = w' := by
  obtain ⟨P, h1, _⟩ := h
  exact lenQ_any h1
theorem LQ.first (h : LQ w0 w N q k L) : Calls Try.prog 13 #[.pointer (some ⟨q, 0, none⟩)] w fun er w' => er = .returned (.tuple #[.agg #[.int .i64 (headT L).1.1, .int .i64 (headT L).1.2], .bool (headT L).2]) ∧ LQ w0 w' N q k L ∧ Std N w w' := by
  have h' := h
  obtain ⟨P, h1, _⟩ := h
  exact (firstQ_any h1).mono fun er w' ⟨a, b⟩ => ⟨a, h'.below b⟩
theorem LQ.all (h : LQ w0 w N q k L) : Calls Try.prog 15 #[.pointer (some ⟨q, 0, none⟩)] w fun er w' => ∃ A' c', er = .returned (.slice A' L.length c') ∧ Own (E := encT) w' w.heap.size 37 (.slice A' L.length c') L ∧ LQ w0 w' N q k L ∧ Std N w w' := by
  have h' := h
  obtain ⟨P, h1, _⟩ := h
  exact (allQ_any h1).mono fun er w' ⟨A, c, a, b, d⟩ => ⟨A, c, a, b, h'.below d⟩
theorem LQ.new (w : World) (N : Nat → Prop) (hN : ∀ x, N x → x < w.heap.size) : Calls Try.prog 7 #[] w fun er w' => ∃ q, er = .returned (.pointer (some ⟨q, 0, none⟩)) ∧ LQ w w' N q 0 [] ∧ Std N w w' := by
  refine (newQ_any w).mono fun er w' ⟨q, a, b, c⟩ => ⟨q, a, ⟨_, b, fun x hx => hx.elim (fun h => h.elim) (fun h => ⟨h.1, fun hn => by have := hN x hn; omega⟩), c, fun x hx => Nat.lt_of_lt_of_le (hN x hx) c.size⟩, fun x hx => c.block x (hN x hx)⟩
end
end Go.Proofs.Ytphajbdkaikmpaa.Sh
/-
  lives of timers: the document's examples. Written by mk_tmlives.py.
-/
namespace Go.Proofs.Ytphajbdkaikmpaa.Sh
open Go Go.RowKit

set_option linter.unusedSimpArgs false
set_option linter.unusedVariables false
theorem LQ.setC {w0 w : World} {N : Nat → Prop} {q k : Nat} {L : List Tm} (h : LQ w0 w N q k L) (kd due : Int) (hkd : In64 kd) (hk : k < 980000) {E : Int} {L' : List Tm} (e : setT kd due L = (E, L')) : Calls Try.prog 14 #[.pointer (some ⟨q, 0, none⟩), .int .i64 kd, .int .i64 due] w fun er w' => er = .returned (.int .i64 E) ∧ LQ w0 w' N q (k + 500) L' ∧ Std N w w' := by
  have := h.set hkd due hk
  rw [e] at this
  exact this
theorem LQ.popC {w0 w : World} {N : Nat → Prop} {q k : Nat} {L : List Tm} (h : LQ w0 w N q k L) (now : Int) (hk : k < 980000) {a u : Int} {b : Bool} {L' : List Tm} (e : popT now L = (((a, u), b), L')) : Calls Try.prog 12 #[.pointer (some ⟨q, 0, none⟩), .int .i64 now] w fun er w' => er = .returned (.tuple #[.agg #[.int .i64 a, .int .i64 u], .bool b]) ∧ LQ w0 w' N q (k + 500) L' ∧ Std N w w' := by
  have := h.pop now hk
  rw [e] at this
  exact this
theorem in64_small {z : Int} (h0 : 0 ≤ z) (h : z ≤ 100) : In64 z := by unfold In64; omega
set_option maxHeartbeats 4000000 in
theorem lives14_any (w : World) : Calls Try.prog 10 #[] w fun er w' => er = .returned (.bool true) ∧ Below w.heap.size w w' := by
  have HN := hid (LQ.new w (fun _ => False) (fun x hx => hx.elim))
  go_enter Try.func10, Try.ntmps10
  go_wp2_with fail
  refine HN.out.mono ?_
  rintro er w1 ⟨q, rfl, q1, -⟩
  have HQ1 := hid q1
  clear q1 HN
  have HS := hid (HQ1.out.setC 1 9 (in64_small (by omega) (by omega)) (by omega) (E := 0) (L' := [(9, 1)]) (by decide))
  go_wp2_with fail
  refine HS.out.mono ?_
  rintro er w2 ⟨rfl, qn, sn⟩
  have HQ2 := hid qn
  clear qn sn HS HQ1
  have HS := hid (HQ2.out.setC 2 5 (in64_small (by omega) (by omega)) (by omega) (E := 0) (L' := [(5, 2), (9, 1)]) (by decide))
  go_wp2_with fail
  refine HS.out.mono ?_
  rintro er w3 ⟨rfl, qn, sn⟩
  have HQ3 := hid qn
  clear qn sn HS HQ2
  have HS := hid (HQ3.out.setC 3 5 (in64_small (by omega) (by omega)) (by omega) (E := 0) (L' := [(5, 2), (5, 3), (9, 1)]) (by decide))
  go_wp2_with fail
  refine HS.out.mono ?_
  rintro er w4 ⟨rfl, qn, sn⟩
  have HQ4 := hid qn
  clear qn sn HS HQ3
  have HS := hid (HQ4.out.popC 5 (by omega) (a := 5) (u := 2) (b := true) (L' := [(5, 3), (9, 1)]) (by decide))
  go_wp2_with fail
  refine HS.out.mono ?_
  rintro er v5 ⟨rfl, qn, sn⟩
  obtain ⟨w5, hw⟩ : ∃ x, x = v5.alloc (.cells #[.int .i64 5, .int .i64 2] 37) := ⟨_, rfl⟩
  obtain ⟨qa, sa⟩ := qn.alloc (.cells #[.int .i64 5, .int .i64 2] 37)
  rw [← hw] at qa sa
  have R0 : Hid (w5.heap[v5.heap.size]? = some (.cells #[.int .i64 5, .int .i64 2] 37 (0, 0))) := hid (by rw [hw]; exact heap_alloc_new _ _)
  have HQ5 := hid qa
  have HW := hid hw
  clear qn sn qa sa hw HS HQ4
  go_upto_region 8 with fail
  rw [← HW.out]
  clear HW
  have HS := hid (HQ5.out.popC 5 (by omega) (a := 5) (u := 3) (b := true) (L' := [(9, 1)]) (by decide))
  go_wp2_with fail
  refine HS.out.mono ?_
  rintro er v6 ⟨rfl, qn, sn⟩
  have R0 := hid ((sn _ (.inr rfl)).trans R0.out)
  obtain ⟨w6, hw⟩ : ∃ x, x = v6.alloc (.cells #[.int .i64 5, .int .i64 3] 37) := ⟨_, rfl⟩
  obtain ⟨qa, sa⟩ := qn.alloc (.cells #[.int .i64 5, .int .i64 3] 37)
  rw [← hw] at qa sa
  have R0 := hid ((sa _ (.inr rfl)).trans R0.out)
  have R1 : Hid (w6.heap[v6.heap.size]? = some (.cells #[.int .i64 5, .int .i64 3] 37 (0, 0))) := hid (by rw [hw]; exact heap_alloc_new _ _)
  have HQ6 := hid qa
  have HW := hid hw
  clear qn sn qa sa hw HS HQ5
  go_upto_region 9 with fail
  rw [← HW.out]
  clear HW
  have HS := hid (HQ6.out.popC 5 (by omega) (a := 0) (u := 0) (b := false) (L' := [(9, 1)]) (by decide))
  go_wp2_with fail
  refine HS.out.mono ?_
  rintro er v7 ⟨rfl, qn, sn⟩
  have R0 := hid ((sn _ (.inl (.inr rfl))).trans R0.out)
  have R1 := hid ((sn _ (.inr rfl)).trans R1.out)
  obtain ⟨w7, hw⟩ : ∃ x, x = v7.alloc (.cells #[.int .i64 0, .int .i64 0] 37) := ⟨_, rfl⟩
  obtain ⟨qa, sa⟩ := qn.alloc (.cells #[.int .i64 0, .int .i64 0] 37)
  rw [← hw] at qa sa
  have R0 := hid ((sa _ (.inl (.inr rfl))).trans R0.out)
  have R1 := hid ((sa _ (.inr rfl)).trans R1.out)
  have R2 : Hid (w7.heap[v7.heap.size]? = some (.cells #[.int .i64 0, .int .i64 0] 37 (0, 0))) := hid (by rw [hw]; exact heap_alloc_new _ _)
  have HQ7 := hid qa
  have HW := hid hw
  clear qn sn qa sa hw HS HQ6
  go_upto_region 10 with fail
  rw [← HW.out]
  clear HW
  have HS := hid (HQ7.out.setC 1 4 (in64_small (by omega) (by omega)) (by omega) (E := 0) (L' := [(4, 1)]) (by decide))
  go_wp2_with fail
  refine HS.out.mono ?_
  rintro er w8 ⟨rfl, qn, sn⟩
  have HQ8 := hid qn
  have R0 := hid ((sn _ (.inl (.inl (.inr rfl)))).trans R0.out)
  have R1 := hid ((sn _ (.inl (.inr rfl))).trans R1.out)
  have R2 := hid ((sn _ (.inr rfl)).trans R2.out)
  clear qn sn HS HQ7
  have HS := hid (HQ8.out.popC 5 (by omega) (a := 4) (u := 1) (b := true) (L' := []) (by decide))
  go_wp2_with fail
  refine HS.out.mono ?_
  rintro er v9 ⟨rfl, qn, sn⟩
  have R0 := hid ((sn _ (.inl (.inl (.inr rfl)))).trans R0.out)
  have R1 := hid ((sn _ (.inl (.inr rfl))).trans R1.out)
  have R2 := hid ((sn _ (.inr rfl)).trans R2.out)
  obtain ⟨w9, hw⟩ : ∃ x, x = v9.alloc (.cells #[.int .i64 4, .int .i64 1] 37) := ⟨_, rfl⟩
  obtain ⟨qa, sa⟩ := qn.alloc (.cells #[.int .i64 4, .int .i64 1] 37)
  rw [← hw] at qa sa
  have R0 := hid ((sa _ (.inl (.inl (.inr rfl)))).trans R0.out)
  have R1 := hid ((sa _ (.inl (.inr rfl))).trans R1.out)
  have R2 := hid ((sa _ (.inr rfl)).trans R2.out)
  have R3 : Hid (w9.heap[v9.heap.size]? = some (.cells #[.int .i64 4, .int .i64 1] 37 (0, 0))) := hid (by rw [hw]; exact heap_alloc_new _ _)
  have HQ9 := hid qa
  have HW := hid hw
  clear qn sn qa sa hw HS HQ8
  go_upto_region 12 with fail
  rw [← HW.out]
  clear HW
  have HL := HQ9.out.len
  have HL : Hid (Calls Try.prog 11 #[.pointer (some ⟨q, 0, none⟩)] w9 fun er w' => er = .returned (.int .i64 0) ∧ w9 = w') := hid HL
  have HBEL := hid HQ9.out.bel
  have x0 : w9.cell? ⟨v5.heap.size, 0, none⟩ = some (.int .i64 5) := by rw [cell_of_row _ _ 0 _ _ (0, 0) R0.out]; rfl
  have y0 : w9.cell? ⟨v5.heap.size, 1, none⟩ = some (.int .i64 2) := by rw [cell_of_row _ _ 1 _ _ (0, 0) R0.out]; rfl
  have x1 : w9.cell? ⟨v6.heap.size, 0, none⟩ = some (.int .i64 5) := by rw [cell_of_row _ _ 0 _ _ (0, 0) R1.out]; rfl
  have y1 : w9.cell? ⟨v6.heap.size, 1, none⟩ = some (.int .i64 3) := by rw [cell_of_row _ _ 1 _ _ (0, 0) R1.out]; rfl
  have x2 : w9.cell? ⟨v7.heap.size, 0, none⟩ = some (.int .i64 0) := by rw [cell_of_row _ _ 0 _ _ (0, 0) R2.out]; rfl
  have y2 : w9.cell? ⟨v7.heap.size, 1, none⟩ = some (.int .i64 0) := by rw [cell_of_row _ _ 1 _ _ (0, 0) R2.out]; rfl
  have x3 : w9.cell? ⟨v9.heap.size, 0, none⟩ = some (.int .i64 4) := by rw [cell_of_row _ _ 0 _ _ (0, 0) R3.out]; rfl
  have y3 : w9.cell? ⟨v9.heap.size, 1, none⟩ = some (.int .i64 1) := by rw [cell_of_row _ _ 1 _ _ (0, 0) R3.out]; rfl
  go_wp2_with fail
  refine HL.out.mono ?_
  rintro er w99 ⟨rfl, hw⟩
  have hw2 : w9 = w99 := hw
  subst hw2
  clear hw
  go_wp2_with fail
  go_ret
  exact ⟨rfl, HBEL.out⟩
end Go.Proofs.Ytphajbdkaikmpaa.Sh
/-
  Deeds that came in; two new queues.
-/
namespace Go.Proofs.Ytphajbdkaikmpaa.Sh
open Go Go.RowKit

set_option linter.unusedSimpArgs false
set_option linter.unusedVariables false
/-- A deed: what is asked, the kind, the tick. -/
abbrev D3 := Int × Int × Int
def encD3 : Enc D3 := ⟨3, fun x => [.int .i64 x.1, .int .i64 x.2.1, .int .i64 x.2.2], by omega, fun _ => rfl, fun x u hu => by
  simp only [List.mem_cons, List.not_mem_nil, or_false] at hu
  rcases hu with rfl | rfl | rfl <;> rfl⟩
/-- The cells of the deed at i. -/
theorem deed_at {w : World} {B : Nat} {A : Option Addr} {xs : List D3} (h : Els encD3 w B A xs) {i : Nat} {x : D3} (hx : xs[i]? = some x) : ∃ ad aj, A = some ad ∧ ad.add (i * 3) = aj ∧
    w.cell? aj = some (.int .i64 x.1) ∧ w.cell? ⟨aj.block, aj.off + 1, none⟩ = some (.int .i64 x.2.1) ∧ w.cell? ⟨aj.block, aj.off + 2, none⟩ = some (.int .i64 x.2.2) := by
  obtain ⟨ad, aj, e, -, ea, -, f0, fs⟩ := h.get hx
  exact ⟨ad, aj, e, ea, f0 _ rfl, fs 1 _ (by decide) rfl, fs 2 _ (by decide) rfl⟩
theorem bthT_new {w w2 : World} {q : Nat} (hb : Below w.heap.size w w2) (h : QueP w2 (plusT (fun _ => False) w.heap.size w2.heap.size) q 0 []) :
    Bth (w2.alloc (.cells #[.slice none 0 0] 28)) w.heap.size (plusT (fun _ => False) w.heap.size w2.heap.size) (fun x => x = w2.heap.size) q w2.heap.size 0 [] := by
  have hs := hb.size
  refine ⟨h.below ((Below.refl _ _).alloc (Nat.le_refl _) _), ⟨⟨none, 0, rfl, heap_alloc_new w2 _, Nat.le_refl _, by omega, ElsQ.nil⟩, fun x hx => by subst hx; simp⟩, fun x hx he => ?_, fun x hx => ?_, fun x hx => by omega⟩
  · rcases hx with hx | hx
    · exact hx
    · omega
  · exact hx.elim (fun h => h.elim) (fun h => h.1)
/-- Behind some deeds, on one queue alone. -/
theorem Bth.lq {w0 w : World} {B : Nat} {P R : Nat → Prop} {q r k : Nat} {L : List Tm} (h : Bth w B P R q r k L) (hB : B = w0.heap.size) (hb : Below w0.heap.size w0 w) : LQ w0 w (fun _ => False) q k L :=
  ⟨P, h.p, fun x hx => ⟨hB ▸ h.lowP x hx, id⟩, hb, fun x hx => hx.elim⟩
theorem LQ.poke {w0 w : World} {N : Nat → Prop} {q k b : Nat} {L : List Tm} (h : LQ w0 w N q k L) (hb : N b) (hb0 : w0.heap.size ≤ b) (x y : Value) : LQ w0 ((w.setCell ⟨b, 0, none⟩ x).setCell ⟨b, 1, none⟩ y) N q k L := by
  obtain ⟨P, h1, h2, h3, h4⟩ := h
  have hg := gro_pair w b x y
  refine ⟨P, h1.grew hg (fun z hz hp => by subst hz; exact (h2 z hp).2 hb), h2, h3.trans (hg.below h3.size (fun z hz => by omega)), fun z hz => ?_⟩
  have := h4 z hz
  have := hg.size
  omega
theorem Bth.sorted {w : World} {B : Nat} {P R : Nat → Prop} {q r k : Nat} {L : List Tm} (h : Bth w B P R q r k L) : L.Pairwise ltT := by
  obtain ⟨_, _, _, _, _, _, tq, _⟩ := h.p
  exact tq.sort
theorem Bth.nodup {w : World} {B : Nat} {P R : Nat → Prop} {q r k : Nat} {L : List Tm} (h : Bth w B P R q r k L) : (L.map (·.2)).Nodup := by
  obtain ⟨_, _, _, _, _, _, tq, _⟩ := h.p
  exact tq.nodup
/-- The next one, and what is behind it. -/
theorem drop_at14 {L : List Tm} {j : Nat} (h : j < L.length) : L.drop j = ofT L j :: L.drop (j + 1) := by
  rw [List.drop_eq_getElem_cons h]
  congr 1
  exact (ofT_eq (List.getElem?_eq_getElem h)).symm
theorem sorted_at {L : List Tm} (h : L.Pairwise ltT) {j : Nat} (hj : j < L.length) (h0 : 0 < j) : ltT (ofT L (j - 1)) (ofT L j) := by
  have := List.pairwise_iff_getElem.1 h (j - 1) j (by omega) hj (by omega)
  rw [ofT_eq (List.getElem?_eq_getElem hj), ofT_eq (List.getElem?_eq_getElem (show j - 1 < L.length by omega))]
  exact this
end Go.Proofs.Ytphajbdkaikmpaa.Sh
