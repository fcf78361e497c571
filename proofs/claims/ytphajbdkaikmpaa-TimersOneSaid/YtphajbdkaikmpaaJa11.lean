/-
  The queue's Stop, Pop, Set, by contract.
-/
import Derived.Test.YtphajbdkaikmpaaJa10
set_option linter.unusedVariables false
set_option linter.unusedSimpArgs false
namespace Go.Proofs.Ytphajbdkaikmpaa.Sh
open Go Go.RowKit

set_option linter.unusedSimpArgs false
set_option linter.unusedVariables false
/-- What Stop finds: the place of a kind. -/
theorem TQ.at' {T L : List Tm} {f : Int → Option Int} (h : TQ T L f) (kd : Int) : (f kd = .none ∧ noT kd L = L) ∨ ∃ i, i < T.length ∧ f kd = some (i : Int) ∧ (ofT T i).2 = kd ∧ (noT kd L).length + 1 = L.length := by
  cases hf : f kd with
  | none => exact .inl ⟨rfl, noT_self ((h.none kd).1 hf)⟩
  | some p =>
    obtain ⟨i, hi, rfl, he⟩ := h.pos.2 kd p hf
    refine .inr ⟨i, hi, rfl, he, ?_⟩
    rcases noT_lt (k := kd) h.nodup with ⟨_, h1⟩ | ⟨h1, _⟩
    · exact absurd he (h1 _ (h.perm.mem_iff.1 (ofT_mem hi)))
    · exact h1
set_option maxHeartbeats 2000000 in
theorem stopQ_any {w : World} {P : Nat → Prop} {q k : Nat} {L : List Tm} (e : QueP w P q k L) {kd : Int} (hkd : In64 kd) (hk : k < 980000) :
    Calls Try.prog 16 #[.pointer (some ⟨q, 0, none⟩), .int .i64 kd] w fun er w' => er = .returned (.bool (decide ((noT kd L).length < L.length))) ∧ QueP w' P q (k + 500) (noT kd L) ∧ Grew w w' P := by
  obtain ⟨h, A, c, T, f, e1, e2, e3⟩ := e
  have c1 := e1.c1
  have hlk := e1.pl.look2 hkd
  rcases e2.at' kd with ⟨hf, hno⟩ | ⟨i, hi, hf, he, hlen⟩
  · rw [hf] at hlk
    have HE : Hid (QueP w P q (k + 500) (noT kd L) ∧ Grew w w P) := hid ⟨by rw [hno]; exact ⟨h, A, c, T, f, e1.mono (by omega), e2, e3⟩, Grew.refl _ _⟩
    have HB : Hid (decide ((noT kd L).length < L.length) = false) := hid (decide_eq_false (by rw [hno]; omega))
    clear e1 e2 e3 hf hno
    go_enter Try.func16, Try.ntmps16
    go_wp2_with fail
    go_ret
    exact ⟨by rw [HB.out]; rfl, HE.out⟩
  · rw [hf] at hlk
    obtain ⟨⟨d, u⟩, hx⟩ : ∃ x, ofT T i = x := ⟨_, rfl⟩
    have hu : u = kd := by rw [hx] at he; exact he
    subst hu
    have HR := hid (rmQ_any e1 e2 e3 hk hi hx)
    have HB : Hid (decide ((noT u L).length < L.length) = true) := hid (decide_eq_true (by omega))
    clear e1 e2 e3 hf hx he hi hlen
    go_enter Try.func16, Try.ntmps16
    go_wp2_with fail
    refine HR.out.mono ?_
    rintro er w2 ⟨rfl, q2, g2⟩
    have HE := hid (And.intro q2 g2)
    clear q2 g2
    go_wp2_with fail
    go_ret
    exact ⟨by rw [HB.out]; rfl, HE.out⟩
/-- What Pop answers and leaves. -/
def popT (now : Int) : List Tm → (Tm × Bool) × List Tm
  | [] => (((0, 0), false), [])
  | x :: t => if now < x.1 then (((0, 0), false), x :: t) else ((x, true), t)
set_option maxHeartbeats 2000000 in
theorem popQ_any {w : World} {P : Nat → Prop} {q k : Nat} {L : List Tm} (e : QueP w P q k L) (now : Int) (hk : k < 980000) :
    Calls Try.prog 12 #[.pointer (some ⟨q, 0, none⟩), .int .i64 now] w fun er w' => er = .returned (.tuple #[.agg #[.int .i64 (popT now L).1.1.1, .int .i64 (popT now L).1.1.2], .bool (popT now L).1.2]) ∧ QueP w' P q (k + 500) (popT now L).2 ∧ Grew w w' P := by
  obtain ⟨w1, hw1⟩ : ∃ x, x = w.alloc (.cells #[.int .i64 0, .int .i64 0] 37) := ⟨_, rfl⟩
  have hb1 : Below w.heap.size w w1 := by rw [hw1]; exact (Below.refl _ _).alloc (Nat.le_refl _) _
  have hr1 : w1.heap[w.heap.size]? = some (.cells #[.int .i64 0, .int .i64 0] 37 (0, 0)) := by rw [hw1]; exact heap_alloc_new w _
  have hs1 : w1.heap.size = w.heap.size + 1 := by rw [hw1]; simp
  have HF := hid (firstQ_any (e.below hb1))
  have HW1 := hid hw1
  have HB1 := hid hb1
  have HR1 := hid hr1
  have HS1 := hid hs1
  have HEE := hid e
  have HDOM := hid e.dom
  clear e hw1 hb1 hr1 hs1
  -- behind First: the same queue, and the result's cell
  have HKP : Hid (∀ w2, Below w1.heap.size w1 w2 → ∀ fd fu : Int, QueP (w2.alloc (.cells #[.int .i64 fd, .int .i64 fu] 37)) P q k L ∧ Below w.heap.size w (w2.alloc (.cells #[.int .i64 fd, .int .i64 fu] 37)) ∧
      (w2.alloc (.cells #[.int .i64 fd, .int .i64 fu] 37)).heap[w.heap.size]? = some (.cells #[.int .i64 0, .int .i64 0] 37 (0, 0)) ∧ w.heap.size < w2.heap.size ∧
      (w2.alloc (.cells #[.int .i64 fd, .int .i64 fu] 37)).heap[w2.heap.size]? = some (.cells #[.int .i64 fd, .int .i64 fu] 37 (0, 0))) := hid (fun w2 hb fd fu => by
    have h1 := HS1.out
    have h2 := hb.size
    have hba : Below w.heap.size w w2 := HB1.out.trans (hb.mono (by omega))
    have hbb : Below w.heap.size w (w2.alloc (.cells #[.int .i64 fd, .int .i64 fu] 37)) := hba.alloc hba.size _
    refine ⟨HEE.out.below hbb, hbb, ?_, by omega, heap_alloc_new w2 _⟩
    have hal : Below w2.heap.size w2 (w2.alloc (.cells #[.int .i64 fd, .int .i64 fu] 37)) := (Below.refl _ _).alloc (Nat.le_refl _) _
    exact (hal.block _ (by omega)).trans ((hb.block _ (by omega)).trans HR1.out))
  have HEND : Hid (∀ (w3 : World) (k' : Nat) (L' : List Tm), QueP w3 P q k' L' → Grew w w3 P → ∀ x y : Int, QueP ((w3.setCell ⟨w.heap.size, 0, none⟩ (.int .i64 x)).setCell ⟨w.heap.size, 1, none⟩ (.int .i64 y)) P q k' L' ∧ Grew w ((w3.setCell ⟨w.heap.size, 0, none⟩ (.int .i64 x)).setCell ⟨w.heap.size, 1, none⟩ (.int .i64 y)) P) := hid (fun w3 k' L' q3 g3 x y => by
    have hgp := gro_pair w3 w.heap.size (.int .i64 x) (.int .i64 y)
    exact ⟨q3.grew hgp (fun z hz hp => by have := HDOM.out z hp; omega), g3.over hgp (fun z hz => by omega)⟩)
  cases L with
  | nil =>
    have HPT : Hid (popT now [] = (((0, 0), false), [])) := hid rfl
    have HF : Hid (Calls Try.prog 13 #[.pointer (some ⟨q, 0, none⟩)] w1 fun er w' => er = .returned (.tuple #[.agg #[.int .i64 0, .int .i64 0], .bool false]) ∧ Below w1.heap.size w1 w') := hid HF.out
    go_enter Try.func12, Try.ntmps12
    go_upto_region 1 with fail
    rw [← HW1.out]
    go_wp2_with fail
    refine HF.out.mono ?_
    rintro er w2 ⟨rfl, b2⟩
    obtain ⟨q3, b3, z3, s3, r3⟩ := HKP.out w2 b2 0 0
    obtain ⟨w3, hw3⟩ : ∃ x, x = w2.alloc (.cells #[.int .i64 0, .int .i64 0] 37) := ⟨_, rfl⟩
    rw [← hw3] at q3 b3 z3 r3
    have HW3 := hid hw3
    have HZ3 := hid z3
    have k0 : w3.cell? ⟨w.heap.size, 0, none⟩ = some (.int .i64 0) := by rw [cell_of_row _ _ 0 _ _ (0, 0) z3]; rfl
    have k1 : w3.cell? ⟨w.heap.size, 1, none⟩ = some (.int .i64 0) := by rw [cell_of_row _ _ 1 _ _ (0, 0) z3]; rfl
    have g0 : w3.frozen? ⟨w.heap.size, 0, none⟩ = false := frozen_of_row w3 _ 0 _ _ z3
    have g1 : w3.frozen? ⟨w.heap.size, 1, none⟩ = false := frozen_of_row w3 _ 1 _ _ z3
    have r30 : w3.cell? ⟨w2.heap.size, 0, none⟩ = some (.int .i64 0) := by rw [cell_of_row _ _ 0 _ _ (0, 0) r3]; rfl
    have HEQ := hid (HEND.out w3 _ _ q3 (Grew.of_below b3) 0 0)
    clear b2 q3 b3 z3 r3 hw3 s3
    go_upto_region 2 with fail
    rw [← HW3.out]
    go_wp2_with fail
    exact bodyPost_ret (resCT (h := Try.results12) _ _ w.heap.size 0 [.int .i64 0, .int .i64 0] _ rfl (range_row (pairS HZ3.out)) Try.underlying37 rfl info_T) rfl ⟨by rw [HPT.out]; rfl, by rw [HPT.out]; exact HEQ.out.1.mono (by omega), HEQ.out.2⟩
  | cons x t =>
    obtain ⟨d, u⟩ := x
    have HF : Hid (Calls Try.prog 13 #[.pointer (some ⟨q, 0, none⟩)] w1 fun er w' => er = .returned (.tuple #[.agg #[.int .i64 d, .int .i64 u], .bool true]) ∧ Below w1.heap.size w1 w') := hid HF.out
    by_cases hd : now < d
    · have HPT : Hid (popT now ((d, u) :: t) = (((0, 0), false), (d, u) :: t)) := hid (if_pos hd)
      go_enter Try.func12, Try.ntmps12
      go_upto_region 1 with fail
      rw [← HW1.out]
      go_wp2_with fail
      refine HF.out.mono ?_
      rintro er w2 ⟨rfl, b2⟩
      obtain ⟨q3, b3, z3, s3, r3⟩ := HKP.out w2 b2 d u
      obtain ⟨w3, hw3⟩ : ∃ x, x = w2.alloc (.cells #[.int .i64 d, .int .i64 u] 37) := ⟨_, rfl⟩
      rw [← hw3] at q3 b3 z3 r3
      have HW3 := hid hw3
      have HZ3 := hid z3
      have k0 : w3.cell? ⟨w.heap.size, 0, none⟩ = some (.int .i64 0) := by rw [cell_of_row _ _ 0 _ _ (0, 0) z3]; rfl
      have k1 : w3.cell? ⟨w.heap.size, 1, none⟩ = some (.int .i64 0) := by rw [cell_of_row _ _ 1 _ _ (0, 0) z3]; rfl
      have g0 : w3.frozen? ⟨w.heap.size, 0, none⟩ = false := frozen_of_row w3 _ 0 _ _ z3
      have g1 : w3.frozen? ⟨w.heap.size, 1, none⟩ = false := frozen_of_row w3 _ 1 _ _ z3
      have r30 : w3.cell? ⟨w2.heap.size, 0, none⟩ = some (.int .i64 d) := by rw [cell_of_row _ _ 0 _ _ (0, 0) r3]; rfl
      have HEQ := hid (HEND.out w3 _ _ q3 (Grew.of_below b3) 0 0)
      clear b2 q3 b3 z3 r3 hw3 s3
      go_upto_region 2 with fail
      rw [← HW3.out]
      go_wp2_with fail
      exact bodyPost_ret (resCT (h := Try.results12) _ _ w.heap.size 0 [.int .i64 0, .int .i64 0] _ rfl (range_row (pairS HZ3.out)) Try.underlying37 rfl info_T) rfl ⟨by rw [HPT.out]; rfl, by rw [HPT.out]; exact HEQ.out.1.mono (by omega), HEQ.out.2⟩
    · have HPT : Hid (popT now ((d, u) :: t) = (((d, u), true), t)) := hid (if_neg hd)
      go_enter Try.func12, Try.ntmps12
      go_upto_region 1 with fail
      rw [← HW1.out]
      go_wp2_with fail
      refine HF.out.mono ?_
      rintro er w2 ⟨rfl, b2⟩
      obtain ⟨q3, b3, z3, s3, r3⟩ := HKP.out w2 b2 d u
      obtain ⟨w3, hw3⟩ : ∃ x, x = w2.alloc (.cells #[.int .i64 d, .int .i64 u] 37) := ⟨_, rfl⟩
      rw [← hw3] at q3 b3 z3 r3
      have HW3 := hid hw3
      have HZ3 := hid z3
      have r30 : w3.cell? ⟨w2.heap.size, 0, none⟩ = some (.int .i64 d) := by rw [cell_of_row _ _ 0 _ _ (0, 0) r3]; rfl
      have HR : Hid (Calls Try.prog 21 #[.pointer (some ⟨q, 0, none⟩), .int .i64 0] w3 fun er w' => er = .returned (.agg #[.int .i64 d, .int .i64 u]) ∧ QueP w' P q (k + 500) t ∧ Grew w3 w' P) := hid (by
        obtain ⟨h, A, c, T, f, e1, e2, e3⟩ := q3
        have hr := rmQ_any e1 e2 e3 hk (i := 0) (by rw [e2.len]; simp) e2.first
        have ht := e2.tail
        simp only at ht
        rw [ht] at hr
        exact hr)
      have HG3 := hid (Grew.of_below (X := P) b3)
      have HZL : Hid (w.heap.size < w3.heap.size) := hid (by rw [hw3]; simp; omega)
      clear b2 q3 b3 z3 r3 hw3 s3
      go_upto_region 2 with fail
      rw [← HW3.out]
      go_wp2_with fail
      refine HR.out.mono ?_
      rintro er w4 ⟨rfl, q4, g4⟩
      have z4 : w4.heap[w.heap.size]? = some (.cells #[.int .i64 0, .int .i64 0] 37 (0, 0)) := (g4.block _ HZL.out (fun hp => by have := HDOM.out _ hp; omega)).trans HZ3.out
      have HZ4 := hid z4
      have k0 : w4.cell? ⟨w.heap.size, 0, none⟩ = some (.int .i64 0) := by rw [cell_of_row _ _ 0 _ _ (0, 0) z4]; rfl
      have k1 : w4.cell? ⟨w.heap.size, 1, none⟩ = some (.int .i64 0) := by rw [cell_of_row _ _ 1 _ _ (0, 0) z4]; rfl
      have g0 : w4.frozen? ⟨w.heap.size, 0, none⟩ = false := frozen_of_row w4 _ 0 _ _ z4
      have g1 : w4.frozen? ⟨w.heap.size, 1, none⟩ = false := frozen_of_row w4 _ 1 _ _ z4
      have HEQ := hid (HEND.out w4 _ _ q4 (HG3.out.trans g4) d u)
      clear q4 g4 z4
      go_wp2_with fail
      exact bodyPost_ret (resCT (h := Try.results12) _ _ w.heap.size 0 [.int .i64 d, .int .i64 u] _ rfl (range_row (pairS HZ4.out)) Try.underlying37 rfl info_T) rfl ⟨by rw [HPT.out]; rfl, by rw [HPT.out]; exact HEQ.out.1, HEQ.out.2⟩
end Go.Proofs.Ytphajbdkaikmpaa.Sh
/-
  The queue's Set, by contract.
-/
namespace Go.Proofs.Ytphajbdkaikmpaa.Sh
open Go Go.RowKit

set_option linter.unusedSimpArgs false
set_option linter.unusedVariables false
/-- What Set answers and leaves. -/
def setT (kd due : Int) (L : List Tm) : Int × List Tm := if (noT kd L).length = L.length ∧ L.length = 64 then (12, L) else (0, insT (due, kd) (noT kd L))
theorem arr_same (cs : Array Value) (i : Nat) (v : Value) (h : cs[i]? = some v) : cs.setIfInBounds i v = cs := by
  apply Array.ext_getElem?
  intro j
  by_cases e : i = j
  · subst e
    have hl := (Array.getElem?_eq_some_iff.1 h).1
    rw [Array.getElem?_setIfInBounds_self_of_lt hl, h]
  · rw [Array.getElem?_setIfInBounds_ne e]
/-- The first cell of an element written over. -/
theorem RowE.put0 {w : World} {g : Nat} {tl : List Value} {T : List Tm} (r : RowE encT 37 w g tl T) {p : Nat} (hp : p < T.length) (d : Int) : RowE encT 37 (w.setCell ⟨g, p * 2, none⟩ (.int .i64 d)) g tl (T.set p (d, (ofT T p).2)) := by
  have h1 : RowE encT 37 ((w.setCell ⟨g, p * 2, none⟩ (.int .i64 d)).setCell ⟨g, p * 2 + 1, none⟩ (.int .i64 (ofT T p).2)) g tl (T.set p (d, (ofT T p).2)) := r.put hp (d, (ofT T p).2)
  have h2 := r.cell (i := 1) (ofT_get hp) (by decide) rfl
  unfold RowE at h1 r ⊢
  have h3 := heap_setCell_same w g (p * 2) _ _ (.int .i64 d) r
  have h4 := heap_setCell_same _ g (p * 2 + 1) _ _ (.int .i64 (ofT T p).2) h3
  rw [cell_of_row _ _ _ _ _ (0, 0) r] at h2
  rw [arr_same _ _ _ (by rw [Array.getElem?_setIfInBounds_ne (by omega)]; exact h2)] at h4
  rw [h3, ← h4, h1]
theorem PileE.putDue {w : World} {P : Nat → Prop} {q h k c g : Nat} {tl : List Value} {T : List Tm} {f : Int → Option Int} (e : PileE w P q h k (some ⟨g, 0, none⟩) c T f) (row : RowE encT 37 w g tl T) {p : Nat} (hp : p < T.length) (d : Int) : PileE (w.setCell ⟨g, p * 2, none⟩ (.int .i64 d)) P q h k (some ⟨g, 0, none⟩) c (T.set p (d, (ofT T p).2)) f :=
  e.putRow (gro_set1 w g _ _) (row.put0 hp d) row (by rw [List.length_set])
set_option maxHeartbeats 2000000 in
theorem setQ_any {w : World} {P : Nat → Prop} {q k : Nat} {L : List Tm} (e : QueP w P q k L) {kd : Int} (hkd : In64 kd) (due : Int) (hk : k < 980000) :
    Calls Try.prog 14 #[.pointer (some ⟨q, 0, none⟩), .int .i64 kd, .int .i64 due] w fun er w' => er = .returned (.int .i64 (setT kd due L).1) ∧ QueP w' (plusT P w.heap.size w'.heap.size) q (k + 500) (setT kd due L).2 ∧ Grew w w' P := by
  have HLQ := hid (lenQ_any e)
  have HEE := hid e
  obtain ⟨h, A, c, T, f, e1, e2, e3⟩ := e
  have c1 := e1.c1
  have hlk := e1.pl.look2 hkd
  rcases e2.at' kd with ⟨hf, hno⟩ | ⟨i, hi, hf, he, hlen⟩
  · rw [hf] at hlk
    by_cases hful : L.length = 64
    · have HST : Hid (setT kd due L = (12, L)) := hid (by unfold setT; rw [if_pos ⟨by rw [hno], hful⟩])
      have HE : Hid (QueP w (plusT P w.heap.size w.heap.size) q (k + 500) L ∧ Grew w w P) := hid ⟨HEE.out.plus.mono (by omega), Grew.refl _ _⟩
      have HLQ : Hid (Calls Try.prog 11 #[.pointer (some ⟨q, 0, none⟩)] w fun er w' => er = .returned (.int .i64 64) ∧ w = w') := hid (by have := HLQ.out; rw [hful] at this; exact this)
      clear e1 e2 e3 hf hno
      go_enter Try.func14, Try.ntmps14
      go_wp2_with fail
      refine HLQ.out.mono ?_
      rintro er w2 ⟨rfl, hw⟩
      have hw2 : w = w2 := hw
      subst hw2
      clear hw
      go_wp2_with fail
      go_ret
      exact ⟨by rw [HST.out]; rfl, by rw [HST.out]; exact HE.out.1, HE.out.2⟩
    · have HST : Hid (setT kd due L = (0, insT (due, kd) (noT kd L))) := hid (by unfold setT; rw [if_neg (by omega)])
      have hL64 : L.length < 64 := by have := e2.max; omega
      have hK : KOk T := fun x hx => e3 x (e2.perm.mem_iff.1 hx)
      have HP := hid (pushH_any e1 e2.pos e2.heap hK (d := due) hkd hf (by rw [e2.len]; exact hL64) hk)
      have HFIN : Hid (∀ w', pushP w P q h (k + 400) T (due, kd) w' → QueP w' (plusT P w.heap.size w'.heap.size) q (k + 500) (insT (due, kd) (noT kd L)) ∧ Grew w w' P) := hid (fun w' ⟨A', c', T', f', e', hp, hh, hpos, hg⟩ =>
        ⟨⟨h, A', c', T', f', e'.mono (by omega), e2.add hf hL64 hh hpos hp, fun x hx => by
          rcases List.mem_cons.1 ((insT_perm _ _).mem_iff.1 hx) with rfl | hx
          · exact hkd
          · exact e3 x (mem_noT.1 hx).1⟩, hg⟩)
      obtain ⟨n, hn⟩ : ∃ n, L.length = n := ⟨_, rfl⟩
      rw [hn] at HLQ hful
      have hz : ((n : Int) == 64) = false := beq_eq_false_iff_ne.2 (by omega)
      clear e1 e2 e3 hf hno hK hn hL64
      go_enter Try.func14, Try.ntmps14
      go_wp2_with fail
      refine HLQ.out.mono ?_
      rintro er w2 ⟨rfl, hw⟩
      have hw2 : w = w2 := hw
      subst hw2
      clear hw
      go_wp2_with fail
      refine HP.out.mono ?_
      rintro er w2 ⟨rfl, h2⟩
      have HE := hid (HFIN.out w2 h2)
      clear h2
      go_wp2_with fail
      go_ret
      exact ⟨by rw [HST.out]; rfl, by rw [HST.out]; exact HE.out.1, HE.out.2⟩
  · rw [hf] at hlk
    have HST : Hid (setT kd due L = (0, insT (due, kd) (noT kd L))) := hid (by unfold setT; rw [if_neg (by omega)])
    have hK : KOk T := fun x hx => e3 x (e2.perm.mem_iff.1 hx)
    obtain ⟨g, tl, rfl, pg, g1, g2, row, a0, a1⟩ := e1.at' hi
    have c0 := e1.c0
    have hm := e1.els.2
    have fi := row.f (i * 2)
    have ai := addr_rowT g (i * 2)
    have eB := e1.putDue row hi due
    rw [he] at eB
    have hKB : KOk (T.set i (due, kd)) := fun x hx => by
      rcases List.mem_or_eq_of_mem_set hx with h1 | h1
      · exact hK x h1
      · rw [h1]; exact hkd
    have hpB : Pos f (T.set i (due, kd)) := by have := e2.pos.set (d := due) hi; rw [he] at this; exact this
    have hlB : (T.set i (due, kd)).length = T.length := List.length_set
    have hgB := gro_set1 w g (i * 2) (.int .i64 due)
    obtain ⟨wB, hwB⟩ : ∃ x, x = w.setCell ⟨g, i * 2, none⟩ (.int .i64 due) := ⟨_, rfl⟩
    rw [← hwB] at eB hgB
    have hF := fixT_any (w0 := wB) (w := wB) (P := P) (q := q) (h := h) (k := k) (A := some ⟨g, 0, none⟩) (c := c) (n := T.length) (i := i) (T0 := T.set i (due, kd)) (T := T.set i (due, kd)) (f := f) ⟨eB, .refl _, fun _ _ => rfl, hpB, Grew.refl _ _⟩ hKB (by rw [hlB, e2.len]; have := e2.max; omega) hk hlB hi (e2.heap.dn (Nat.le_refl _) (fun x x1 x2 => ofT_congr (List.getElem?_set_ne (fun e => x1 e.symm))))
    have HF := hid hF
    have HFIN : Hid (∀ w', upP wB P q h (k + 400) (some ⟨g, 0, none⟩) c T.length (T.set i (due, kd)) w' → QueP w' (plusT P w.heap.size w'.heap.size) q (k + 500) (insT (due, kd) (noT kd L)) ∧ Grew w w' P) := hid (fun w' ⟨T', f', m', hh⟩ => by
      have hl' : T'.length = T.length := m'.len.trans hlB
      have hq : QueP w' P q (k + 500) (insT (due, kd) (noT kd L)) := ⟨h, _, c, T', f', m'.e.mono (by omega), (e2.set hf (by rw [hl']; exact hh) m'.pos m'.perm).1, fun x hx => by
          rcases List.mem_cons.1 ((insT_perm _ _).mem_iff.1 hx) with rfl | hx
          · exact hkd
          · exact e3 x (mem_noT.1 hx).1⟩
      exact ⟨hq.plus, (Grew.of_gro hgB pg).trans m'.grew⟩)
    have HWB := hid hwB
    obtain ⟨n, hn⟩ : ∃ n, T.length = n := ⟨_, rfl⟩
    rw [hn] at c0 hm hi
    have hi0 : (0 : Int) ≤ (i : Int) := Int.natCast_nonneg _
    have hi1 : (i : Int) < (n : Int) := by omega
    clear e1 e2 e3 hf hK row pg g1 g2 eB hKB hpB hlB hgB hwB hF hn he hlen hi
    go_enter Try.func14, Try.ntmps14
    go_upto_region 5 with fail
    rw [← HWB.out]
    go_wp2_with fail
    refine HF.out.mono ?_
    rintro er w2 ⟨rfl, h2⟩
    have HE := hid (HFIN.out w2 h2)
    clear h2
    go_wp2_with fail
    go_ret
    exact ⟨by rw [HST.out]; rfl, by rw [HST.out]; exact HE.out.1, HE.out.2⟩
end Go.Proofs.Ytphajbdkaikmpaa.Sh
