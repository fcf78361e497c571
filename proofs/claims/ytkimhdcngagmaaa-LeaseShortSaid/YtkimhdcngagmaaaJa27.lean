/-
  A deed done to both books: does, by contract.
-/
import Derived.Test.YtkimhdcngagmaaaJa12
import Derived.Test.YtkimhdcngagmaaaJa13
import Derived.Test.YtkimhdcngagmaaaJa26
import Derived.Deep.CutRange
set_option linter.unusedVariables false
set_option linter.unusedSimpArgs false
namespace Go.Proofs.Ytkimhdcngagmaaa.Sh
open Go Go.RowKit

set_option linter.unusedSimpArgs false
set_option linter.unusedVariables false
def encCr : Enc Crd := ⟨9, Crd.cells, by omega, fun _ => rfl, fun x u hu => by
  unfold Crd.cells at hu
  simp only [List.mem_cons, List.not_mem_nil, or_false] at hu
  rcases hu with rfl | rfl | rfl | rfl | rfl | rfl | rfl | rfl | rfl <;> rfl⟩
theorem ev_cv (l : List Crd) : ev encCr l = cv l := by
  induction l with
  | nil => rfl
  | cons c t ih => rw [ev, cv, ih]; rfl
theorem Els.crs {w : World} {B : Nat} {A : Option Addr} {l : List Crd} (h : Els encCr w B A l) : Crs w B A l := fun hn => by
  obtain ⟨ad, e, hb, hc⟩ := h hn
  exact ⟨ad, e, hb, fun i u hu => hc i u (by rw [ev_cv]; exact hu)⟩
/-- A deed. -/
structure Dd where
  kind : Int
  d : Int
  a : Int
  l : List Crd
noncomputable def LB.does (b : LB) (x : Dd) : LB := if x.kind = 1 then (b.hear x.d x.a).2 else (b.learn x.d (countsC (x.l.take 40)) x.a).2
noncomputable def RB.does (r : RB) (x : Dd) : RB := if x.kind = 1 then (r.hear x.d x.a).2 else (r.learn x.d (countsC (x.l.take 40)) x.a).2
theorem allD_len {f : Int → List Hl} (h : ∀ d, (f d).length ≤ 24) (n : Nat) : (allD f n).length ≤ 24 * n := by
  induction n with
  | zero => simp [allD]
  | succ n ih =>
    unfold allD
    rw [List.length_append]
    have := h ((n : Int) + 1)
    omega
theorem Lk.len {b : LB} {r : RB} (k : Lk b r) (i : Inv b) : r.L.length ≤ 384 := by rw [k.L]; exact allD_len i.le 16
/-- Whatever counts. -/
theorem Lk.learnC {b : LB} {r : RB} (k : Lk b r) (i : Inv b) (d a : Int) {l : List Crd} {out : List Crd} (h : CountsOf out l) : (b.learn d (countsC l) a).1 = (r.learn d (countsC l) a).1 ∧ Lk (b.learn d (countsC l) a).2 (r.learn d (countsC l) a).2 ∧ Inv (b.learn d (countsC l) a).2 := by
  rw [countsC_eq h]
  exact k.learn i d a h
/-- Both books, each in blocks of its own, from B on. -/
structure Bth (w : World) (B : Nat) (P R : Nat → Prop) (gs gr k : Nat) (b : LB) (r : RB) : Prop where
  s : BookP w P gs k b
  t : BookR w R gr r
  lk : Lk b r
  inv : Inv b
  dis : ∀ x, P x → ¬ R x
  low : ∀ x, P x ∨ R x → B ≤ x
  sl : r.S.length ≤ k
theorem Bth.below {w w' : World} {B : Nat} {P R : Nat → Prop} {gs gr k : Nat} {b : LB} {r : RB} (h : Bth w B P R gs gr k b r) (hb : Below w.heap.size w w') : Bth w' B P R gs gr k b r := ⟨h.s.below hb, h.t.below hb, h.lk, h.inv, h.dis, h.low, h.sl⟩
theorem Bth.grew {w w' : World} {X : Nat → Prop} {B : Nat} {P R : Nat → Prop} {gs gr k : Nat} {b : LB} {r : RB} (h : Bth w B P R gs gr k b r) (hg : Grew w w' X) (hx : ∀ x, X x → ¬ P x ∧ ¬ R x) : Bth w' B P R gs gr k b r := ⟨h.s.grew hg (fun x hX => (hx x hX).1), h.t.grew hg (fun x hX => (hx x hX).2), h.lk, h.inv, h.dis, h.low, h.sl⟩
theorem Bth.dom {w : World} {B : Nat} {P R : Nat → Prop} {gs gr k : Nat} {b : LB} {r : RB} (h : Bth w B P R gs gr k b r) : ∀ x, P x ∨ R x → x < w.heap.size := fun x hx => hx.elim (h.s.dom x) (h.t.dom x)
/-- Behind a step of either. -/
theorem Bth.next {w w8 w11 : World} {B : Nat} {P P' R : Nat → Prop} {gs gr k : Nat} {b b' : LB} {r r' : RB} (h : Bth w B P R gs gr k b r) (hB : B ≤ w.heap.size) (h8 : BookP w8 P' gs (k + 2) b') (hP : ∀ x, P' x → P x ∨ (w.heap.size ≤ x ∧ x < w8.heap.size)) (g8 : Grew w w8 P) (h11 : BookR w11 (plusP R w8.heap.size w11.heap.size) gr r') (g11 : Grew w8 w11 (fun x => x = gr)) (lk : Lk b' r') (inv : Inv b') (sl : r'.S.length ≤ k + 1) :
    ∃ P2 R2 : Nat → Prop, Bth w11 B P2 R2 gs gr (k + 2) b' r' ∧ (∀ x, P2 x ∨ R2 x → (P x ∨ R x) ∨ w.heap.size ≤ x) ∧ Grew w w11 (fun x => P x ∨ R x) := by
  have hgr : R gr := by obtain ⟨⟨_, _, _, _, p, _⟩, _⟩ := h.t; exact p
  have s8 := g8.size
  refine ⟨P', plusP R w8.heap.size w11.heap.size, ⟨h8.grew g11 (fun x hx hp => ?_), h11, lk, inv, fun x hp hr => ?_, fun x hx => ?_, by omega⟩, fun x hx => ?_, (g8.mono fun x _ hx => .inl hx).trans (g11.mono fun x _ hx => .inr (by rw [hx]; exact hgr))⟩
  · subst hx
    rcases hP _ hp with h1 | h1
    · exact h.dis _ h1 hgr
    · have := h.dom _ (.inr hgr); omega
  · rcases hP x hp with h1 | h1
    · rcases hr with h2 | h2
      · exact h.dis x h1 h2
      · have := h.dom x (.inl h1); omega
    · rcases hr with h2 | h2
      · have := h.dom x (.inr h2); omega
      · omega
  · rcases hx with hx | hx
    · rcases hP x hx with h1 | h1
      · exact h.low x (.inl h1)
      · omega
    · rcases hx with hx | hx
      · exact h.low x (.inr hx)
      · omega
  · rcases hx with hx | hx
    · rcases hP x hx with h1 | h1
      · exact .inl (.inl h1)
      · exact .inr h1.1
    · rcases hx with hx | hx
      · exact .inl (.inr hx)
      · exact .inr (by omega)
theorem putS_len (S : List (Int × Int)) (d a : Int) : (putS S d a).length ≤ S.length + 1 := by
  unfold putS
  rw [List.length_append]
  have := List.length_filter_le (fun x : Int × Int => !decide (x.1 = d)) S
  simp
  omega
theorem RB.hear_len (r : RB) (d a : Int) : (r.hear d a).2.S.length ≤ r.S.length + 1 := by
  unfold RB.hear
  split
  · split
    · simp
    · exact putS_len _ _ _
  · simp
theorem RB.learn_len (r : RB) (d : Int) (out : List Crd) (a : Int) : (r.learn d out a).2.S.length ≤ r.S.length + 1 := by
  unfold RB.learn
  split
  · split
    · exact RB.hear_len _ _ _
    · simp
  · simp
/-- There is what counts. -/
def HasCounts (l : List Crd) : Prop := ∃ out, CountsOf out l
set_option maxHeartbeats 16000000 in
theorem does_any {w : World} {B : Nat} {P R Q : Nat → Prop} {gs gr k : Nat} {b : LB} {r : RB} (hb : Bth w B P R gs gr k b r) (hB : B ≤ w.heap.size) (hk : k ≤ 1000) (kd d a : Int) (A : Option Addr) (l : List Crd) (n c : Nat) (hn : l.length = n) (hnc : n ≤ c) (hcc : c ≤ 9223372036854775807) (hc : HasCounts (l.take 40)) (hA : ElsQ encCr w Q A l) (hq : ∀ x, Q x → ¬ (P x ∨ R x)) :
    Calls Try.prog 10 #[.pointer (some ⟨gs, 0, none⟩), .pointer (some ⟨gr, 0, none⟩), .agg #[.int .i64 kd, .int .i64 d, .int .i64 a, .slice A n c]] w fun e w' => e = .returned (.bool true) ∧
      ∃ P2 R2 : Nat → Prop, Bth w' B P2 R2 gs gr (k + 2) (b.does ⟨kd, d, a, l⟩) (r.does ⟨kd, d, a, l⟩) ∧ (∀ x, P2 x ∨ R2 x → (P x ∨ R x) ∨ w.heap.size ≤ x) ∧ Grew w w' (fun x => P x ∨ R x) := by
  have HHC := hid hc
  have HGR : Hid (R gr) := hid (by obtain ⟨⟨_, _, _, _, p, _⟩, _⟩ := hb.t; exact p)
  obtain ⟨w1, hw1⟩ : ∃ y, y = w.alloc (.cells #[.int .i64 kd, .int .i64 d, .int .i64 a, .slice A n c] 36) := ⟨_, rfl⟩
  have hc1 : w1.heap[w.heap.size]? = some (.cells #[.int .i64 kd, .int .i64 d, .int .i64 a, .slice A n c] 36 (0, 0)) := by rw [hw1]; exact heap_alloc_new w _
  have HB1 : Hid (Below w.heap.size w w1) := hid (by rw [hw1]; exact (Below.refl _ _).alloc (Nat.le_refl _) _)
  have j3 : w1.cell? ⟨w.heap.size, 3, none⟩ = some (.slice A n c) := by rw [cell_of_row _ _ 3 _ _ (0, 0) hc1]; rfl
  have jf : w1.frozen? ⟨w.heap.size, 3, none⟩ = false := frozen_of_row _ _ 3 _ _ hc1
  clear hc
  by_cases hlt : 40 < n
  · -- cut
    have hlt2 : (40 : Int) < (n : Int) := by omega
    have h40 : (40 : Nat) ≤ n := by omega
    have h40c : (40 : Int) ≤ (c : Int) := by omega
    have h40d : (40 : Nat) ≤ c := by omega
    obtain ⟨w3, hw3⟩ : ∃ y, y = w1.setCell ⟨w.heap.size, 3, none⟩ (.slice A 40 c) := ⟨_, rfl⟩
    have hc3 : w3.heap[w.heap.size]? = some (.cells #[.int .i64 kd, .int .i64 d, .int .i64 a, .slice A 40 c] 36 (0, 0)) := by rw [hw3, heap_setCell_same w1 w.heap.size 3 _ _ _ hc1]; rfl
    have HB3 : Hid (Below w.heap.size w w3) := hid (by rw [hw3]; exact HB1.out.setCell (Nat.le_refl _) _)
    have HL : Hid ((l.take 40).length = 40) := hid (by rw [List.length_take, hn]; omega)
    have HGX : Hid (w.heap.size < w3.heap.size) := hid (Array.getElem?_eq_some_iff.1 hc3).1
    have HW3 := hid hw3
    have HW1 := hid hw1
    have HC3 := hid hc3
    have HBT := hid (hb.below HB3.out)
    have HLW := hid hb.dom
    have HKS : Hid (∀ W, Grew w3 W (fun x => P x ∨ R x) → W.cell? ⟨w.heap.size, 0, none⟩ = some (.int .i64 kd) ∧ W.cell? ⟨w.heap.size, 1, none⟩ = some (.int .i64 d) ∧ W.cell? ⟨w.heap.size, 2, none⟩ = some (.int .i64 a) ∧ W.cell? ⟨w.heap.size, 3, none⟩ = some (.slice A 40 c)) := hid (fun W hW => by
      have q := (hW.block w.heap.size HGX.out (fun hx => by have := HLW.out _ hx; omega)).trans HC3.out
      refine ⟨?_, ?_, ?_, ?_⟩
      · rw [cell_of_row _ _ 0 _ _ (0, 0) q]; rfl
      · rw [cell_of_row _ _ 1 _ _ (0, 0) q]; rfl
      · rw [cell_of_row _ _ 2 _ _ (0, 0) q]; rfl
      · rw [cell_of_row _ _ 3 _ _ (0, 0) q]; rfl)
    have HEQ := hid (fun W (hW : Grew w3 W (fun x => P x ∨ R x)) => (((hA.head 40).grew ((Grew.of_below (X := fun _ => False) HB3.out)) (fun _ _ h => h)).grew hW (fun x hx hX => hq x hx hX)).els.crs)
    have HD0 : Hid (Grew w3 w3.drew (fun x => P x ∨ R x)) := hid (Grew.of_below (below_drew w3))
    have HBD := hid (HBT.out.below (below_drew w3))
    have HGW : Hid (∀ W, Grew w3 W (fun x => P x ∨ R x) → Grew w W (fun x => P x ∨ R x)) := hid (fun W hW => (Grew.of_below HB3.out).trans hW)
    have HSB := hid HB3.out.size
    have HBB : Hid (B ≤ w.heap.size) := hid hB
    obtain ⟨i0, i1, i2, i3⟩ := HKS.out w3 (Grew.refl _ _)
    clear hb hA hq hw1 hw3 hc1 hc3 hn hB
    by_cases hk1 : kd = 1
    · subst hk1
      have HDB : Hid (LB.does b ⟨1, d, a, l⟩ = (b.hear d a).2) := hid rfl
      have HDR : Hid (RB.does r ⟨1, d, a, l⟩ = (r.hear d a).2) := hid rfl
      have HP := hid (hear_any HBD.out.s (by omega) d a)
      have HR : Hid (∀ w8, Grew w3.drew w8 P → Calls Try.prog 23 #[.pointer (some ⟨gr, 0, none⟩), .int .i64 d, .int .i64 a] w8 fun e w' => e = .returned (.int .i64 (r.hear d a).1) ∧ BookR w' (plusP R w8.heap.size w'.heap.size) gr (r.hear d a).2 ∧ Grew w8 w' (fun x => x = gr)) := hid (fun w8 h8 => refHear_any (HBD.out.t.grew h8 (fun x hx => HBD.out.dis x hx)) (by have := HBD.out.sl; omega) d a)
      have HEE := hid (HBD.out.lk.hear HBD.out.inv d a)
      have HLN := hid (r.hear_len d a)
      obtain ⟨E, hE⟩ : ∃ E, (b.hear d a).1 = E := ⟨_, rfl⟩
      have hE2 : (r.hear d a).1 = E := by rw [← HEE.out.1]; exact hE
      rw [hE] at HP
      rw [hE2] at HR
      clear hE hE2
      have hee : (E == E) = true := by simp
      go_enter Try.func10, Try.ntmps10
      go_upto_region 1 with fail
      rw [← HW1.out]
      go_upto_region 3 with fail
      rw [← HW3.out]
      go_upto_region 4 with fail
      go_region_held3 (fun W => W.cell? ⟨w.heap.size, 0, none⟩ = some (.int .i64 1) ∧ W.cell? ⟨w.heap.size, 1, none⟩ = some (.int .i64 d) ∧ W.cell? ⟨w.heap.size, 2, none⟩ = some (.int .i64 a) ∧ W.cell? ⟨w.heap.size, 3, none⟩ = some (.slice A 40 c))
        (first | exact HKS.out _ HD0.out | exact HKS.out _ HG8.out | exact HKS.out _ HG11.out)
        ((first
          | (go_at_call 20; ((refine HP.out.mono ?_); rintro er w8 ⟨rfl, h8, k8⟩; have HP8 := hid h8; have HE8 := hid k8; have HG8 : Hid (Grew w3 w8 (fun x => P x ∨ R x)) := hid (HD0.out.trans (k8.mono (fun x _ h => .inl h))); clear h8 k8))
          | (go_at_call 23; ((refine (HR.out _ HE8.out).mono ?_); rintro er w11 ⟨rfl, h8, k8⟩; have HR11 := hid h8; have HE11 := hid k8; have HG11 : Hid (Grew w3 w11 (fun x => P x ∨ R x)) := hid (HG8.out.trans (k8.mono (fun x _ h => .inr (by subst h; exact HGR.out)))); clear h8 k8))))
      all_goals
        go_wp2_with fail
        go_ret
        obtain ⟨P2, R2, q1, q2, q3⟩ := HBD.out.next (Nat.le_trans HBB.out HSB.out) (HP8.out.mono (by omega)) (fun x hx => .inl hx) HE8.out HR11.out HE11.out HEE.out.2.1 HEE.out.2.2 (by have := HBD.out.sl; have := HLN.out; omega)
        exact ⟨rfl, P2, R2, by rw [HDB.out, HDR.out]; exact q1, fun x hx => (q2 x hx).imp id (fun h => Nat.le_trans HSB.out h), HGW.out _ (HD0.out.trans q3)⟩
    · have hk2 : (kd == 1) = false := beq_eq_false_iff_ne.2 hk1
      have HDB : Hid (LB.does b ⟨kd, d, a, l⟩ = (b.learn d (countsC (l.take 40)) a).2) := hid (if_neg hk1)
      have HDR : Hid (RB.does r ⟨kd, d, a, l⟩ = (r.learn d (countsC (l.take 40)) a).2) := hid (if_neg hk1)
      have HP := hid (learn_any HBD.out.s (by omega) A (l.take 40) 40 c HL.out (by omega) (by omega) hcc (HEQ.out _ HD0.out) d a)
      have HR : Hid (∀ w8, Grew w3.drew w8 P → Calls Try.prog 24 #[.pointer (some ⟨gr, 0, none⟩), .int .i64 d, .slice A 40 c, .int .i64 a] w8 fun e w' => e = .returned (.int .i64 (r.learn d (countsC (l.take 40)) a).1) ∧ BookR w' (plusP R w8.heap.size w'.heap.size) gr (r.learn d (countsC (l.take 40)) a).2 ∧ Grew w8 w' (fun x => x = gr)) := hid (fun w8 h8 => refLearn_any (HBD.out.t.grew h8 (fun x hx => HBD.out.dis x hx)) (by have := HBD.out.sl; omega) (by have := HBD.out.lk.len HBD.out.inv; omega) A (l.take 40) 40 c HL.out (by omega) (HEQ.out _ (HD0.out.trans (h8.mono fun x _ h => .inl h))) d a)
      obtain ⟨out, hco⟩ := HHC.out
      have HEE := hid (HBD.out.lk.learnC HBD.out.inv d a hco)
      have HLN := hid (r.learn_len d (countsC (l.take 40)) a)
      obtain ⟨E, hE⟩ : ∃ E, (b.learn d (countsC (l.take 40)) a).1 = E := ⟨_, rfl⟩
      have hE2 : (r.learn d (countsC (l.take 40)) a).1 = E := by rw [← HEE.out.1]; exact hE
      rw [hE] at HP
      rw [hE2] at HR
      clear hE hE2 hco
      have hee : (E == E) = true := by simp
      go_enter Try.func10, Try.ntmps10
      go_upto_region 1 with fail
      rw [← HW1.out]
      go_upto_region 3 with fail
      rw [← HW3.out]
      go_upto_region 5 with fail
      go_region_held3 (fun W => W.cell? ⟨w.heap.size, 0, none⟩ = some (.int .i64 kd) ∧ W.cell? ⟨w.heap.size, 1, none⟩ = some (.int .i64 d) ∧ W.cell? ⟨w.heap.size, 2, none⟩ = some (.int .i64 a) ∧ W.cell? ⟨w.heap.size, 3, none⟩ = some (.slice A 40 c))
        (first | exact HKS.out _ HD0.out | exact HKS.out _ HG8.out | exact HKS.out _ HG11.out)
        ((first
          | (go_at_call 21; ((refine HP.out.mono ?_); rintro er w8 ⟨rfl, h8, k8⟩; have HP8 := hid h8; have HE8 := hid k8; have HG8 : Hid (Grew w3 w8 (fun x => P x ∨ R x)) := hid (HD0.out.trans (k8.mono (fun x _ h => .inl h))); clear h8 k8))
          | (go_at_call 24; ((refine (HR.out _ HE8.out).mono ?_); rintro er w11 ⟨rfl, h8, k8⟩; have HR11 := hid h8; have HE11 := hid k8; have HG11 : Hid (Grew w3 w11 (fun x => P x ∨ R x)) := hid (HG8.out.trans (k8.mono (fun x _ h => .inr (by subst h; exact HGR.out)))); clear h8 k8))))
      all_goals
        go_wp2_with fail
        go_ret
        obtain ⟨P2, R2, q1, q2, q3⟩ := HBD.out.next (Nat.le_trans HBB.out HSB.out) HP8.out (fun x hx => hx) HE8.out HR11.out HE11.out HEE.out.2.1 HEE.out.2.2 (by have := HBD.out.sl; have := HLN.out; omega)
        exact ⟨rfl, P2, R2, by rw [HDB.out, HDR.out]; exact q1, fun x hx => (q2 x hx).imp id (fun h => Nat.le_trans HSB.out h), HGW.out _ (HD0.out.trans q3)⟩
  · -- whole
    have hlt2 : ¬ (40 : Int) < (n : Int) := by omega
    obtain ⟨w3, hw3⟩ : ∃ y, y = w1 := ⟨_, rfl⟩
    have hc3 : w3.heap[w.heap.size]? = some (.cells #[.int .i64 kd, .int .i64 d, .int .i64 a, .slice A n c] 36 (0, 0)) := by rw [hw3]; exact hc1
    have HB3 : Hid (Below w.heap.size w w3) := hid (by rw [hw3]; exact HB1.out)
    have HL : Hid ((l.take 40).length = n) := hid (by rw [List.length_take, hn]; omega)
    have HGX : Hid (w.heap.size < w3.heap.size) := hid (Array.getElem?_eq_some_iff.1 hc3).1
    have HW3 := hid hw3
    have HW1 := hid hw1
    have HC3 := hid hc3
    have HBT := hid (hb.below HB3.out)
    have HLW := hid hb.dom
    have HKS : Hid (∀ W, Grew w3 W (fun x => P x ∨ R x) → W.cell? ⟨w.heap.size, 0, none⟩ = some (.int .i64 kd) ∧ W.cell? ⟨w.heap.size, 1, none⟩ = some (.int .i64 d) ∧ W.cell? ⟨w.heap.size, 2, none⟩ = some (.int .i64 a) ∧ W.cell? ⟨w.heap.size, 3, none⟩ = some (.slice A n c)) := hid (fun W hW => by
      have q := (hW.block w.heap.size HGX.out (fun hx => by have := HLW.out _ hx; omega)).trans HC3.out
      refine ⟨?_, ?_, ?_, ?_⟩
      · rw [cell_of_row _ _ 0 _ _ (0, 0) q]; rfl
      · rw [cell_of_row _ _ 1 _ _ (0, 0) q]; rfl
      · rw [cell_of_row _ _ 2 _ _ (0, 0) q]; rfl
      · rw [cell_of_row _ _ 3 _ _ (0, 0) q]; rfl)
    have HEQ := hid (fun W (hW : Grew w3 W (fun x => P x ∨ R x)) => (((hA.head 40).grew ((Grew.of_below (X := fun _ => False) HB3.out)) (fun _ _ h => h)).grew hW (fun x hx hX => hq x hx hX)).els.crs)
    have HD0 : Hid (Grew w3 w3.drew (fun x => P x ∨ R x)) := hid (Grew.of_below (below_drew w3))
    have HBD := hid (HBT.out.below (below_drew w3))
    have HGW : Hid (∀ W, Grew w3 W (fun x => P x ∨ R x) → Grew w W (fun x => P x ∨ R x)) := hid (fun W hW => (Grew.of_below HB3.out).trans hW)
    have HSB := hid HB3.out.size
    have HBB : Hid (B ≤ w.heap.size) := hid hB
    obtain ⟨i0, i1, i2, i3⟩ := HKS.out w3 (Grew.refl _ _)
    clear hb hA hq hw1 hw3 hc1 hc3 hn hB
    by_cases hk1 : kd = 1
    · subst hk1
      have HDB : Hid (LB.does b ⟨1, d, a, l⟩ = (b.hear d a).2) := hid rfl
      have HDR : Hid (RB.does r ⟨1, d, a, l⟩ = (r.hear d a).2) := hid rfl
      have HP := hid (hear_any HBD.out.s (by omega) d a)
      have HR : Hid (∀ w8, Grew w3.drew w8 P → Calls Try.prog 23 #[.pointer (some ⟨gr, 0, none⟩), .int .i64 d, .int .i64 a] w8 fun e w' => e = .returned (.int .i64 (r.hear d a).1) ∧ BookR w' (plusP R w8.heap.size w'.heap.size) gr (r.hear d a).2 ∧ Grew w8 w' (fun x => x = gr)) := hid (fun w8 h8 => refHear_any (HBD.out.t.grew h8 (fun x hx => HBD.out.dis x hx)) (by have := HBD.out.sl; omega) d a)
      have HEE := hid (HBD.out.lk.hear HBD.out.inv d a)
      have HLN := hid (r.hear_len d a)
      obtain ⟨E, hE⟩ : ∃ E, (b.hear d a).1 = E := ⟨_, rfl⟩
      have hE2 : (r.hear d a).1 = E := by rw [← HEE.out.1]; exact hE
      rw [hE] at HP
      rw [hE2] at HR
      clear hE hE2
      have hee : (E == E) = true := by simp
      go_enter Try.func10, Try.ntmps10
      go_upto_region 1 with fail
      rw [← HW1.out]

      rw [← HW3.out]
      go_upto_region 4 with fail
      go_region_held3 (fun W => W.cell? ⟨w.heap.size, 0, none⟩ = some (.int .i64 1) ∧ W.cell? ⟨w.heap.size, 1, none⟩ = some (.int .i64 d) ∧ W.cell? ⟨w.heap.size, 2, none⟩ = some (.int .i64 a) ∧ W.cell? ⟨w.heap.size, 3, none⟩ = some (.slice A n c))
        (first | exact HKS.out _ HD0.out | exact HKS.out _ HG8.out | exact HKS.out _ HG11.out)
        ((first
          | (go_at_call 20; ((refine HP.out.mono ?_); rintro er w8 ⟨rfl, h8, k8⟩; have HP8 := hid h8; have HE8 := hid k8; have HG8 : Hid (Grew w3 w8 (fun x => P x ∨ R x)) := hid (HD0.out.trans (k8.mono (fun x _ h => .inl h))); clear h8 k8))
          | (go_at_call 23; ((refine (HR.out _ HE8.out).mono ?_); rintro er w11 ⟨rfl, h8, k8⟩; have HR11 := hid h8; have HE11 := hid k8; have HG11 : Hid (Grew w3 w11 (fun x => P x ∨ R x)) := hid (HG8.out.trans (k8.mono (fun x _ h => .inr (by subst h; exact HGR.out)))); clear h8 k8))))
      all_goals
        go_wp2_with fail
        go_ret
        obtain ⟨P2, R2, q1, q2, q3⟩ := HBD.out.next (Nat.le_trans HBB.out HSB.out) (HP8.out.mono (by omega)) (fun x hx => .inl hx) HE8.out HR11.out HE11.out HEE.out.2.1 HEE.out.2.2 (by have := HBD.out.sl; have := HLN.out; omega)
        exact ⟨rfl, P2, R2, by rw [HDB.out, HDR.out]; exact q1, fun x hx => (q2 x hx).imp id (fun h => Nat.le_trans HSB.out h), HGW.out _ (HD0.out.trans q3)⟩
    · have hk2 : (kd == 1) = false := beq_eq_false_iff_ne.2 hk1
      have HDB : Hid (LB.does b ⟨kd, d, a, l⟩ = (b.learn d (countsC (l.take 40)) a).2) := hid (if_neg hk1)
      have HDR : Hid (RB.does r ⟨kd, d, a, l⟩ = (r.learn d (countsC (l.take 40)) a).2) := hid (if_neg hk1)
      have HP := hid (learn_any HBD.out.s (by omega) A (l.take 40) n c HL.out (by omega) (by omega) hcc (HEQ.out _ HD0.out) d a)
      have HR : Hid (∀ w8, Grew w3.drew w8 P → Calls Try.prog 24 #[.pointer (some ⟨gr, 0, none⟩), .int .i64 d, .slice A n c, .int .i64 a] w8 fun e w' => e = .returned (.int .i64 (r.learn d (countsC (l.take 40)) a).1) ∧ BookR w' (plusP R w8.heap.size w'.heap.size) gr (r.learn d (countsC (l.take 40)) a).2 ∧ Grew w8 w' (fun x => x = gr)) := hid (fun w8 h8 => refLearn_any (HBD.out.t.grew h8 (fun x hx => HBD.out.dis x hx)) (by have := HBD.out.sl; omega) (by have := HBD.out.lk.len HBD.out.inv; omega) A (l.take 40) n c HL.out (by omega) (HEQ.out _ (HD0.out.trans (h8.mono fun x _ h => .inl h))) d a)
      obtain ⟨out, hco⟩ := HHC.out
      have HEE := hid (HBD.out.lk.learnC HBD.out.inv d a hco)
      have HLN := hid (r.learn_len d (countsC (l.take 40)) a)
      obtain ⟨E, hE⟩ : ∃ E, (b.learn d (countsC (l.take 40)) a).1 = E := ⟨_, rfl⟩
      have hE2 : (r.learn d (countsC (l.take 40)) a).1 = E := by rw [← HEE.out.1]; exact hE
      rw [hE] at HP
      rw [hE2] at HR
      clear hE hE2 hco
      have hee : (E == E) = true := by simp
      go_enter Try.func10, Try.ntmps10
      go_upto_region 1 with fail
      rw [← HW1.out]

      rw [← HW3.out]
      go_upto_region 5 with fail
      go_region_held3 (fun W => W.cell? ⟨w.heap.size, 0, none⟩ = some (.int .i64 kd) ∧ W.cell? ⟨w.heap.size, 1, none⟩ = some (.int .i64 d) ∧ W.cell? ⟨w.heap.size, 2, none⟩ = some (.int .i64 a) ∧ W.cell? ⟨w.heap.size, 3, none⟩ = some (.slice A n c))
        (first | exact HKS.out _ HD0.out | exact HKS.out _ HG8.out | exact HKS.out _ HG11.out)
        ((first
          | (go_at_call 21; ((refine HP.out.mono ?_); rintro er w8 ⟨rfl, h8, k8⟩; have HP8 := hid h8; have HE8 := hid k8; have HG8 : Hid (Grew w3 w8 (fun x => P x ∨ R x)) := hid (HD0.out.trans (k8.mono (fun x _ h => .inl h))); clear h8 k8))
          | (go_at_call 24; ((refine (HR.out _ HE8.out).mono ?_); rintro er w11 ⟨rfl, h8, k8⟩; have HR11 := hid h8; have HE11 := hid k8; have HG11 : Hid (Grew w3 w11 (fun x => P x ∨ R x)) := hid (HG8.out.trans (k8.mono (fun x _ h => .inr (by subst h; exact HGR.out)))); clear h8 k8))))
      all_goals
        go_wp2_with fail
        go_ret
        obtain ⟨P2, R2, q1, q2, q3⟩ := HBD.out.next (Nat.le_trans HBB.out HSB.out) HP8.out (fun x hx => hx) HE8.out HR11.out HE11.out HEE.out.2.1 HEE.out.2.2 (by have := HBD.out.sl; have := HLN.out; omega)
        exact ⟨rfl, P2, R2, by rw [HDB.out, HDR.out]; exact q1, fun x hx => (q2 x hx).imp id (fun h => Nat.le_trans HSB.out h), HGW.out _ (HD0.out.trans q3)⟩
end Go.Proofs.Ytkimhdcngagmaaa.Sh
/-
  Of any list something counts.
-/
namespace Go.Proofs.Ytkimhdcngagmaaa.Sh
theorem ex_kept (l : List Crd) : ∀ k, k ≤ l.length → ∃ out, Kept out l k := by
  intro k
  induction k with
  | zero => exact fun _ => ⟨[], kept_start l⟩
  | succ k ih =>
    intro hk
    obtain ⟨out, h⟩ := ih (by omega)
    obtain ⟨c, hc⟩ : ∃ c, l[k]? = some c := ⟨_, List.getElem?_eq_getElem (by omega)⟩
    by_cases hm : mayC c = true
    · by_cases hx : ∃ x ∈ out, x.d = c.d ∧ x.q = c.q
      · exact ⟨out, kept_skip h hc (.inr hx)⟩
      · exact ⟨out ++ [c], kept_take h hc hm (fun x hm2 he => hx ⟨x, hm2, he⟩)⟩
    · exact ⟨out, kept_skip h hc (.inl (by simpa using hm))⟩
theorem ex_least (l : List Crd) : ∀ k, 0 < k → k ≤ l.length → ∃ m, Least l k m := by
  intro k
  induction k with
  | zero => exact fun h => absurd h (by omega)
  | succ k ih =>
    intro _ hk
    rcases Nat.eq_zero_or_pos k with h0 | h0
    · subst h0
      obtain ⟨c, hc⟩ : ∃ c, l[0]? = some c := ⟨_, List.getElem?_eq_getElem (by omega)⟩
      exact ⟨0, least_one hc⟩
    · obtain ⟨m, hm⟩ := ih h0 (by omega)
      have hm' := hm
      obtain ⟨c, hc, _⟩ := hm'
      obtain ⟨x, hx⟩ : ∃ c, l[k]? = some c := ⟨_, List.getElem?_eq_getElem (by omega)⟩
      cases hb : bef x c
      · exact ⟨m, least_keep hm hc hx hb⟩
      · exact ⟨k, least_take hm hc hx hb⟩
theorem ex_sel : ∀ (n : Nat) (out l all : List Crd), l.length = n → Sel out l all → ∃ o, SortOf o all := by
  intro n
  induction n with
  | zero =>
    intro out l all hn h
    rw [List.length_eq_zero_iff.1 hn] at h
    exact ⟨out, sel_end h⟩
  | succ n ih =>
    intro out l all hn h
    obtain ⟨m, hm⟩ := ex_least l l.length (by omega) (Nat.le_refl _)
    have hm' := hm
    obtain ⟨c, hc, hml, _⟩ := hm'
    exact ih (out ++ [c]) (l.take m ++ l.drop (m + 1)) all (by rw [List.length_append, List.length_take, List.length_drop]; omega) (sel_step h hm hc)
theorem has_counts (l : List Crd) : HasCounts l := by
  obtain ⟨out, h⟩ := ex_kept l l.length (Nat.le_refl _)
  obtain ⟨o, ho⟩ := ex_sel out.length [] out out rfl (sel_start out)
  exact ⟨o, kept_end h ho⟩
theorem countsC_mem {l : List Crd} {c : Crd} (h : c ∈ countsC l) : c ∈ l := by
  obtain ⟨out, ho⟩ := has_counts l
  rw [countsC_eq ho] at h
  have h1 : c ∈ out.filter (idIs c.d c.q) := List.mem_filter.2 ⟨h, by unfold idIs; simp⟩
  rw [ho.2] at h1
  exact (List.mem_filter.1 (List.mem_of_mem_take h1)).1
end Go.Proofs.Ytkimhdcngagmaaa.Sh
