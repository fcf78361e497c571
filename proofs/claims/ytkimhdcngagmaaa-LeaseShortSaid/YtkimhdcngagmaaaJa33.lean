/-
  LeasePlays: whatever a book learns and hears, it answers, holds and tells just what the document says.
-/
import Derived.Test.YtkimhdcngagmaaaJa27
import Derived.Test.YtkimhdcngagmaaaJa28
import Derived.Test.YtkimhdcngagmaaaJa31
import Derived.Test.YtkimhdcngagmaaaJa32
set_option linter.unusedVariables false
set_option linter.unusedSimpArgs false
namespace Go.Proofs.Ytkimhdcngagmaaa.Sh
open Go Go.RowKit

set_option linter.unusedSimpArgs false
set_option linter.unusedVariables false
/-- A deed's cells. -/
structure DHd where
  kind : Int
  d : Int
  a : Int
  A : Option Addr
  n : Nat
  c : Nat
def encD : Enc DHd := ⟨4, fun h => [.int .i64 h.kind, .int .i64 h.d, .int .i64 h.a, .slice h.A h.n h.c], by omega, fun _ => rfl, fun x u hu => by
  simp only [List.mem_cons, List.not_mem_nil, or_false] at hu
  rcases hu with rfl | rfl | rfl | rfl <;> rfl⟩
/-- Deeds from A on, below block B. -/
def DeedsAt (w : World) (B : Nat) (A : Option Addr) (xs : List Dd) : Prop :=
  ∃ hs : List DHd, hs.length = xs.length ∧ Els encD w B A hs ∧ ∀ (i : Nat) (h : DHd) (x : Dd), hs[i]? = some h → xs[i]? = some x → h.kind = x.kind ∧ h.d = x.d ∧ h.a = x.a ∧ x.l.length = h.n ∧ h.n ≤ h.c ∧ h.c ≤ 9223372036854775807 ∧ Els encCr w B h.A x.l
theorem DeedsAt.below {w w' : World} {B : Nat} {A : Option Addr} {xs : List Dd} (h : DeedsAt w B A xs) (hb : Below B w w') : DeedsAt w' B A xs := by
  obtain ⟨hs, h1, h2, h3⟩ := h
  exact ⟨hs, h1, h2.below hb, fun i y x hy hx => by obtain ⟨a, b, c, d, e, f, g⟩ := h3 i y x hy hx; exact ⟨a, b, c, d, e, f, g.below hb⟩⟩
/-- The i-th deed: its place, its cells, its credentials. -/
theorem DeedsAt.get {w : World} {B : Nat} {A : Option Addr} {xs : List Dd} (h : DeedsAt w B A xs) {i : Nat} {x : Dd} (hx : xs[i]? = some x) : ∃ ad aj CA n c, A = some ad ∧ ad.block < B ∧ ad.add (i * 4) = aj ∧ aj.block = ad.block ∧
    w.cell? aj = some (.int .i64 x.kind) ∧ w.cell? ⟨aj.block, aj.off + 1, none⟩ = some (.int .i64 x.d) ∧ w.cell? ⟨aj.block, aj.off + 2, none⟩ = some (.int .i64 x.a) ∧ w.cell? ⟨aj.block, aj.off + 3, none⟩ = some (.slice CA n c) ∧ x.l.length = n ∧ n ≤ c ∧ c ≤ 9223372036854775807 ∧ Els encCr w B CA x.l := by
  obtain ⟨hs, h1, h2, h3⟩ := h
  obtain ⟨y, hy⟩ : ∃ y, hs[i]? = some y := ⟨_, List.getElem?_eq_getElem (by rw [h1]; exact (List.getElem?_eq_some_iff.1 hx).1)⟩
  obtain ⟨ad, aj, e, hb, ea, hbj, f0, fs⟩ := h2.get hy
  obtain ⟨k1, k2, k3, k4, k5, k6, k7⟩ := h3 i y x hy hx
  refine ⟨ad, aj, y.A, y.n, y.c, e, hb, ea, hbj, ?_, ?_, ?_, ?_, k4, k5, k6, k7⟩
  · rw [f0 _ rfl, k1]
  · rw [fs 1 _ (by omega) rfl, k2]
  · rw [fs 2 _ (by omega) rfl, k3]
  · rw [fs 3 _ (by omega) rfl]
theorem Els.elsQ {α : Type} {E : Enc α} {w : World} {B : Nat} {A : Option Addr} {l : List α} (h : Els E w B A l) (hB : B ≤ w.heap.size) : ElsQ E w (fun x => x < B) A l := fun hn => by
  obtain ⟨ad, e, hb, hc⟩ := h hn
  exact ⟨ad, e, hb, by omega, hc⟩
/-- Two new books. -/
theorem inv_new {o : Int} (ho : 1 ≤ o ∧ o ≤ 16) : Inv (LB.new o) := ⟨ho, fun d a h => (by cases h), fun d h hh => (by cases hh), fun d => (by simp [LB.new]), fun d x y => (by simp [LB.new])⟩
theorem lk_new (o : Int) : Lk (LB.new o) ⟨o, [], []⟩ := ⟨rfl, rfl, fun d => rfl⟩
theorem bth_new {w w2 : World} {o : Int} {g : Nat} (ho : 1 ≤ o ∧ o ≤ 16) (hb : Below w.heap.size w w2) (h : BookP w2 (plusP (fun _ => False) w.heap.size w2.heap.size) g 0 (LB.new o)) :
    Bth (w2.alloc (.cells #[.int .i64 o, .slice none 0 0, .slice none 0 0] 32)) w.heap.size (plusP (fun _ => False) w.heap.size w2.heap.size) (fun x => x = w2.heap.size) g w2.heap.size 0 (LB.new o) ⟨o, [], []⟩ := by
  have hP : ∀ x, plusP (fun _ => False) w.heap.size w2.heap.size x → w.heap.size ≤ x ∧ x < w2.heap.size := fun x hx => hx.elim (fun h => h.elim) id
  refine ⟨h.below ((Below.refl _ _).alloc (Nat.le_refl _) _), ⟨⟨none, none, 0, 0, rfl, heap_alloc_new w2 _, Nat.le_refl _, by omega, ElsQ.nil, Nat.le_refl _, by omega, ElsQ.nil⟩, fun x hx => by subst hx; simp⟩, lk_new o, inv_new ho, fun x hx he => ?_, fun x hx => ?_, Nat.le_refl _⟩
  · have := (hP x hx).2; omega
  · rcases hx with hx | hx
    · exact (hP x hx).1
    · have := hb.size; omega
theorem Bth.blw {w w' : World} {B : Nat} {P R : Nat → Prop} {gs gr k : Nat} {b : LB} {r : RB} (h : Bth w B P R gs gr k b r) (hB : B ≤ w.heap.size) (hg : Grew w w' (fun x => P x ∨ R x)) : Below B w w' := hg.below hB h.low
set_option maxHeartbeats 16000000 in
theorem leasePlays_walk (o now : Int) (DA : Option Addr) (xs : List Dd) (dn dc : Nat) (hdn : xs.length = dn) (IA : Option Addr) (ids : List (Int × Int)) (n c : Nat) (hn : ids.length = n) (hnc : n ≤ c) (hcc : c ≤ 9223372036854775807) (h64 : ∀ x ∈ ids, In64 x.1) (w : World) (hD : DeedsAt w w.heap.size DA xs) (hI : Els encI w w.heap.size IA ids) :
    Calls Try.prog 3 #[.int .i64 o, .slice DA dn dc, .int .i64 now, .slice IA n c] w fun e w' => e = .returned (.bool true) ∧ Below w.heap.size w w' := by
  have HFEW := hid (few13_any IA ids n c hn hnc hcc w hI)
  have HLV := hid (fun W => lives_any W)
  by_cases ho : 1 ≤ o ∧ o ≤ 16
  · obtain ⟨ho1, ho2⟩ := ho
    have HNEW := hid (fun W => new_yes o ⟨ho1, ho2⟩ W)
    have HO : Hid (1 ≤ o ∧ o ≤ 16) := hid ⟨ho1, ho2⟩
    have HDN := hid hdn
    have HDD := hid (fun W (hW : Below w.heap.size w W) => hD.below hW)
    have HI64 : Hid (∀ x ∈ ids.take 20, In64 x.1) := hid (fun x hx => h64 x (List.mem_of_mem_take hx))
    have HII := hid (fun W (hW : Below w.heap.size w W) => ((hI.head (hi := 20)).below hW).more hW.size)
    clear hdn hn hnc hcc h64 hD hI
    go_enter Try.func3, Try.ntmps3
    go_wp2_with fail
    refine HFEW.out.mono ?_
    rintro er w1 ⟨⟨n', rfl, hn1, hn2, hn3⟩, hw⟩
    have hw1 : w = w1 := hw
    subst hw1
    have HN3 := hid hn3
    clear hw hn3 HFEW
    go_wp2_with fail
    refine (HNEW.out w).mono ?_
    rintro er w2 ⟨gs, rfl, hbk, hb2⟩
    obtain ⟨w3, hw3⟩ : ∃ y, y = w2.alloc (.cells #[.int .i64 o, .slice none 0 0, .slice none 0 0] 32) := ⟨_, rfl⟩
    have hbt := bth_new HO.out hb2 hbk
    rw [← hw3] at hbt
    have HB3 : Hid (Below w.heap.size w w3) := hid (by rw [hw3]; exact hb2.alloc hb2.size _)
    have HBT := hid hbt
    have HW3 := hid hw3
    obtain ⟨gr, hgr⟩ : ∃ x, x = w2.heap.size := ⟨_, rfl⟩
    rw [← hgr] at HBT
    clear hbt hw3 hbk hb2 HNEW
    go_upto_region 8 with fail
    rw [← HW3.out, ← hgr]
    clear hgr HW3
    go_wp2_with fail
    go_loopw [11] (fun i wr => ∃ k : Nat, k ≤ dn ∧ k ≤ 20 ∧ i = .int .i64 (k : Int) ∧ Hid (∃ (P R : Nat → Prop) (b : LB) (r : RB), Bth wr w.heap.size P R gs gr (2 * k) b r) ∧ Hid (Below w.heap.size w wr)) (fun i _ => 20 - (intOf i).toNat)
    case atStart => exact ⟨0, Nat.zero_le _, Nat.zero_le _, rfl, hid ⟨_, _, _, _, HBT.out⟩, HB3⟩
    case round =>
      clear HBT HB3
      obtain ⟨wj, hwj⟩ : ∃ x, x = wr := ⟨_, rfl⟩
      subst hwj
      obtain ⟨k, hk, hk20, rfl, HEX, HB⟩ := hrel
      obtain ⟨P, R, b, r, hbt⟩ := HEX.out
      have HBT := hid hbt
      have hk0 : (0 : Int) ≤ (k : Int) := Int.natCast_nonneg _
      clear hbt HEX
      by_cases hlt : k < dn ∧ k < 20
      · obtain ⟨hl1, hl2⟩ := hlt
        obtain ⟨x, hx⟩ : ∃ x, xs[k]? = some x := ⟨_, List.getElem?_eq_getElem (by rw [HDN.out]; exact hl1)⟩
        obtain ⟨ad, aj, CA, cn, cc, hA, -, ea, -, e0, e1, e2, e3, hcl, hcn, hcm, hce⟩ := (HDD.out wj HB.out).get hx
        subst hA
        have hi1 : (k : Int) < (dn : Int) := by omega
        have hi2 : (k : Int) < 20 := by omega
        have HDO := hid (does_any HBT.out HB.out.size (by omega) x.kind x.d x.a CA x.l cn cc hcl hcn hcm (has_counts _) (hce.elsQ HB.out.size) (fun y hy hp => by have := HBT.out.low y hp; omega))
        obtain ⟨xk, xd, xa, xl⟩ := x
        simp only at e0 e1 e2 e3 HDO
        clear hx hcl hce
        go_wp2_with fail
        refine HDO.out.mono ?_
        rintro er w4 ⟨rfl, P2, R2, q1, q2, q3⟩
        have HB4 := hid (HB.out.trans (HBT.out.blw HB.out.size q3))
        have HBT4 := hid q1
        have HH4 := hid (held_any q1.s q1.inv.le now)
        clear q1 q2 q3 HDO e0 e1 e2 e3
        go_wp2_with fail
        refine HH4.out.mono ?_
        rintro er w5 ⟨A5, n5, c5, rfl, hn5, hc5, hm5, hb5, ho5, bl5⟩
        have HBT5 := hid (HBT4.out.below bl5)
        have HB5 := hid (HB4.out.trans (bl5.mono HB4.out.size))
        have HH5 := hid (refHeld_any HBT5.out.t (by have := HBT5.out.lk.len HBT5.out.inv; omega) now)
        rw [HBT5.out.lk.held] at HH5
        have HE5 := hid ((show Own (E := encL) w5 w4.heap.size 55 (.slice A5 ((b.does ⟨xk, xd, xa, xl⟩).held now).length c5) ((b.does ⟨xk, xd, xa, xl⟩).held now) from by rw [hn5]; exact ho5) |> own_els)
        have HN5 := hid hn5
        clear hn5 ho5 bl5 HH4
        go_wp2_with fail
        refine HH5.out.mono ?_
        rintro er w6 ⟨A6, n6, c6, rfl, hn6, hc6, hm6, hb6, ho6, bl6⟩
        have hnn : n6 = n5 := hn6.symm.trans HN5.out
        subst hnn
        have HBT6 := hid (HBT5.out.below bl6)
        have HB6 := hid (HB5.out.trans (bl6.mono HB5.out.size))
        have HS6 := hid (same13_eq A5 A6 _ n6 c5 c6 HN5.out (by omega) w6 ((HE5.out.below bl6).more bl6.size) ((show Own (E := encL) w6 w5.heap.size 55 (.slice A6 ((b.does ⟨xk, xd, xa, xl⟩).held now).length c6) ((b.does ⟨xk, xd, xa, xl⟩).held now) from by rw [hn6]; exact ho6) |> own_els))
        clear hn6 ho6 bl6 HH5
        go_wp2_with fail
        refine HS6.out.mono ?_
        rintro er w7 ⟨rfl, bl7⟩
        have HBT7 := hid (HBT6.out.below bl7)
        have HB7 := hid (HB6.out.trans (bl7.mono HB6.out.size))
        clear bl7
        go_wp2_with fail
        go_roundw
        case rel => exact ⟨k + 1, by omega, by omega, by go_num, hid ⟨_, _, _, _, by rw [show 2 * (k + 1) = 2 * k + 2 by omega]; exact HBT7.out⟩, HB7⟩
        case measure => simp [intOf]; omega
      · have HU1 := hid (until_any HBT.out.s HBT.out.inv.le IA (ids.take 20) n' c HN3.out (by omega) (HII.out wj HB.out) HI64.out now)
        obtain ⟨⟨u1, u2⟩, hU⟩ : ∃ u, b.untilP (ids.take 20) now = u := ⟨_, rfl⟩
        have HU2 := hid (HBT.out.lk.untilP HBT.out.inv (ids.take 20) now)
        rw [hU] at HU1 HU2
        have hu1 : (u1 == u1) = true := by simp
        have hu2 : (u2 == u2) = true := by simp
        clear hU
        by_cases hl1 : k < dn
        · have hi1 : (k : Int) < (dn : Int) := by omega
          have hi2 : ¬ (k : Int) < 20 := by omega
          clear hlt
          go_wp2_with fail
          refine HU1.out.mono ?_
          rintro er w4 ⟨rfl, bl4⟩
          have HBT4 := hid (HBT.out.below bl4)
          have HB4 := hid (HB.out.trans (bl4.mono HB.out.size))
          have HU3 := hid (refUntil_any HBT4.out.t (by have := HBT4.out.lk.len HBT4.out.inv; omega) IA (ids.take 20) n' c HN3.out (by omega) (HII.out w4 HB4.out) now)
          rw [HU2.out] at HU3
          clear bl4 HU1
          go_wp2_with fail
          refine HU3.out.mono ?_
          rintro er w5 ⟨rfl, bl5⟩
          have HBT5 := hid (HBT4.out.below bl5)
          have HB5 := hid (HB4.out.trans (bl5.mono HB4.out.size))
          clear bl5 HU3
          go_wp2_with fail
          go_loopw [18] (fun i wr => ∃ j : Nat, j ≤ 18 ∧ i = .int .i64 (j : Int) ∧ Hid (Bth wr w.heap.size P R gs gr (2 * k) b r) ∧ Hid (Below w.heap.size w wr)) (fun i _ => 18 - (intOf i).toNat)
          case atStart => exact ⟨0, by omega, rfl, HBT5, HB5⟩
          case round =>
            clear HBT5 HB5
            obtain ⟨wi, hwi⟩ : ∃ x, x = wr := ⟨_, rfl⟩
            subst hwi
            obtain ⟨j, hj, rfl, HBTJ, HBJ⟩ := hrel
            have hj0 : (0 : Int) ≤ (j : Int) := Int.natCast_nonneg _
            by_cases hj1 : j ≤ 17
            · have hj2 : (j : Int) ≤ 17 := by omega
              have HF1 := hid (fresh_any HBTJ.out.s (j : Int) now (by unfold In64; omega))
              have HF2 := hid (refFresh_any HBTJ.out.t (by have := HBTJ.out.sl; omega) (j : Int) now)
              rw [HBTJ.out.lk.fresh HBTJ.out.inv] at HF2
              obtain ⟨v, hv⟩ : ∃ v, b.fresh (j : Int) now = v := ⟨_, rfl⟩
              rw [hv] at HF1 HF2
              have hvv : (v != v) = false := by simp
              clear hv
              go_wp2_with fail
              refine HF1.out.mono ?_
              rintro er w6 ⟨rfl, hw⟩
              have hw6 : wi = w6 := hw
              subst hw6
              clear hw
              go_wp2_with fail
              refine HF2.out.mono ?_
              rintro er w6 ⟨rfl, hw⟩
              have hw6 : wi = w6 := hw
              subst hw6
              clear hw
              go_wp2_with fail
              go_roundw
              case rel => exact ⟨j + 1, by omega, by go_num, HBTJ, HBJ⟩
              case measure => simp [intOf]; omega
            · obtain rfl : j = 18 := by omega
              have hj2 : ¬ ((18 : Nat) : Int) ≤ 17 := by omega
              have HS1 := hid (stale_any HBTJ.out.s IA (ids.take 20) n' c HN3.out (by omega) (HII.out wi HBJ.out) HI64.out now)
              obtain ⟨v, hv⟩ : ∃ v, b.stale (ids.take 20) now = v := ⟨_, rfl⟩
              have HST := hid (HBTJ.out.lk.stale HBTJ.out.inv (ids.take 20) now)
              rw [hv] at HS1 HST
              have hvv : (v == v) = true := by simp
              clear hv
              go_wp2_with fail
              refine HS1.out.mono ?_
              rintro er w6 ⟨rfl, bl6⟩
              have HBT6 := hid (HBTJ.out.below bl6)
              have HB6 := hid (HBJ.out.trans (bl6.mono HBJ.out.size))
              have HS2 := hid (refStale_any HBT6.out.t (by have := HBT6.out.sl; omega) IA (ids.take 20) n' c HN3.out (by omega) (HII.out w6 HB6.out) now)
              rw [HST.out] at HS2
              clear bl6 HS1
              go_wp2_with fail
              refine HS2.out.mono ?_
              rintro er w7 ⟨rfl, hw⟩
              have hw7 : w6 = w7 := hw
              subst hw7
              clear hw
              go_wp2_with fail
              refine (HLV.out w6).mono ?_
              rintro er w8 ⟨rfl, bl8⟩
              go_wp2_with fail
              go_ret
              exact ⟨rfl, HB6.out.trans (bl8.mono HB6.out.size)⟩
        · have hi1 : ¬ (k : Int) < (dn : Int) := by omega
          clear hlt
          go_wp2_with fail
          refine HU1.out.mono ?_
          rintro er w4 ⟨rfl, bl4⟩
          have HBT4 := hid (HBT.out.below bl4)
          have HB4 := hid (HB.out.trans (bl4.mono HB.out.size))
          have HU3 := hid (refUntil_any HBT4.out.t (by have := HBT4.out.lk.len HBT4.out.inv; omega) IA (ids.take 20) n' c HN3.out (by omega) (HII.out w4 HB4.out) now)
          rw [HU2.out] at HU3
          clear bl4 HU1
          go_wp2_with fail
          refine HU3.out.mono ?_
          rintro er w5 ⟨rfl, bl5⟩
          have HBT5 := hid (HBT4.out.below bl5)
          have HB5 := hid (HB4.out.trans (bl5.mono HB4.out.size))
          clear bl5 HU3
          go_wp2_with fail
          go_loopw [18] (fun i wr => ∃ j : Nat, j ≤ 18 ∧ i = .int .i64 (j : Int) ∧ Hid (Bth wr w.heap.size P R gs gr (2 * k) b r) ∧ Hid (Below w.heap.size w wr)) (fun i _ => 18 - (intOf i).toNat)
          case atStart => exact ⟨0, by omega, rfl, HBT5, HB5⟩
          case round =>
            clear HBT5 HB5
            obtain ⟨wi, hwi⟩ : ∃ x, x = wr := ⟨_, rfl⟩
            subst hwi
            obtain ⟨j, hj, rfl, HBTJ, HBJ⟩ := hrel
            have hj0 : (0 : Int) ≤ (j : Int) := Int.natCast_nonneg _
            by_cases hj1 : j ≤ 17
            · have hj2 : (j : Int) ≤ 17 := by omega
              have HF1 := hid (fresh_any HBTJ.out.s (j : Int) now (by unfold In64; omega))
              have HF2 := hid (refFresh_any HBTJ.out.t (by have := HBTJ.out.sl; omega) (j : Int) now)
              rw [HBTJ.out.lk.fresh HBTJ.out.inv] at HF2
              obtain ⟨v, hv⟩ : ∃ v, b.fresh (j : Int) now = v := ⟨_, rfl⟩
              rw [hv] at HF1 HF2
              have hvv : (v != v) = false := by simp
              clear hv
              go_wp2_with fail
              refine HF1.out.mono ?_
              rintro er w6 ⟨rfl, hw⟩
              have hw6 : wi = w6 := hw
              subst hw6
              clear hw
              go_wp2_with fail
              refine HF2.out.mono ?_
              rintro er w6 ⟨rfl, hw⟩
              have hw6 : wi = w6 := hw
              subst hw6
              clear hw
              go_wp2_with fail
              go_roundw
              case rel => exact ⟨j + 1, by omega, by go_num, HBTJ, HBJ⟩
              case measure => simp [intOf]; omega
            · obtain rfl : j = 18 := by omega
              have hj2 : ¬ ((18 : Nat) : Int) ≤ 17 := by omega
              have HS1 := hid (stale_any HBTJ.out.s IA (ids.take 20) n' c HN3.out (by omega) (HII.out wi HBJ.out) HI64.out now)
              obtain ⟨v, hv⟩ : ∃ v, b.stale (ids.take 20) now = v := ⟨_, rfl⟩
              have HST := hid (HBTJ.out.lk.stale HBTJ.out.inv (ids.take 20) now)
              rw [hv] at HS1 HST
              have hvv : (v == v) = true := by simp
              clear hv
              go_wp2_with fail
              refine HS1.out.mono ?_
              rintro er w6 ⟨rfl, bl6⟩
              have HBT6 := hid (HBTJ.out.below bl6)
              have HB6 := hid (HBJ.out.trans (bl6.mono HBJ.out.size))
              have HS2 := hid (refStale_any HBT6.out.t (by have := HBT6.out.sl; omega) IA (ids.take 20) n' c HN3.out (by omega) (HII.out w6 HB6.out) now)
              rw [HST.out] at HS2
              clear bl6 HS1
              go_wp2_with fail
              refine HS2.out.mono ?_
              rintro er w7 ⟨rfl, hw⟩
              have hw7 : w6 = w7 := hw
              subst hw7
              clear hw
              go_wp2_with fail
              refine (HLV.out w6).mono ?_
              rintro er w8 ⟨rfl, bl8⟩
              go_wp2_with fail
              go_ret
              exact ⟨rfl, HB6.out.trans (bl8.mono HB6.out.size)⟩
  · have HNEW := hid (fun W => new_no o ho W)
    have hov : ∀ (b : Bool), b = true ∨ b = false := fun b => by cases b <;> simp
    by_cases h1 : 1 ≤ o
    · have h2 : ¬ o ≤ 16 := fun h => ho ⟨h1, h⟩
      clear ho hdn hn hnc hcc h64 hD hI
      go_enter Try.func3, Try.ntmps3
      go_wp2_with fail
      refine HFEW.out.mono ?_
      rintro er w1 ⟨⟨n', rfl, hn1, hn2, hn3⟩, hw⟩
      have hw1 : w = w1 := hw
      subst hw1
      go_wp2_with fail
      refine (HNEW.out w).mono ?_
      rintro er w2 ⟨rfl, hw⟩
      have hw2 : w = w2 := hw
      subst hw2
      go_wp2_with fail
      refine (HLV.out w).mono ?_
      rintro er w2 ⟨rfl, bl⟩
      go_wp2_with fail
      go_ret
      exact ⟨rfl, bl⟩
    · clear ho hdn hn hnc hcc h64 hD hI
      go_enter Try.func3, Try.ntmps3
      go_wp2_with fail
      refine HFEW.out.mono ?_
      rintro er w1 ⟨⟨n', rfl, hn1, hn2, hn3⟩, hw⟩
      have hw1 : w = w1 := hw
      subst hw1
      go_wp2_with fail
      refine (HNEW.out w).mono ?_
      rintro er w2 ⟨rfl, hw⟩
      have hw2 : w = w2 := hw
      subst hw2
      go_wp2_with fail
      refine (HLV.out w).mono ?_
      rintro er w2 ⟨rfl, bl⟩
      go_wp2_with fail
      go_ret
      exact ⟨rfl, bl⟩
end Go.Proofs.Ytkimhdcngagmaaa.Sh
