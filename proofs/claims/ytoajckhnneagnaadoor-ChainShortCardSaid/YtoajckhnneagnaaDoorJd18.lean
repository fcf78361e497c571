/-
  The statements' own told and same, by contract.
-/
import Derived.Test.YtoajckhnneagnaaDoorJd4
import Derived.Test.YtoajckhnneagnaaDoorJd5
import Derived.Test.YtoajckhnneagnaaDoorJd15
import Derived.Test.YtoajckhnneagnaaDoorJd2
import Derived.BigQuiet
set_option linter.unusedVariables false
set_option linter.unusedSimpArgs false
namespace Go.Proofs.YtoajckhnneagnaaDoor.Sh
open Go Go.RowKit

set_option linter.unusedSimpArgs false
set_option linter.unusedVariables false
theorem slQ : SlN Tryd.prog 44 47 3 48 := by
  obtain ⟨i0, hi0, hz0, hz1, hz2⟩ := info_parts (P := Tryd.prog) (e := 47) (z := .agg #[.string E0, .string E0, .string E0]) (size := 3) (bytes := 48) (by kernel_rfl)
  exact ⟨Tryd.underlying44, ⟨i0, _, hi0, hz0, hz1, hz2, rfl⟩, by omega⟩
end Go.Proofs.YtoajckhnneagnaaDoor.Sh
namespace Go.Proofs.YtoajckhnneagnaaDoor.Sh
open Go Go.RowKit

set_option linter.unusedSimpArgs false
set_option linter.unusedVariables false
theorem inne {a b : ByteArray} (h : a ≠ b) : ¬ a.toList = b.toList ∧ (a.toList == b.toList) = false := by
  have : ¬ a.toList = b.toList := fun e => h (ba_eq (by rw [← Lib.toList_data, ← Lib.toList_data, e]))
  exact ⟨this, beq_eq_false_iff_ne.2 this⟩
set_option maxHeartbeats 4000000 in
theorem in_any (A : Option Addr) (l : List Pr) (n c : Nat) (hn : l.length = n) (hm : n ≤ 1000000000) (o nm who : ByteArray) (w : World) (h : Els encP w w.heap.size A l) :
    Calls Tryd.prog 21 #[.slice A n c, .agg #[.string o, .string nm, .string who]] w fun e w' => e = .returned (.bool (decide (((o, nm), who) ∈ l))) ∧ Below w.heap.size w w' := by
  have HN := hid hn
  have HY := hid h
  obtain ⟨w1, hw1⟩ : ∃ w1, w1 = w.alloc (.cells #[.string o, .string nm, .string who] 47) := ⟨_, rfl⟩
  obtain ⟨bd, hbd⟩ : ∃ bd, bd = (⟨w.heap.size, 0, none⟩ : Addr) := ⟨_, rfl⟩
  have q1 : Below w.heap.size w w1 := by rw [hw1]; exact (Below.refl _ _).alloc (Nat.le_refl _) _
  have hz1 : w1.heap.size = w.heap.size + 1 := by rw [hw1]; simp
  have r1 : ∀ W, Below w1.heap.size w1 W → W.cell? bd = some (.string o) ∧ W.cell? ⟨bd.block, bd.off + 1, none⟩ = some (.string nm) ∧ W.cell? ⟨bd.block, bd.off + 2, none⟩ = some (.string who) := fun W hW => by
    obtain ⟨ad, e, hc⟩ := reads_new w #[.string o, .string nm, .string who] 47 (0, 0) (by simp)
    injection e with e
    subst e
    rw [← hw1] at hc
    subst hbd
    have hb : ∀ k, (⟨w.heap.size, k, none⟩ : Addr).block < w1.heap.size := fun k => by rw [hz1]; exact Nat.lt_succ_self _
    exact ⟨(hW.cell (hb 0)).trans (hc 0 _ rfl), (hW.cell (hb 1)).trans (hc 1 _ rfl), (hW.cell (hb 2)).trans (hc 2 _ rfl)⟩
  have HR := hid r1
  have HQ := hid q1
  clear hn h q1 hz1 r1
  go_enter Tryd.func21, Tryd.ntmps21
  go_wp2_with fail
  rw [← hw1, ← hbd]
  clear hw1 hbd
  go_loopw [5] (fun i wr => ∃ j : Nat, j ≤ n ∧ i = .int .i64 j ∧ Hid (((o, nm), who) ∉ l.take j) ∧ Hid (∃ q, wr = w1.drewN q)) (fun i _ => n - (intOf i).toNat)
  case atStart => exact ⟨0, Nat.zero_le _, rfl, hid (by simp), hid ⟨0, rfl⟩⟩
  case round =>
    obtain ⟨j, hj, rfl, HNI, hw⟩ := hrel
    have hwr : Below w1.heap.size w1 wr := by obtain ⟨q, rfl⟩ := hw.out; exact below_drewN (Below.refl _ _) q
    by_cases hlt : j < n
    · obtain ⟨⟨⟨o2, nm2⟩, who2⟩, hx⟩ : ∃ x, l[j]? = some x := ⟨_, List.getElem?_eq_getElem (by rw [HN.out]; exact hlt)⟩
      obtain ⟨ad, aj, rfl, -, ea, -, a0, ai⟩ := ((HY.out.below HQ.out).below (hwr.mono HQ.out.size)).get hx
      have a0 := a0 _ rfl
      have a1 := ai 1 _ (by omega) rfl
      have a2 := ai 2 _ (by omega) rfl
      have ea : ad.add (j * 3) = aj := ea
      obtain ⟨b0, b1, b2⟩ := HR.out wr hwr
      have hk0 : (0 : Int) ≤ (j : Int) := Int.natCast_nonneg _
      have hk1 : (j : Int) < (n : Int) := by omega
      have HX := hid hx
      have HT : Hid (((o, nm), who) ≠ ((o2, nm2), who2) → ((o, nm), who) ∉ l.take (j + 1)) := hid (fun hne => by
        rw [take_snoc_of HX.out, List.mem_append, List.mem_singleton]
        rintro (h1 | h1)
        · exact HNI.out h1
        · exact hne h1)
      have HM : Hid (((o2, nm2), who2) ∈ l) := hid (List.mem_of_getElem? HX.out)
      clear hx hwr ai
      by_cases ho : o2 = o
      · subst ho
        by_cases hnm : nm2 = nm
        · subst hnm
          by_cases hwh : who2 = who
          · subst hwh
            go_wp2_with fail
            go_quiet (fail)
            go_wp2
            go_ret
            exact ⟨by rw [decide_eq_true HM.out]; rfl, by
              obtain ⟨q, rfl⟩ := hw.out
              exact below_drewN (below_drewN HQ.out q) _⟩
          · have HT2 := hid (HT.out (by intro e; simp only [Prod.mk.injEq] at e; exact hwh (by rw [e.2])))
            obtain ⟨x1, x2⟩ := inne hwh
            clear hwh
            go_wp2_with fail
            go_quiet (fail)
            go_wp2
            go_roundw
            case rel => exact ⟨j + 1, by omega, by go_num, HT2, by
              obtain ⟨q, rfl⟩ := hw.out
              exact hid ⟨q + nq, World.drewN_drewN _ _ _⟩⟩
            case measure => simp [intOf]; omega
        · have HT2 := hid (HT.out (by intro e; simp only [Prod.mk.injEq] at e; exact hnm (by rw [e.1.2])))
          obtain ⟨x1, x2⟩ := inne hnm
          clear hnm
          go_wp2_with fail
          go_quiet (fail)
          go_wp2
          go_roundw
          case rel => exact ⟨j + 1, by omega, by go_num, HT2, by
            obtain ⟨q, rfl⟩ := hw.out
            exact hid ⟨q + nq, World.drewN_drewN _ _ _⟩⟩
          case measure => simp [intOf]; omega
      · have HT2 := hid (HT.out (by intro e; simp only [Prod.mk.injEq] at e; exact ho (by rw [e.1.1])))
        obtain ⟨x1, x2⟩ := inne ho
        clear ho
        go_wp2_with fail
        go_quiet (fail)
        go_wp2
        go_roundw
        case rel => exact ⟨j + 1, by omega, by go_num, HT2, by
          obtain ⟨q, rfl⟩ := hw.out
          exact hid ⟨q + nq, World.drewN_drewN _ _ _⟩⟩
        case measure => simp [intOf]; omega
    · obtain rfl : j = n := by omega
      go_wp2
      go_ret
      exact ⟨by rw [decide_eq_false (by have := HNI.out; rwa [List.take_of_length_le (by rw [HN.out]; exact Nat.le_refl _)] at this)]; rfl, by
        obtain ⟨q, rfl⟩ := hw.out
        exact below_drewN HQ.out q⟩
end Go.Proofs.YtoajckhnneagnaaDoor.Sh
namespace Go.Proofs.YtoajckhnneagnaaDoor.Sh
open Go Go.RowKit

set_option linter.unusedVariables false
set_option linter.unusedSimpArgs false
def lessP (a b : Pr) : Bool := if a.1 = b.1 then Go.Op.bytesLess a.2.data.toList b.2.data.toList else lessL a.1.1 a.1.2 b.1.1 b.1.2
set_option maxHeartbeats 4000000 in
theorem lessR_any (o n x o2 n2 y : ByteArray) (w : World) :
    Calls Tryd.prog 35 #[.agg #[.string o, .string n, .string x], .agg #[.string o2, .string n2, .string y]] w fun e w' => e = .returned (.bool (lessP ((o, n), x) ((o2, n2), y))) ∧ Below w.heap.size w w' := by
  have HL := hid (fun W => refLess_any o n o2 n2 W)
  have HB := hid (((Below.refl w.heap.size w).alloc (Nat.le_refl _) (.cells #[.string o, .string n, .string x] 47)).alloc (by rw [World.size_alloc]; exact Nat.le_succ _) (.cells #[.string o2, .string n2, .string y] 47))
  by_cases ho : o = o2
  · subst ho
    by_cases hn : n = n2
    · subst hn
      have HE : Hid (lessP ((o, n), x) ((o, n), y) = Go.Op.bytesLess x.toList y.toList) := hid (by unfold lessP; rw [if_pos rfl, Lib.toList_data, Lib.toList_data])
      go_enter Tryd.func35, Tryd.ntmps35
      go_wp2_with fail
      go_ret
      exact ⟨by rw [HE.out]; rfl, HB.out⟩
    · obtain ⟨x1, x2⟩ := inne hn
      have HE : Hid (lessP ((o, n), x) ((o, n2), y) = lessL o n o n2) := hid (by unfold lessP; rw [if_neg (fun e => hn (Prod.mk.inj e).2)])
      clear hn
      go_enter Tryd.func35, Tryd.ntmps35
      go_wp2_with fail
      refine (HL.out _).mono ?_
      rintro er w2 ⟨rfl, b2⟩
      go_wp2
      go_ret
      exact ⟨by rw [HE.out]; rfl, HB.out.trans (b2.mono HB.out.size)⟩
  · obtain ⟨x1, x2⟩ := inne ho
    have HE : Hid (lessP ((o, n), x) ((o2, n2), y) = lessL o n o2 n2) := hid (by unfold lessP; rw [if_neg (fun e => ho (Prod.mk.inj e).1)])
    clear ho
    go_enter Tryd.func35, Tryd.ntmps35
    go_wp2_with fail
    refine (HL.out _).mono ?_
    rintro er w2 ⟨rfl, b2⟩
    go_wp2
    go_ret
    exact ⟨by rw [HE.out]; rfl, HB.out.trans (b2.mono HB.out.size)⟩
end Go.Proofs.YtoajckhnneagnaaDoor.Sh
namespace Go.Proofs.YtoajckhnneagnaaDoor.Sh
open Go Go.RowKit

set_option linter.unusedVariables false
set_option linter.unusedSimpArgs false
set_option maxHeartbeats 2000000 in
theorem first_any (c : Crd) (h0 : -9223372036854775808 ≤ c.d) (h1 : c.d < 9223372036854775808) (w : World) :
    Calls Tryd.prog 53 #[.agg c.cells.toArray] w fun e w' => e = .returned (.agg #[.string (domB c.d), .string c.an]) ∧ Below w.heap.size w w' := by
  obtain ⟨d, q, nm, kd, wh, ao, an, bo, bn⟩ := c
  simp only at h0 h1 ⊢
  obtain ⟨D, hD⟩ : ∃ D, domB d = D := ⟨_, rfl⟩
  have HD0 : Hid (∀ w, Calls Tryd.prog 71 #[.int .i64 d] w fun e w' => e = .returned (.string D) ∧ Below w.heap.size w w') := hid (fun w => by rw [← hD]; exact refDomain_any d h0 h1 w)
  rw [hD]
  clear hD
  obtain ⟨w1, hw1⟩ : ∃ w1, w1 = (w.alloc (.cells (Crd.cells ⟨d, q, nm, kd, wh, ao, an, bo, bn⟩).toArray 55)).alloc (.cells #[.string ⟨#[]⟩, .string ⟨#[]⟩] 24) := ⟨_, rfl⟩
  have r1 : CrAt w1 w.heap.size ⟨d, q, nm, kd, wh, ao, an, bo, bn⟩ := by rw [hw1]; exact (CrAt.new w _).kept (below_box _ _ _)
  have s1 : RoleAt w1 (w.heap.size + 1) ⟨#[]⟩ ⟨#[]⟩ := by rw [hw1]; have := RoleAt.new (w.alloc (.cells (Crd.cells ⟨d, q, nm, kd, wh, ao, an, bo, bn⟩).toArray 55)) ⟨#[]⟩ ⟨#[]⟩; rwa [World.size_alloc] at this
  have b1 : Below w.heap.size w w1 := by rw [hw1]; exact (below_cr w _).alloc (by rw [World.size_alloc]; exact Nat.le_succ _) _
  unfold Crd.cells at hw1 ⊢
  simp only at hw1 ⊢
  go_enter Tryd.func53, Tryd.ntmps53
  go_wp2_with fail
  rw [← hw1]
  clear hw1
  have HK := hid (fun W (hW : Below w1.heap.size w1 W) => (⟨(r1.kept hW).cell 0 _ rfl, (r1.kept hW).cell 6 _ rfl, (s1.kept hW).c0, (s1.kept hW).c1, (s1.kept hW).f 0, (s1.kept hW).f 1⟩ :
    W.cell? ⟨w.heap.size, 0, none⟩ = some (.int .i64 d) ∧ W.cell? ⟨w.heap.size, 6, none⟩ = some (.string an) ∧ W.cell? ⟨w.heap.size + 1, 0, none⟩ = some (.string ⟨#[]⟩) ∧ W.cell? ⟨w.heap.size + 1, 1, none⟩ = some (.string ⟨#[]⟩) ∧ W.frozen? ⟨w.heap.size + 1, 0, none⟩ = false ∧ W.frozen? ⟨w.heap.size + 1, 1, none⟩ = false))
  have HS := hid (fun W (hW : Below w1.heap.size w1 W) => s1.kept hW)
  have HD := hid (Below.refl w1.heap.size w1).drew
  have H0 := hid b1
  clear r1 s1 b1
  obtain ⟨k1, k2, k3, k4, k5, k6⟩ := HK.out _ (Below.refl _ _)
  go_region_with ((go_at_call 71; (refine (HD0.out _).mono ?_); rintro er w5 ⟨rfl, bb⟩; have B1 := hid (kept_trans HD.out HD.out.size bb); (obtain ⟨j1, j2, j3, j4, j5, j6⟩ := HK.out _ B1.out); clear bb))
  all_goals
    go_wp2
    refine bodyPost_ret (results_mid (h := Tryd.results53) _ _ (w.heap.size + 1) 0 [.string D, .string an] _ rfl (range_row (pair_set (HS.out _ B1.out))) Tryd.underlying24 rfl info_role) rfl
      ⟨rfl, ((H0.out.trans (B1.out.mono H0.out.size)).setCell (Nat.le_succ _) _).setCell (Nat.le_succ _) _⟩

end Go.Proofs.YtoajckhnneagnaaDoor.Sh
namespace Go.Proofs.YtoajckhnneagnaaDoor.Sh
open Go Go.RowKit

def Wn (B : Nat) (w0 : World) := { W : World // Below B w0 W }
instance someWn (B : Nat) (w0 : World) : Nonempty (Wn B w0) := ⟨⟨w0, Below.refl B w0⟩⟩
section
variable {P : Program} {B : Nat} {w0 : World}
theorem region_in {id : Nat} {Q : Exit → Act → World → Prop} {a : Act} {w : World} {l : List Oper} (B : Nat) (w0 : World) (hm : P.follows .mixedOrders = true) (hB : Region.lexB .any l.toArray = true) (hC : Below B w0 w.drew)
    (h : wpQuiet P l.toArray (fun W => ∃ x : Wn B w0, W = x.1) (fun a' => ∀ W, Below B w0 W → Q .normal a' W) l a) : (Code.region id l.toArray true).wp P Q a w := by
  have e : (fun a' => ∀ W, (∃ x : Wn B w0, W = x.1) → Q .normal a' W) = fun a' => ∀ W, Below B w0 W → Q .normal a' W := by
    funext a'
    apply propext
    exact ⟨fun h W hW => h W ⟨⟨W, hW⟩, rfl⟩, fun h W ⟨x, hx⟩ => hx ▸ h x.1 x.2⟩
  refine wp_region_quiet (C := fun W => ∃ x : Wn B w0, W = x.1) hm hB ⟨⟨_, hC⟩, rfl⟩ ?_
  rw [e]
  simpa using h
theorem call_in {f : FuncId} {args : Array Value} {x : Wn B w0} {v : Value} (hB : B ≤ w0.heap.size) (h : Calls P f args x.1 fun e w' => e = .returned v ∧ Below x.1.heap.size x.1 w') :
    Calls P f args x.1 fun e w'' => e = .returned v ∧ ∃ y : Wn B w0, w'' = y.1 :=
  h.mono fun _ _ ⟨h1, h2⟩ => ⟨h1, ⟨_, x.2.trans (h2.mono (Nat.le_trans hB x.2.size))⟩, rfl⟩
theorem call_in2 {f : FuncId} {args : Array Value} {x : Wn B w0} {v : Value} (hB : B ≤ w0.heap.size) (h : ∀ W, Below B w0 W → Calls P f args W fun e w' => e = .returned v ∧ Below W.heap.size W w') :
    Calls P f args x.1 fun e w'' => e = .returned v ∧ ∃ y : Wn B w0, w'' = y.1 := call_in hB (h x.1 x.2)
end
end Go.Proofs.YtoajckhnneagnaaDoor.Sh
