/-
  The document's own less and First, by contract.
-/
import Derived.Test.YtcligogmmjdobaaGreatDoorJp40
import Derived.Test.YtcligogmmjdobaaGreatDoorJp33
import Derived.Test.YtcligogmmjdobaaGreatDoorJp7
import Derived.Test.YtcligogmmjdobaaGreatDoorJp6
import Derived.BigQuiet
set_option linter.unusedVariables false
set_option linter.unusedSimpArgs false
namespace Go.Proofs.YtcligogmmjdobaaGreatDoor.Sh
open Go Go.RowKit

set_option linter.unusedVariables false
set_option linter.unusedSimpArgs false
def lessP (a b : Pr) : Bool := if a.1 = b.1 then Go.Op.bytesLess a.2.data.toList b.2.data.toList else lessL a.1.1 a.1.2 b.1.1 b.1.2
set_option maxHeartbeats 4000000 in
theorem lessR_any (o n x o2 n2 y : ByteArray) (w : World) :
    Calls Tryz.prog 28 #[.agg #[.string o, .string n, .string x], .agg #[.string o2, .string n2, .string y]] w fun e w' => e = .returned (.bool (lessP ((o, n), x) ((o2, n2), y))) ∧ Below w.heap.size w w' := by
  have HL := hid (fun W => refLess_any o n o2 n2 W)
  have HB := hid (((Below.refl w.heap.size w).alloc (Nat.le_refl _) (.cells #[.string o, .string n, .string x] 36)).alloc (by rw [World.size_alloc]; exact Nat.le_succ _) (.cells #[.string o2, .string n2, .string y] 36))
  by_cases ho : o = o2
  · subst ho
    by_cases hn : n = n2
    · subst hn
      have HE : Hid (lessP ((o, n), x) ((o, n), y) = Go.Op.bytesLess x.toList y.toList) := hid (by unfold lessP; rw [if_pos rfl, Lib.toList_data, Lib.toList_data])
      go_enter Tryz.func28, Tryz.ntmps28
      go_wp2_with fail
      go_ret
      exact ⟨by rw [HE.out]; rfl, HB.out⟩
    · obtain ⟨x1, x2⟩ := inne hn
      have HE : Hid (lessP ((o, n), x) ((o, n2), y) = lessL o n o n2) := hid (by unfold lessP; rw [if_neg (fun e => hn (Prod.mk.inj e).2)])
      clear hn
      go_enter Tryz.func28, Tryz.ntmps28
      go_wp2_with fail
      refine (HL.out _).mono ?_
      rintro er w2 ⟨rfl, b2⟩
      go_wp2
      go_ret
      exact ⟨by rw [HE.out]; rfl, HB.out.trans (b2.mono HB.out.size)⟩
  · obtain ⟨x1, x2⟩ := inne ho
    have HE : Hid (lessP ((o, n), x) ((o2, n2), y) = lessL o n o2 n2) := hid (by unfold lessP; rw [if_neg (fun e => ho (Prod.mk.inj e).1)])
    clear ho
    go_enter Tryz.func28, Tryz.ntmps28
    go_wp2_with fail
    refine (HL.out _).mono ?_
    rintro er w2 ⟨rfl, b2⟩
    go_wp2
    go_ret
    exact ⟨by rw [HE.out]; rfl, HB.out.trans (b2.mono HB.out.size)⟩
end Go.Proofs.YtcligogmmjdobaaGreatDoor.Sh
/-
  The document's own First, by contract.
-/
namespace Go.Proofs.YtcligogmmjdobaaGreatDoor.Sh
open Go Go.RowKit

set_option linter.unusedVariables false
set_option linter.unusedSimpArgs false
set_option maxHeartbeats 2000000 in
theorem first_any (c : Crd) (h0 : -9223372036854775808 ≤ c.d) (h1 : c.d < 9223372036854775808) (w : World) :
    Calls Tryz.prog 56 #[.agg c.cells.toArray] w fun e w' => e = .returned (.agg #[.string (domB c.d), .string c.an]) ∧ Below w.heap.size w w' := by
  obtain ⟨d, q, nm, kd, wh, ao, an, bo, bn⟩ := c
  simp only at h0 h1 ⊢
  obtain ⟨D, hD⟩ : ∃ D, domB d = D := ⟨_, rfl⟩
  have HD0 : Hid (∀ w, Calls Tryz.prog 97 #[.int .i64 d] w fun e w' => e = .returned (.string D) ∧ Below w.heap.size w w') := hid (fun w => by rw [← hD]; exact refDomain_any d h0 h1 w)
  rw [hD]
  clear hD
  obtain ⟨w1, hw1⟩ : ∃ w1, w1 = (w.alloc (.cells (Crd.cells ⟨d, q, nm, kd, wh, ao, an, bo, bn⟩).toArray 66)).alloc (.cells #[.string ⟨#[]⟩, .string ⟨#[]⟩] 33) := ⟨_, rfl⟩
  have r1 : CrAt w1 w.heap.size ⟨d, q, nm, kd, wh, ao, an, bo, bn⟩ := by rw [hw1]; exact (CrAt.new w _).kept (below_box _ _ _)
  have s1 : RoleAt w1 (w.heap.size + 1) ⟨#[]⟩ ⟨#[]⟩ := by rw [hw1]; have := RoleAt.new (w.alloc (.cells (Crd.cells ⟨d, q, nm, kd, wh, ao, an, bo, bn⟩).toArray 66)) ⟨#[]⟩ ⟨#[]⟩; rwa [World.size_alloc] at this
  have b1 : Below w.heap.size w w1 := by rw [hw1]; exact (below_cr w _).alloc (by rw [World.size_alloc]; exact Nat.le_succ _) _
  unfold Crd.cells at hw1 ⊢
  simp only at hw1 ⊢
  go_enter Tryz.func56, Tryz.ntmps56
  go_wp2_with fail
  rw [← hw1]
  clear hw1
  have HK := hid (fun W (hW : Below w1.heap.size w1 W) => (⟨(r1.kept hW).cell 0 _ rfl, (r1.kept hW).cell 6 _ rfl, (s1.kept hW).c0, (s1.kept hW).c1, (s1.kept hW).f 0, (s1.kept hW).f 1⟩ :
    W.cell? ⟨w.heap.size, 0, none⟩ = some (.int .i64 d) ∧ W.cell? ⟨w.heap.size, 6, none⟩ = some (.string an) ∧ W.cell? ⟨w.heap.size + 1, 0, none⟩ = some (.string ⟨#[]⟩) ∧ W.cell? ⟨w.heap.size + 1, 1, none⟩ = some (.string ⟨#[]⟩) ∧ W.frozen? ⟨w.heap.size + 1, 0, none⟩ = false ∧ W.frozen? ⟨w.heap.size + 1, 1, none⟩ = false))
  have HS := hid (fun W (hW : Below w1.heap.size w1 W) => s1.kept hW)
  have HD := hid (Below.refl w1.heap.size w1).drew
  have H0 := hid b1
  clear r1 s1 b1
  obtain ⟨k1, k2, k3, k4, k5, k6⟩ := HK.out _ (Below.refl _ _)
  go_region_with ((go_at_call 97; (refine (HD0.out _).mono ?_); rintro er w5 ⟨rfl, bb⟩; have B1 := hid (kept_trans HD.out HD.out.size bb); (obtain ⟨j1, j2, j3, j4, j5, j6⟩ := HK.out _ B1.out); clear bb))
  all_goals
    go_wp2
    refine bodyPost_ret (results_mid (h := Tryz.results56) _ _ (w.heap.size + 1) 0 [.string D, .string an] _ rfl (range_row (pair_set (HS.out _ B1.out))) Tryz.underlying33 rfl info_role) rfl
      ⟨rfl, ((H0.out.trans (B1.out.mono H0.out.size)).setCell (Nat.le_succ _) _).setCell (Nat.le_succ _) _⟩

end Go.Proofs.YtcligogmmjdobaaGreatDoor.Sh
/-
  A region that draws its order, whose loads read what stands below a block, and whose callees only make new blocks and hand back plain values: one walk of the text's own order.
-/
namespace Go.Proofs.YtcligogmmjdobaaGreatDoor.Sh
open Go Go.RowKit

/-- The worlds that are as w0 is, below block B. -/
def Wn (B : Nat) (w0 : World) := { W : World // Below B w0 W }
instance someWn (B : Nat) (w0 : World) : Nonempty (Wn B w0) := ⟨⟨w0, Below.refl B w0⟩⟩
section
variable {P : Program} {B : Nat} {w0 : World}
theorem region_in {id : Nat} {Q : Exit → Act → World → Prop} {a : Act} {w : World} {l : List Oper} (B : Nat) (w0 : World) (hm : P.follows .mixedOrders = true) (hB : Region.lexB .any l.toArray = true) (hC : Below B w0 w.drew)
    (h : wpQuiet P l.toArray (fun W => ∃ x : Wn B w0, W = x.1) (fun a' => ∀ W, Below B w0 W → Q .normal a' W) l a) : (Code.region id l.toArray true).wp P Q a w := by
  have e : (fun a' => ∀ W, (∃ x : Wn B w0, W = x.1) → Q .normal a' W) = fun a' => ∀ W, Below B w0 W → Q .normal a' W := by
    funext a'
    apply propext
    exact ⟨fun h W hW => h W ⟨⟨W, hW⟩, rfl⟩, fun h W ⟨x, hx⟩ => hx ▸ h x.1 x.2⟩
  refine wp_region_quiet (C := fun W => ∃ x : Wn B w0, W = x.1) hm hB ⟨⟨_, hC⟩, rfl⟩ ?_
  rw [e]
  simpa using h
theorem call_in {f : FuncId} {args : Array Value} {x : Wn B w0} {v : Value} (hB : B ≤ w0.heap.size) (h : Calls P f args x.1 fun e w' => e = .returned v ∧ Below x.1.heap.size x.1 w') :
    Calls P f args x.1 fun e w'' => e = .returned v ∧ ∃ y : Wn B w0, w'' = y.1 :=
  h.mono fun _ _ ⟨h1, h2⟩ => ⟨h1, ⟨_, x.2.trans (h2.mono (Nat.le_trans hB x.2.size))⟩, rfl⟩
end
end Go.Proofs.YtcligogmmjdobaaGreatDoor.Sh
