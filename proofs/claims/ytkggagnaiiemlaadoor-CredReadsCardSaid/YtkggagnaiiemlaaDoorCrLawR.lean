/-
  The walk of CredReads.
-/
import Derived.Test.YtkggagnaiiemlaaDoorCrEq
namespace Go.Proofs.YtkggagnaiiemlaaDoor.Sh
open Go Go.RowKit

/-- The document's cursor over bytes that came in. -/
theorem rcu_box (w : World) (A : Option Addr) (l : List UInt8) (n c B : Nat) (hn : l.length = n) (hc : n ≤ c) (hL : n ≤ 1099511627776) (hb : Byt w B A l) (hB : B ≤ w.heap.size) :
    Cu 43 (w.alloc (.cells #[.slice A n c, .int .i64 0, .int .i64 0] 43)) 0 B w.heap.size A n c l 0 0 :=
  ⟨heap_alloc_new w _, hb.below ((Below.refl _ _).alloc hB _), fun _ _ => Nat.zero_le _, hB, hn, hc, hL, Nat.zero_le _⟩

set_option maxRecDepth 20000 in
set_option maxHeartbeats 8000000 in
theorem credReads_walk (A : Option Addr) (l : List UInt8) (n k : Nat) (hn : l.length = n) (hk : n ≤ k) (hk2 : k ≤ 9223372036854775807) (w : World) (hb : Byt w w.heap.size A l) :
    Calls Tryd.prog 5 #[.slice A n k] w fun e w' => e = .returned (.bool true) ∧ Below w.heap.size w w' := by
  by_cases h20 : 200 < n
  · have hN : (l.take 200).length = 200 := by rw [List.length_take]; omega
    have y0 := hb.head (hi := 200)
    have h20' : (200 : Int) < (n : Int) := by omega
    have h20k : 200 ≤ k := by omega
    have HN := hid hN
    obtain ⟨x, p, e, hx⟩ : ∃ x p e, readC (l.take 200) 0 0 = (x, p, e) := ⟨_, _, _, rfl⟩
    obtain ⟨V, hV⟩ : ∃ V, V = Value.agg x.cells.toArray := ⟨_, rfl⟩
    have heq : ∀ W, (binOp .eql 27 V V).run Tryd.prog W = .ok (.bool true) W := fun W => by rw [hV]; exact eq_cred x W
    have hgd : ∀ W, (eqGuard .eql 27 (.tmp 18) (.tmp 20) V V).run Tryd.prog W = .ok () W := fun W => by rw [hV]; exact guard_cred x _ _ W
    have heqz : ∀ W, (binOp .eql 27 (.agg #[.int .i64 0, .int .i64 0, .string ⟨#[]⟩, .int .i64 0, .string ⟨#[]⟩, .string ⟨#[]⟩, .string ⟨#[]⟩, .string ⟨#[]⟩, .string ⟨#[]⟩]) (.agg #[.int .i64 0, .int .i64 0, .string ⟨#[]⟩, .int .i64 0, .string ⟨#[]⟩, .string ⟨#[]⟩, .string ⟨#[]⟩, .string ⟨#[]⟩, .string ⟨#[]⟩])).run Tryd.prog W = .ok (.bool true) W := fun W => eq_cred Crd.zero W
    go_enter Tryd.func5, Tryd.ntmps5
    go_wp2_with fail
    refine (cu_new (c := k) hN (by omega) w y0).mono ?_
    rintro er w1 ⟨g, A1, k1, rfl, X1, hg, b1⟩
    have y1 := y0.below b1
    have hgl := X1.lt
    have Z2 := rcu_box w1 A (l.take 200) 200 k w.heap.size hN (by omega) (by omega) y1 b1.size
    have X2 := X1.below ((Below.refl _ _).alloc (Nat.le_refl _) (.cells #[.slice A 200 k, .int .i64 0, .int .i64 0] 43)) hgl
    have b2 := b1.alloc b1.size (.cells #[.slice A 200 k, .int .i64 0, .int .i64 0] 43)
    obtain ⟨gx, hgx⟩ : ∃ gx, gx = w1.heap.size := ⟨_, rfl⟩
    rw [← hgx] at Z2
    have hgg : g < gx := by omega
    have hgw : w.heap.size ≤ gx := by have := b1.size; omega
    clear X1 y1 b1 hb y0 hn hN
    go_wp2_with fail
    rw [← hgx]
    obtain ⟨w2, hw2⟩ : ∃ w2, w2 = w1.alloc (.cells #[.slice A 200 k, .int .i64 0, .int .i64 0] 43) := ⟨_, rfl⟩
    rw [← hw2] at X2 Z2 b2 ⊢
    clear hw2 hgx hgl
    have HX := hid (X2.below (Below.refl w2.heap.size w2).drew X2.lt)
    have HZ := hid (Z2.below (Below.refl w2.heap.size w2).drew Z2.lt)
    have HB := hid b2.drew
    have C1 : Hid (∀ W, Cu 69 W w.heap.size g g A1 200 k1 (l.take 200) 0 0 → Calls Tryd.prog 22 #[.pointer (some ⟨g, 0, none⟩)] W fun er w' => StepC 69 W w' w.heap.size g g A1 200 k1 (l.take 200) er V p e) := hid (fun W h => by
      have := readC_any h
      unfold ReadEnd at this
      rw [hx] at this
      rw [hV]
      exact this)
    have C2 : Hid (∀ W, Cu 43 W 0 w.heap.size gx A 200 k (l.take 200) 0 0 → Calls Tryd.prog 23 #[.pointer (some ⟨gx, 0, none⟩)] W fun er w' => StepC 43 W w' 0 w.heap.size gx A 200 k (l.take 200) er V p e) := hid (fun W h => by
      have := refReadC_any h
      unfold ReadEnd at this
      rw [hx] at this
      rw [hV]
      exact this)
    have C3 : Hid (∀ W, Calls Tryd.prog 22 #[.pointer none] W fun er w' => er = .returned (.agg #[.int .i64 0, .int .i64 0, .string ⟨#[]⟩, .int .i64 0, .string ⟨#[]⟩, .string ⟨#[]⟩, .string ⟨#[]⟩, .string ⟨#[]⟩, .string ⟨#[]⟩]) ∧ Below W.heap.size W w') := hid (fun W => readNil_any W)
    clear X2 Z2 b2 hx hV
    go_region_with ((first
      | (go_at_call 22; (refine (C1.out _ HX.out).mono ?_); rintro er w3 ⟨rfl, X3, G3⟩; have HG3 := hid G3; have HX3 := hid X3; have HZ3 := hid (HZ.out.other G3 (by omega) (.inr (by omega))); have HB3 := hid (HB.out.grown G3 HB.out.size (fun x e => by injection e with e; omega)); clear X3 G3 HX HZ)
      | (go_at_call 23; (refine (C2.out _ HZ3.out).mono ?_); rintro er w4 ⟨rfl, Z4, G4⟩; have HX4 := hid (HX3.out.other G4 (by omega) (.inr (by omega))); have HB4 := hid (HB3.out.grown G4 HB3.out.size (fun x e => by injection e with e; omega)); have z1 := Z4.row.c1; have z2 := Z4.row.c2; clear Z4 G4)
      | (go_at_call 24; (refine (place_any _ _ _ _ _ _ _ HX4.out.row).mono ?_); rintro er w5 ⟨rfl, rfl⟩)
      | (go_at_call 25; (refine (err_any _ _ _ _ _ _ _ HX4.out.row).mono ?_); rintro er w5 ⟨rfl, rfl⟩)
      | (go_at_call 22; (refine (C3.out _).mono ?_); rintro er w6 ⟨rfl, bb⟩; have HB6 := hid (HB4.out.trans (bb.mono HB4.out.size)); clear bb)
      | (go_at_call 17; (refine (lives_any _).mono ?_); rintro er w7 ⟨rfl, bb⟩; have HB7 := hid (HB6.out.trans (bb.mono HB6.out.size)); clear bb)
      ))
    all_goals
      go_wp2
      go_ret
      exact ⟨rfl, HB7.out⟩
  · have hN : l.length = n := hn
    have y0 := hb
    have h20' : ¬ (200 : Int) < (n : Int) := by omega
    have HN := hid hN
    obtain ⟨x, p, e, hx⟩ : ∃ x p e, readC l 0 0 = (x, p, e) := ⟨_, _, _, rfl⟩
    obtain ⟨V, hV⟩ : ∃ V, V = Value.agg x.cells.toArray := ⟨_, rfl⟩
    have heq : ∀ W, (binOp .eql 27 V V).run Tryd.prog W = .ok (.bool true) W := fun W => by rw [hV]; exact eq_cred x W
    have hgd : ∀ W, (eqGuard .eql 27 (.tmp 18) (.tmp 20) V V).run Tryd.prog W = .ok () W := fun W => by rw [hV]; exact guard_cred x _ _ W
    have heqz : ∀ W, (binOp .eql 27 (.agg #[.int .i64 0, .int .i64 0, .string ⟨#[]⟩, .int .i64 0, .string ⟨#[]⟩, .string ⟨#[]⟩, .string ⟨#[]⟩, .string ⟨#[]⟩, .string ⟨#[]⟩]) (.agg #[.int .i64 0, .int .i64 0, .string ⟨#[]⟩, .int .i64 0, .string ⟨#[]⟩, .string ⟨#[]⟩, .string ⟨#[]⟩, .string ⟨#[]⟩, .string ⟨#[]⟩])).run Tryd.prog W = .ok (.bool true) W := fun W => eq_cred Crd.zero W
    go_enter Tryd.func5, Tryd.ntmps5
    go_wp2_with fail
    refine (cu_new (c := k) hN (by omega) w y0).mono ?_
    rintro er w1 ⟨g, A1, k1, rfl, X1, hg, b1⟩
    have y1 := y0.below b1
    have hgl := X1.lt
    have Z2 := rcu_box w1 A l n k w.heap.size hN (by omega) (by omega) y1 b1.size
    have X2 := X1.below ((Below.refl _ _).alloc (Nat.le_refl _) (.cells #[.slice A n k, .int .i64 0, .int .i64 0] 43)) hgl
    have b2 := b1.alloc b1.size (.cells #[.slice A n k, .int .i64 0, .int .i64 0] 43)
    obtain ⟨gx, hgx⟩ : ∃ gx, gx = w1.heap.size := ⟨_, rfl⟩
    rw [← hgx] at Z2
    have hgg : g < gx := by omega
    have hgw : w.heap.size ≤ gx := by have := b1.size; omega
    clear X1 y1 b1 hb y0 hn hN
    go_wp2_with fail
    rw [← hgx]
    obtain ⟨w2, hw2⟩ : ∃ w2, w2 = w1.alloc (.cells #[.slice A n k, .int .i64 0, .int .i64 0] 43) := ⟨_, rfl⟩
    rw [← hw2] at X2 Z2 b2 ⊢
    clear hw2 hgx hgl
    have HX := hid (X2.below (Below.refl w2.heap.size w2).drew X2.lt)
    have HZ := hid (Z2.below (Below.refl w2.heap.size w2).drew Z2.lt)
    have HB := hid b2.drew
    have C1 : Hid (∀ W, Cu 69 W w.heap.size g g A1 n k1 l 0 0 → Calls Tryd.prog 22 #[.pointer (some ⟨g, 0, none⟩)] W fun er w' => StepC 69 W w' w.heap.size g g A1 n k1 l er V p e) := hid (fun W h => by
      have := readC_any h
      unfold ReadEnd at this
      rw [hx] at this
      rw [hV]
      exact this)
    have C2 : Hid (∀ W, Cu 43 W 0 w.heap.size gx A n k l 0 0 → Calls Tryd.prog 23 #[.pointer (some ⟨gx, 0, none⟩)] W fun er w' => StepC 43 W w' 0 w.heap.size gx A n k l er V p e) := hid (fun W h => by
      have := refReadC_any h
      unfold ReadEnd at this
      rw [hx] at this
      rw [hV]
      exact this)
    have C3 : Hid (∀ W, Calls Tryd.prog 22 #[.pointer none] W fun er w' => er = .returned (.agg #[.int .i64 0, .int .i64 0, .string ⟨#[]⟩, .int .i64 0, .string ⟨#[]⟩, .string ⟨#[]⟩, .string ⟨#[]⟩, .string ⟨#[]⟩, .string ⟨#[]⟩]) ∧ Below W.heap.size W w') := hid (fun W => readNil_any W)
    clear X2 Z2 b2 hx hV
    go_region_with ((first
      | (go_at_call 22; (refine (C1.out _ HX.out).mono ?_); rintro er w3 ⟨rfl, X3, G3⟩; have HG3 := hid G3; have HX3 := hid X3; have HZ3 := hid (HZ.out.other G3 (by omega) (.inr (by omega))); have HB3 := hid (HB.out.grown G3 HB.out.size (fun x e => by injection e with e; omega)); clear X3 G3 HX HZ)
      | (go_at_call 23; (refine (C2.out _ HZ3.out).mono ?_); rintro er w4 ⟨rfl, Z4, G4⟩; have HX4 := hid (HX3.out.other G4 (by omega) (.inr (by omega))); have HB4 := hid (HB3.out.grown G4 HB3.out.size (fun x e => by injection e with e; omega)); have z1 := Z4.row.c1; have z2 := Z4.row.c2; clear Z4 G4)
      | (go_at_call 24; (refine (place_any _ _ _ _ _ _ _ HX4.out.row).mono ?_); rintro er w5 ⟨rfl, rfl⟩)
      | (go_at_call 25; (refine (err_any _ _ _ _ _ _ _ HX4.out.row).mono ?_); rintro er w5 ⟨rfl, rfl⟩)
      | (go_at_call 22; (refine (C3.out _).mono ?_); rintro er w6 ⟨rfl, bb⟩; have HB6 := hid (HB4.out.trans (bb.mono HB4.out.size)); clear bb)
      | (go_at_call 17; (refine (lives_any _).mono ?_); rintro er w7 ⟨rfl, bb⟩; have HB7 := hid (HB6.out.trans (bb.mono HB6.out.size)); clear bb)
      ))
    all_goals
      go_wp2
      go_ret
      exact ⟨rfl, HB7.out⟩
end Go.Proofs.YtkggagnaiiemlaaDoor.Sh
