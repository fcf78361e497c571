/-
  The document's own name, ReadRole and Read of a credential.
-/
import Derived.Test.YtkggagnaiiemlaaDoorCrRefP
namespace Go.Proofs.YtkggagnaiiemlaaDoor.Sh
open Go Go.RowKit

/-- A store into a block that is new since a. -/
theorem gro_new {a w w' : World} {g b : Nat} (h : a.grownBy w (some g)) (hg : w.grownBy w' (some b)) (hb : a.heap.size ≤ b) : a.grownBy w' (some g) :=
  ⟨hg.os.trans h.os, hg.tape.trans h.tape, hg.output.trans h.output, Nat.le_trans h.size hg.size, fun k hk hne =>
    (hg.block k (Nat.lt_of_lt_of_le hk h.size) (fun e => by injection e with e; omega)).trans (h.block k hk hne)⟩
theorem gro_trans {a b c : World} {row : Option Nat} (h : a.grownBy b row) (k : b.grownBy c row) : a.grownBy c row :=
  ⟨k.os.trans h.os, k.tape.trans h.tape, k.output.trans h.output, Nat.le_trans h.size k.size, fun i hi hne => (k.block i (Nat.lt_of_lt_of_le hi h.size) hne).trans (h.block i hi hne)⟩
theorem gro_below {a w w' : World} {row : Option Nat} (h : a.grownBy w row) (hb : Below w.heap.size w w') : a.grownBy w' row :=
  ⟨hb.os.trans h.os, hb.tape.trans h.tape, hb.output.trans h.output, Nat.le_trans h.size hb.size, fun i hi hne => (hb.block i (Nat.lt_of_lt_of_le hi h.size)).trans (h.block i hi hne)⟩
theorem gro_alloc {a w : World} {row : Option Nat} (h : a.grownBy w row) (o : Obj) : a.grownBy (w.alloc o) row := gro_below h ((Below.refl _ _).alloc (Nat.le_refl _) _)
theorem gro_refl (w : World) (row : Option Nat) : w.grownBy w row := ⟨rfl, rfl, rfl, Nat.le_refl _, fun _ _ _ => rfl⟩

set_option maxHeartbeats 2000000 in
theorem refName_any {w : World} {lo hi g n c p : Nat} {A : Option Addr} {l : List UInt8} {e : Int} (h : Cu 43 w lo hi g A n c l p e) :
    Calls Tryd.prog 52 #[.pointer (some ⟨g, 0, none⟩)] w fun er w' => StepC 43 w w' lo hi g A n c l er (.string ⟨(nameStep l p e).1.toArray⟩) (nameStep l p e).2.1 (nameStep l p e).2.2 := by
  have HT := hid (rcu_text h 8)
  obtain ⟨S, p1, e1, hx⟩ : ∃ S p1 e1, textStep l p e 8 = (S, p1, e1) := ⟨_, _, _, rfl⟩
  rw [hx] at HT
  have HN : Hid (nameStep l p e = (S, p1, if mayL S = true then e1 else if e1 = 0 then 2 else e1)) := hid (by unfold nameStep; rw [hx])
  clear hx
  have HM := hid (fun w => refMay_any ⟨S.toArray⟩ w)
  obtain ⟨b, hb⟩ : ∃ b, mayL S = b := ⟨_, rfl⟩
  rw [mk_toList, hb] at HM
  rw [hb] at HN
  clear hb
  go_enter Tryd.func52, Tryd.ntmps52
  go_wp2_with fail
  refine HT.out.mono ?_
  rintro er w1 ⟨rfl, X1, G1⟩
  go_wp2_with fail
  refine (HM.out _).mono ?_
  rintro er w2 ⟨rfl, rfl⟩
  cases b with
  | true =>
    go_wp2
    go_ret
    rw [HN.out]
    exact ⟨rfl, X1, G1⟩
  | false =>
    have HF := hid (rcu_fail X1 2)
    go_wp2_with fail
    refine HF.out.mono ?_
    rintro er w2 ⟨rfl, X2, G2⟩
    go_wp2
    go_ret
    rw [HN.out]
    exact ⟨rfl, X2, gro_trans G1 G2⟩

/-- Reading a credential: the cursor, the block of the credential under way, the block of the result; nothing else turned. -/
structure Rd (T : TypeId) (w0 w : World) (lo hi g : Nat) (A : Option Addr) (n c : Nat) (l : List UInt8) (p : Nat) (e : Int) (X R : Nat) (x : Crd) : Prop where
  cu : Cu T w lo hi g A n c l p e
  row : CrAt w X x
  res : CrAt w R .zero
  gro : w0.grownBy w (some g)
  new : w0.heap.size ≤ X ∧ w0.heap.size ≤ R ∧ g < w0.heap.size ∧ X ≠ R
theorem CrAt.grown {w w' : World} {X : Nat} {r : Option Nat} {x : Crd} (h : CrAt w X x) (hg : w.grownBy w' r) (hne : r ≠ some X) : CrAt w' X x := (hg.block X h.lt (fun e => hne e.symm)).trans h
section
variable {T : TypeId} {w0 w w' : World} {lo hi g n c p p' : Nat} {A : Option Addr} {l : List UInt8} {e e' : Int} {X R : Nat} {x : Crd} {er : Ending} {v : Value}
theorem Rd.step (h : Rd T w0 w lo hi g A n c l p e X R x) (s : StepC T w w' lo hi g A n c l er v p' e') : er = .returned v ∧ Rd T w0 w' lo hi g A n c l p' e' X R x := by
  obtain ⟨rfl, X1, G1⟩ := s
  have := h.new
  exact ⟨rfl, X1, h.row.grown G1 (by intro e; injection e with e; omega), h.res.grown G1 (by intro e; injection e with e; omega), gro_trans h.gro G1, h.new⟩
theorem Rd.below (h : Rd T w0 w lo hi g A n c l p e X R x) (b : Below w.heap.size w w') : Rd T w0 w' lo hi g A n c l p e X R x :=
  ⟨h.cu.below b h.cu.lt, h.row.kept b, h.res.kept b, gro_below h.gro b, h.new⟩
theorem Rd.set (h : Rd T w0 w lo hi g A n c l p e X R x) (k : Nat) (u : Value) {y : Crd} (hy : CrAt (w.setCell ⟨X, k, none⟩ u) X y) : Rd T w0 (w.setCell ⟨X, k, none⟩ u) lo hi g A n c l p e X R y := by
  have hn := h.new
  have hg := grown_set w X k u
  exact ⟨h.cu.other hg (by omega) (.inr (by have := h.cu.hi; omega)), hy, h.res.grown hg (by intro e; injection e with e; omega), gro_new h.gro hg hn.1, hn⟩
end
section
variable {w : World} {X : Nat} {d q kd : Int} {nm wh ao an bo bn : ByteArray}
theorem CrAt.set0 (h : CrAt w X ⟨d, q, nm, kd, wh, ao, an, bo, bn⟩) (v : Int) : CrAt (w.setCell ⟨X, 0, none⟩ (.int .i64 v)) X ⟨v, q, nm, kd, wh, ao, an, bo, bn⟩ := heap_setCell_same w X 0 _ _ _ h
theorem CrAt.set1 (h : CrAt w X ⟨d, q, nm, kd, wh, ao, an, bo, bn⟩) (v : Int) : CrAt (w.setCell ⟨X, 1, none⟩ (.int .i64 v)) X ⟨d, v, nm, kd, wh, ao, an, bo, bn⟩ := heap_setCell_same w X 1 _ _ _ h
theorem CrAt.set2 (h : CrAt w X ⟨d, q, nm, kd, wh, ao, an, bo, bn⟩) (v : ByteArray) : CrAt (w.setCell ⟨X, 2, none⟩ (.string v)) X ⟨d, q, v, kd, wh, ao, an, bo, bn⟩ := heap_setCell_same w X 2 _ _ _ h
theorem CrAt.set3 (h : CrAt w X ⟨d, q, nm, kd, wh, ao, an, bo, bn⟩) (v : Int) : CrAt (w.setCell ⟨X, 3, none⟩ (.int .i64 v)) X ⟨d, q, nm, v, wh, ao, an, bo, bn⟩ := heap_setCell_same w X 3 _ _ _ h
theorem CrAt.set4 (h : CrAt w X ⟨d, q, nm, kd, wh, ao, an, bo, bn⟩) (v : ByteArray) : CrAt (w.setCell ⟨X, 4, none⟩ (.string v)) X ⟨d, q, nm, kd, v, ao, an, bo, bn⟩ := heap_setCell_same w X 4 _ _ _ h
theorem CrAt.set5 (h : CrAt w X ⟨d, q, nm, kd, wh, ao, an, bo, bn⟩) (v : ByteArray) : CrAt (w.setCell ⟨X, 5, none⟩ (.string v)) X ⟨d, q, nm, kd, wh, v, an, bo, bn⟩ := heap_setCell_same w X 5 _ _ _ h
theorem CrAt.set6 (h : CrAt w X ⟨d, q, nm, kd, wh, ao, an, bo, bn⟩) (v : ByteArray) : CrAt (w.setCell ⟨X, 6, none⟩ (.string v)) X ⟨d, q, nm, kd, wh, ao, v, bo, bn⟩ := heap_setCell_same w X 6 _ _ _ h
theorem CrAt.set7 (h : CrAt w X ⟨d, q, nm, kd, wh, ao, an, bo, bn⟩) (v : ByteArray) : CrAt (w.setCell ⟨X, 7, none⟩ (.string v)) X ⟨d, q, nm, kd, wh, ao, an, v, bn⟩ := heap_setCell_same w X 7 _ _ _ h
theorem CrAt.set8 (h : CrAt w X ⟨d, q, nm, kd, wh, ao, an, bo, bn⟩) (v : ByteArray) : CrAt (w.setCell ⟨X, 8, none⟩ (.string v)) X ⟨d, q, nm, kd, wh, ao, an, bo, v⟩ := heap_setCell_same w X 8 _ _ _ h
theorem CrAt.f (h : CrAt w X ⟨d, q, nm, kd, wh, ao, an, bo, bn⟩) (k : Nat) : w.frozen? ⟨X, k, none⟩ = false := frozen_of_row w X k _ _ h
end

set_option maxHeartbeats 2000000 in
theorem refReadRole_any {w : World} {lo hi g n c p : Nat} {A : Option Addr} {l : List UInt8} {e : Int} (h : Cu 43 w lo hi g A n c l p e) :
    Calls Tryd.prog 53 #[.pointer (some ⟨g, 0, none⟩)] w fun er w' =>
      StepC 43 w w' lo hi g A n c l er (.agg #[.string ⟨(roleStep l p e).1.1.toArray⟩, .string ⟨(roleStep l p e).1.2.toArray⟩]) (roleStep l p e).2.1 (roleStep l p e).2.2 := by
  obtain ⟨V, p1, e1, hx⟩ : ∃ V p1 e1, numStep l p e 1 16 = (V, p1, e1) := ⟨_, _, _, rfl⟩
  obtain ⟨S, p2, e2, hy⟩ : ∃ S p2 e2, nameStep l p1 e1 = (S, p2, e2) := ⟨_, _, _, rfl⟩
  have HR : Hid (roleStep l p e = ((domL V, S), p2, e2)) := hid (by unfold roleStep; rw [hx]; simp only; rw [hy])
  have HV : Hid (-9223372036854775808 ≤ V ∧ V < 9223372036854775808) := hid (by
    obtain ⟨V', p', e', h1, h2, _⟩ := numStep_nat l p e 1 16 (by rw [h.len]; exact h.place)
    rw [hx] at h1
    simp only [Prod.mk.injEq] at h1
    omega)
  have hgl := h.lt
  have hhi := h.hi
  obtain ⟨w1, hw1⟩ : ∃ w1, w1 = (w.alloc (.cells #[.string ⟨#[]⟩, .string ⟨#[]⟩] 25)).alloc (.cells #[.string ⟨#[]⟩, .string ⟨#[]⟩] 25) := ⟨_, rfl⟩
  have r1 : RoleAt w1 w.heap.size ⟨#[]⟩ ⟨#[]⟩ := by rw [hw1]; exact (RoleAt.new w _ _).kept (below_box _ _ _)
  have s1 : RoleAt w1 (w.heap.size + 1) ⟨#[]⟩ ⟨#[]⟩ := by rw [hw1]; have := RoleAt.new (w.alloc (.cells #[.string ⟨#[]⟩, .string ⟨#[]⟩] 25)) ⟨#[]⟩ ⟨#[]⟩; rwa [World.size_alloc] at this
  have b1 : Below w.heap.size w w1 := by rw [hw1]; exact (below_box w _ _).trans ((below_box _ _ _).mono (by rw [World.size_alloc]; exact Nat.le_succ _))
  have X1 := h.below b1 hgl
  have G1 := gro_below (gro_refl w (some g)) b1
  go_enter Tryd.func53, Tryd.ntmps53
  go_wp2_with fail
  rw [← hw1]
  clear hw1
  refine (rcu_number X1 1 16).mono ?_
  rw [hx]
  rintro er w2 ⟨rfl, X2, G2⟩
  have r2 : RoleAt w2 w.heap.size ⟨#[]⟩ ⟨#[]⟩ := (G2.block _ r1.lt (fun e => by injection e with e; omega)).trans r1
  have s2 : RoleAt w2 (w.heap.size + 1) ⟨#[]⟩ ⟨#[]⟩ := (G2.block _ s1.lt (fun e => by injection e with e; omega)).trans s1
  have K2 := gro_trans G1 G2
  clear r1 s1 b1 X1 G1 G2 hx
  go_wp2_with fail
  refine (refDomain_any V HV.out.1 HV.out.2 w2).mono ?_
  rintro er w3 ⟨rfl, bb⟩
  have r3 := r2.kept bb
  have s3 := s2.kept bb
  have X3 := X2.below bb X2.lt
  have K3 := gro_below K2 bb
  clear r2 s2 X2 K2 bb
  have f0 := s3.f 0
  have q0 := s3.c0
  have hgs := grown_set w3 (w.heap.size + 1) 0 (.string ⟨(domL V).toArray⟩)
  have s4 : RoleAt (w3.setCell ⟨w.heap.size + 1, 0, none⟩ (.string ⟨(domL V).toArray⟩)) (w.heap.size + 1) ⟨(domL V).toArray⟩ ⟨#[]⟩ := heap_setCell_same w3 _ 0 _ _ _ s3
  have r4 : RoleAt (w3.setCell ⟨w.heap.size + 1, 0, none⟩ (.string ⟨(domL V).toArray⟩)) w.heap.size ⟨#[]⟩ ⟨#[]⟩ := (hgs.block _ r3.lt (fun e => by injection e with e; omega)).trans r3
  have X4 := X3.other hgs (by omega) (.inr (by omega))
  have K4 := gro_new K3 hgs (by omega)
  have R4 := hid r4
  have S4 := hid s4
  have HK4 := hid K4
  have HX4 := hid X4
  clear r3 s3 X3 K3 hgs r4 s4 K4 X4
  go_wp2_with fail
  refine (refName_any HX4.out).mono ?_
  rw [hy]
  rintro er w5 ⟨rfl, X5, G5⟩
  have r5 : RoleAt w5 w.heap.size ⟨#[]⟩ ⟨#[]⟩ := (G5.block _ R4.out.lt (fun e => by injection e with e; omega)).trans R4.out
  have s5 : RoleAt w5 (w.heap.size + 1) ⟨(domL V).toArray⟩ ⟨#[]⟩ := (G5.block _ S4.out.lt (fun e => by injection e with e; omega)).trans S4.out
  have K5 := gro_trans HK4.out G5
  clear R4 S4 HX4 HK4 G5 hy f0 q0
  have f1 := s5.f 1
  have q1 := s5.c1
  have hgs := grown_set w5 (w.heap.size + 1) 1 (.string ⟨S.toArray⟩)
  have s6 : RoleAt (w5.setCell ⟨w.heap.size + 1, 1, none⟩ (.string ⟨S.toArray⟩)) (w.heap.size + 1) ⟨(domL V).toArray⟩ ⟨S.toArray⟩ := heap_setCell_same w5 _ 1 _ _ _ s5
  have r6 : RoleAt (w5.setCell ⟨w.heap.size + 1, 1, none⟩ (.string ⟨S.toArray⟩)) w.heap.size ⟨#[]⟩ ⟨#[]⟩ := (hgs.block _ r5.lt (fun e => by injection e with e; omega)).trans r5
  have HX6 := hid (X5.other hgs (by omega) (.inr (by omega)))
  have HK6 := hid (gro_new K5 hgs (by omega))
  clear r5 s5 X5 K5 hgs
  have z0 := s6.c0
  have z1 := s6.c1
  have y0 := r6.c0
  have y1 := r6.c1
  have g0 := r6.f 0
  have g1 := r6.f 1
  have HR6 := hid r6
  clear r6 s6
  go_wp2
  refine bodyPost_ret (results_mid (h := Tryd.results53) _ _ w.heap.size 0 [.string ⟨(domL V).toArray⟩, .string ⟨S.toArray⟩] _ rfl (range_row (pair_set HR6.out)) Tryd.underlying25 rfl info_role) rfl ?_
  rw [HR.out]
  refine ⟨rfl, ?_, ?_⟩
  · exact (HX6.out.other (grown_set _ w.heap.size 0 _) (by omega) (.inr (by omega))).other (grown_set _ w.heap.size 1 _) (by omega) (.inr (by omega))
  · exact gro_new (gro_new HK6.out (grown_set _ w.heap.size 0 _) (Nat.le_refl _)) (grown_set _ w.heap.size 1 _) (Nat.le_refl _)
end Go.Proofs.YtkggagnaiiemlaaDoor.Sh
